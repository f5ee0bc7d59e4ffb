import PyProof.Rows.All
import Wide.All
import OpenK.AllK
import Wide.FinOn
import Lean
import PyProof.EqAt
import PyProof.EqKinds
import PyProof.TupleCall
import PyProof.NeKinds
import PyProof.ZipIter
import KE.KRevIter
import PyProof.ListRange
import KE.LcSums
import PyProof.Rows.MinMaxN
import KE.KTryDeep
import PyProof.ExcArgsOwn
import PyProof.ExcAttrAll.ValueError
import KE.KIsAll
import KE.RegKIsAll
import PySem.Challenge.RW_evenmix_k65_step_and_bar_papers
set_option Elab.async false
set_option linter.all false
set_option maxRecDepth 100000
namespace L2
open PySem PySem.Spec PyProof.Rows
abbrev Key := Sum Int Str
def keyIs : Key → Value → Bool
  | .inl k, v => Value.isInt k v
  | .inr x, v => Value.isStrOf x v
def keyH (w : World) : Key → Int
  | .inl k => hashInt k
  | .inr x => hashStr w x
theorem keyIs_shape : ∀ {k : Key} {v : Value}, keyIs k v = true → (∃ i t, k = Sum.inl i ∧ v = Value.int i t) ∨ (∃ x t, k = Sum.inr x ∧ v = Value.str x t)
  | .inl i, v, h => by
    obtain ⟨t, e⟩ := Value.isInt_shape (k := i) (v := v) h
    exact .inl ⟨i, t, rfl, e⟩
  | .inr x, v, h => by
    obtain ⟨t, e⟩ := Value.isStrOf_shape (x := x) (v := v) h
    exact .inr ⟨x, t, rfl, e⟩
theorem key_ll (a b : Int) : decide ((Sum.inl a : Key) = Sum.inl b) = (a == b) := by
  by_cases e : a = b
  · subst e; simp
  · have h : ¬ (Sum.inl a : Key) = Sum.inl b := fun q => e (Sum.inl.inj q)
    rw [decide_eq_false h]
    exact (beq_eq_false_iff_ne.mpr e).symm
theorem key_rr (a b : Str) : decide ((Sum.inr a : Key) = Sum.inr b) = decide (a = b) := by
  by_cases e : a = b
  · subst e; simp
  · have h : ¬ (Sum.inr a : Key) = Sum.inr b := fun q => e (Sum.inr.inj q)
    rw [decide_eq_false h, decide_eq_false e]
theorem key_lr (a : Int) (b : Str) : decide ((Sum.inl a : Key) = Sum.inr b) = false := decide_eq_false (fun q => nomatch q)
theorem key_rl (a : Str) (b : Int) : decide ((Sum.inr a : Key) = Sum.inl b) = false := decide_eq_false (fun q => nomatch q)
def mixKind (prog : Program) (w : World) : PySem.KeyKind prog w Key where
  is := keyIs
  hash := keyH w
  inj := fun v a b ha hb => by
    rcases keyIs_shape ha with ⟨i, t, rfl, rfl⟩ | ⟨x, t, rfl, rfl⟩
    · rcases keyIs_shape hb with ⟨j, u, rfl, e⟩ | ⟨y, u, rfl, e⟩
      · injection e with e1 _; rw [e1]
      · exact nomatch e
    · rcases keyIs_shape hb with ⟨j, u, rfl, e⟩ | ⟨y, u, rfl, e⟩
      · exact nomatch e
      · injection e with e1 _; rw [e1]
  byValue := fun k v h => by
    rcases keyIs_shape h with ⟨i, t, rfl, rfl⟩ | ⟨x, t, rfl, rfl⟩ <;> rfl
  pyHash := fun hv h => by
    rcases keyIs_shape hv with ⟨i, t, rfl, rfl⟩ | ⟨x, t, rfl, rfl⟩
    · exact wpAny_pyHash_int h
    · exact wpAny_pyHash_str h
  eqBool := fun hu hv h => by
    rcases keyIs_shape hu with ⟨i, t, rfl, rfl⟩ | ⟨x, t, rfl, rfl⟩
    · rcases keyIs_shape hv with ⟨j, u, rfl, rfl⟩ | ⟨y, u, rfl, rfl⟩
      · rw [key_ll] at h; exact wpAny_eqBool_int h
      · rw [key_lr] at h; exact SeqAt.EqAt.int_str i t y u _ _ _ _ h
    · rcases keyIs_shape hv with ⟨j, u, rfl, rfl⟩ | ⟨y, u, rfl, rfl⟩
      · rw [key_rl] at h; exact SeqAt.EqAt.str_int x t j u _ _ _ _ h
      · rw [key_rr] at h; exact wpAny_eqBool_str h
  «strs» := fun k x t v h => by
    rcases keyIs_shape h with ⟨i, u, rfl, e⟩ | ⟨y, u, rfl, e⟩
    · exact nomatch e
    · injection e with e1 _
      subst e1
      cases v <;> rfl
end L2
namespace L2
open PySem PySem.Spec PyProof.Rows
inductive V where
  | non | bl (b : Bool) | int (i : Int) | str (x : Str) | byt (b : Array UInt8) | flt (b : UInt64) | ref (a : Addr) | ty (n : String)
  deriving DecidableEq
def RelV : V → Value → Prop
  | .non, u => u = Value.none
  | .bl b, u => u = Value.bool b
  | .int i, u => ∃ t, u = Value.int i t
  | .str x, u => ∃ t, u = Value.str x t
  | .byt b, u => ∃ t, u = Value.bytes b t
  | .flt b, u => ∃ t, u = Value.float b t
  | .ref a, u => u = Value.ref a
  | .ty n, u => u = Value.type n
abbrev Vals : List V → List Value → Prop := Paired RelV
theorem Vals.length {xs : List V} {us : List Value} (r : Vals xs us) : xs.length = us.length := Paired.length r
theorem Vals.get : ∀ {xs : List V} {us : List Value} {i : Nat} {x : V}, Vals xs us → xs[i]? = some x → ∃ u, us[i]? = some u ∧ RelV x u
  | _, _, _, _, .nil, e => by simp at e
  | _, _, 0, _, .cons r _, e => by simp at e; subst e; exact ⟨_, rfl, r⟩
  | _, _, i + 1, x, .cons _ t, e => by
    obtain ⟨u, h1, h2⟩ := Vals.get (i := i) (x := x) t (by simpa using e)
    exact ⟨u, by simpa using h1, h2⟩
theorem Vals.set {x : V} {u : Value} (r : RelV x u) : ∀ {xs : List V} {us : List Value} (i : Nat), Vals xs us → Vals (xs.set i x) (us.set i u)
  | _, _, _, .nil => .nil
  | _, _, 0, .cons _ t => .cons r t
  | _, _, i + 1, .cons q t => .cons q (Vals.set r i t)
theorem Vals.append : ∀ {xs ys : List V} {us ws : List Value}, Vals xs us → Vals ys ws → Vals (xs ++ ys) (us ++ ws)
  | _, _, _, _, .nil, s => s
  | _, _, _, _, .cons r t, s => .cons r (Vals.append t s)
theorem Vals.take : ∀ {xs : List V} {us : List Value} (n : Nat), Vals xs us → Vals (xs.take n) (us.take n)
  | _, _, 0, _ => .nil
  | _, _, _ + 1, .nil => .nil
  | _, _, n + 1, .cons r t => .cons r (Vals.take n t)
theorem Vals.drop : ∀ {xs : List V} {us : List Value} (n : Nat), Vals xs us → Vals (xs.drop n) (us.drop n)
  | _, _, 0, r => r
  | _, _, _ + 1, .nil => .nil
  | _, _, n + 1, .cons _ t => Vals.drop n t
def RelO : Option V → Option Value → Prop
  | some v, some u => RelV v u
  | none, none => True
  | _, _ => False
def KV {κ : Type} : List (κ × V) → List (κ × Value) → Prop := Paired fun (p : κ × V) (q : κ × Value) => p.1 = q.1 ∧ RelV p.2 q.2
def kV : Key → V
  | .inl i => .int i
  | .inr x => .str x
inductive HO where
    | lst (xs : List V)
    | tup (xs : List V)
    | dK (kvs : List (Key × V)) | dT (kvs : List (List Key × V))
    | set (S : Int → Bool) (n : Nat)
    | ins (C dx : Addr) (fs : List (Str × V))
    | own (x : Addr)
    | xd (fs : List (Str × V))
    | met (f x : Addr)
    | rng (lo hi : Int)
    | frz (o : Obj) (u : HO)
    | tbl (ps : Array Value)
    | ext (φ : Heap → Prop)
abbrev Hp := Addr → Option HO
def upd (H : Hp) (a : Addr) (o : HO) : Hp := fun b => if b = a then some o else H b
theorem upd_same {H : Hp} {a : Addr} {o : HO} : upd H a o a = some o := by unfold upd; rw [if_pos rfl]
theorem upd_ne {H : Hp} {a b : Addr} {o : HO} (h : b ≠ a) : upd H a o b = H b := by unfold upd; rw [if_neg h]
theorem ne_of_none {H : Hp} {a b : Addr} {o : HO} (h : H a = some o) (h' : H b = none) : a ≠ b := by
  intro e; subst e; rw [h] at h'; cases h'
section
variable (P : Program) (w : World)
def ObjOk (H : Hp) (h : Heap) (a : Addr) : HO → Prop
  | .lst xs => xs.length ≤ sizeLine ∧ ∃ (its : List Value) (n : Nat), Vals xs its ∧ h.get? a = some { cls := .type "list", data := .seq its.toArray n }
  | .tup xs => xs.length ≤ sizeLine ∧ ∃ its : List Value, Vals xs its ∧ IsTup h a its.toArray
  | .dK kvs => kvs.length ≤ sizeLine ∧ (a == sysModules) = false ∧ ∃ vs, KV kvs vs ∧ h.DictOf (mixKind P w) a vs
  | .dT kvs => kvs.length ≤ sizeLine ∧ (a == sysModules) = false ∧ ∃ xs : List (List Key × Addr × Value),
      Paired (fun (p : List Key × V) (q : List Key × Addr × Value) => p.1 = q.1 ∧ H q.2.1 = some (.tup (p.1.map kV)) ∧ RelV p.2 q.2.2) kvs xs ∧
      ∃ o es ep, h.get? a = some o ∧ o.ExactDict ∧ o.data = .dict es ep ∧ es.toList = xs.map (entryOfKey (tupleKind (mixKind P w))) ∧ (xs.map (·.1)).Nodup
  | .set S n => h.SetOf (intKind P w) a S n
  | .ins C dx fs => H dx = some (.own a) ∧ fs.length ≤ 1000 ∧ dx ≠ a ∧ h.get? a = some (PySem.W.instObj C dx) ∧
      ∃ mA, h.Ns1 dx mA ∧ (∀ f, RelO (fs.lookup f) (mA f)) ∧ PySem.Within mA (fs.map (·.1))
  | .own _ => ∃ o, h.get? a = some o
  | .xd fs => ∃ mA, h.Ns1 a mA ∧ ∀ f, RelO (fs.lookup f) (mA f)
  | .rng lo hi => ∃ t u v, h.get? a = some { cls := .type "range", data := .fields #[.int lo t, .int hi u, .int 1 v] }
  | .frz o u => h.get? a = some o ∧ ObjOk H h a u
  | .tbl ps => h.get? a = some { cls := .none, data := .fields ps }
  | .met f x => h.get? a = some (PySem.W.methodObj (.ref f) (.ref x))
  | .ext φ => φ h ∧ (∃ o, h.get? a = some o) ∧ ∀ h1 h2 : Heap, φ h1 → (∀ o, h1.get? a = some o → h2.get? a = some o) → φ h2
def HOk (H : Hp) (h : Heap) : Prop := ∀ a o, H a = some o → ObjOk P w H h a o
end
section
variable {P : Program} {w : World} {H H' : Hp} {h h' : Heap} {a : Addr} {o : HO}
theorem ObjOk.lt (x : ObjOk P w H h a o) : a < h.objs.size := by
  cases o with
  | lst xs => obtain ⟨_, _, _, _, e⟩ := x; exact Heap.lt_size e
  | tup xs => obtain ⟨_, _, _, p⟩ := x; exact p.lt
  | dK kvs => obtain ⟨_, _, _, _, o, _, _, e, _⟩ := x; exact Heap.lt_size e
  | dT kvs => obtain ⟨_, _, _, _, o, _, _, e, _⟩ := x; exact Heap.lt_size e
  | set S n => obtain ⟨o, _, _, _, e, _⟩ := x; exact Heap.lt_size e
  | ins C dx fs => obtain ⟨_, _, _, e, _⟩ := x; exact Heap.lt_size e
  | own y => obtain ⟨_, e⟩ := x; exact Heap.lt_size e
  | xd fs => obtain ⟨_, ⟨_, _, _, e, _⟩, _⟩ := x; exact Heap.lt_size e
  | rng lo hi => obtain ⟨_, _, _, e⟩ := x; exact Heap.lt_size e
  | frz ob u => obtain ⟨e, _⟩ := x; exact Heap.lt_size e
  | tbl ps => exact Heap.lt_size (show h.get? a = some _ from x)
  | met f y => exact Heap.lt_size (show h.get? a = some _ from x)
  | ext φ => obtain ⟨_, ⟨_, e⟩, _⟩ := x; exact Heap.lt_size e
theorem Paired.mapP {α β : Type} {F G : α → β → Prop} : ∀ {l₁ : List α} {l₂ : List β}, Paired F l₁ l₂ → (∀ a b, F a b → G a b) → Paired G l₁ l₂
  | _, _, .nil, _ => .nil
  | _, _, .cons r t, f => .cons (f _ _ r) (Paired.mapP t f)
theorem ObjOk.stay (x : ObjOk P w H h a o) (k : ∀ b u, (b = a ∨ H b = some (.own a)) → h.get? b = some u → h'.get? b = some u)
    (ho : ∀ b, H b = some (.own a) → H' b = some (.own a)) (ht : ∀ b xs, H b = some (.tup xs) → H' b = some (.tup xs)) : ObjOk P w H' h' a o := by
  induction o with
  | lst xs => obtain ⟨z, its, n, r, e⟩ := x; exact ⟨z, its, n, r, k _ _ (.inl rfl) e⟩
  | tup xs => obtain ⟨z, its, r, ob, e, c⟩ := x; exact ⟨z, its, r, ob, k _ _ (.inl rfl) e, c⟩
  | dK kvs => obtain ⟨z, y, vs, r, ob, es, ep, e, c⟩ := x; exact ⟨z, y, vs, r, ob, es, ep, k _ _ (.inl rfl) e, c⟩
  | dT kvs =>
    obtain ⟨z, y, xs, r, ob, es, ep, e, c⟩ := x
    exact ⟨z, y, xs, Paired.mapP r fun p q z => ⟨z.1, ht _ _ z.2.1, z.2.2⟩, ob, es, ep, k _ _ (.inl rfl) e, c⟩
  | set S n => obtain ⟨ob, es, ep, t, e, c⟩ := x; exact ⟨ob, es, ep, t, k _ _ (.inl rfl) e, c⟩
  | ins C dx fs =>
    obtain ⟨d, z, ne, e, mA, ⟨od, es, ep, e2, c⟩, r⟩ := x
    exact ⟨ho _ d, z, ne, k _ _ (.inl rfl) e, mA, ⟨od, es, ep, k _ _ (.inr d) e2, c⟩, r⟩
  | own y => obtain ⟨ob, e⟩ := x; exact ⟨ob, k _ _ (.inl rfl) e⟩
  | xd fs => obtain ⟨mA, ⟨od, es, ep, e, c⟩, r⟩ := x; exact ⟨mA, ⟨od, es, ep, k _ _ (.inl rfl) e, c⟩, r⟩
  | rng lo hi => obtain ⟨t, u, v, e⟩ := x; exact ⟨t, u, v, k _ _ (.inl rfl) e⟩
  | frz ob u ih => obtain ⟨e, q⟩ := x; exact ⟨k _ _ (.inl rfl) e, ih q⟩
  | tbl ps =>
    have e : h.get? a = some { cls := .none, data := .fields ps } := x
    show h'.get? a = some { cls := .none, data := .fields ps }
    exact k a _ (.inl rfl) e
  | met f y =>
    have e : h.get? a = some (PySem.W.methodObj (.ref f) (.ref y)) := x
    show h'.get? a = some (PySem.W.methodObj (.ref f) (.ref y))
    exact k a _ (.inl rfl) e
  | ext φ => obtain ⟨p, ⟨o, e⟩, st⟩ := x; exact ⟨st _ _ p fun o q => k _ _ (.inl rfl) q, ⟨o, k _ _ (.inl rfl) e⟩, st⟩
theorem HOk.lt (x : HOk P w H h) (e : H a = some o) : a < h.objs.size := (x a o e).lt
theorem HOk.fresh (x : HOk P w H h) (e : h.objs.size ≤ a) : H a = none := by
  cases q : H a with
  | none => rfl
  | some u => exact absurd (Nat.lt_of_lt_of_le (x.lt q) e) (Nat.lt_irrefl _)
theorem HOk.kept (x : HOk P w H h) (k : ∀ b u, h.get? b = some u → h'.get? b = some u) : HOk P w H h' := fun a o e =>
  (x a o e).stay (fun b u _ q => k b u q) (fun _ q => q) fun _ _ q => q
theorem HOk.laid (x : HOk P w H h) (k : ∀ b u, h.get? b = some u → h'.get? b = some u) (hp : h.objs.size ≤ a) (new : ObjOk P w (upd H a o) h' a o) : HOk P w (upd H a o) h' := fun b u e => by
  have hn := x.fresh hp
  by_cases hb : b = a
  · subst hb; rw [upd_same] at e; cases e; exact new
  · rw [upd_ne hb] at e
    exact (x b u e).stay (fun c v _ q => k c v q) (fun c q => by rw [upd_ne (ne_of_none q hn)]; exact q) fun c xs q => by rw [upd_ne (ne_of_none q hn)]; exact q
end
def Rd (H : Hp) (a : Addr) (u : HO) : Prop := H a = some u ∨ ∃ o, H a = some (.frz o u)
theorem Rd.ok {P : Program} {w : World} {H : Hp} {h : Heap} {a : Addr} {u : HO} (r : Rd H a u) (x : HOk P w H h) : ObjOk P w H h a u := by
  rcases r with r | ⟨o, r⟩
  · exact x a u r
  · obtain ⟨_, q⟩ := x a _ r
    exact q
def Mut : Option HO → Prop
  | some (.lst _) => True
  | some (.dK _) => True
  | some (.dT _) => True
  | some (.set _ _) => True
  | some (.ins _ _ _) => True
  | some (.ext _) => True
  | _ => False
section
variable {P : Program} {w : World} {H : Hp} {h h' : Heap} {x e : Addr} {o' : HO}
theorem HOk.write (ok : HOk P w H h) (mu : Mut (H x)) (he : e = x ∨ H e = some (.own x)) (k : ∀ b u, b ≠ e → h.get? b = some u → h'.get? b = some u) (heo : ∃ u, h'.get? e = some u)
    (new : ObjOk P w (upd H x o') h' x o') : HOk P w (upd H x o') h' := fun b u q => by
  have nown : ∀ c y, H c = some (.own y) → c ≠ x := fun c y r z => by subst z; rw [r] at mu; exact mu
  have ntup : ∀ c xs, H c = some (.tup xs) → c ≠ x := fun c xs r z => by subst z; rw [r] at mu; exact mu
  by_cases hb : b = x
  · subst hb; rw [upd_same] at q; cases q; exact new
  · rw [upd_ne hb] at q
    by_cases hbe : b = e
    · have q' : H b = some (.own x) := by
        rcases he with z | z
        · exact absurd (hbe.trans z) hb
        · rw [hbe]; exact z
      rw [q] at q'; cases q'
      obtain ⟨v, hv⟩ := heo
      exact ⟨v, by rw [hbe]; exact hv⟩
    · refine (ok b u q).stay (fun c v hc r => k c v ?_ r) (fun c r => by rw [upd_ne (nown c b r)]; exact r) fun c xs r => by rw [upd_ne (ntup c xs r)]; exact r
      rcases hc with rfl | hc
      · exact hbe
      · rintro rfl
        rcases he with z | z
        · exact nown c b hc z
        · rw [hc] at z; cases z; exact hb rfl
end
structure Un (fs ex : List Addr) (H H' : Hp) (h h' : Heap) : Prop where
  keep : ∀ b o, h.get? b = some o → H b = none → b ∉ fs → b ∉ ex → h'.get? b = some o
  slot : ∀ b o, h.get? b = some o → H b = none → b ∈ fs → b ∉ ex → ∃ sl, h'.get? b = some { o with slots := sl }
  free : ∀ b o, h.get? b = some o → H b = none → b ∉ ex → H' b = none
  there : ∀ b o, h.get? b = some o → b ∉ ex → ∃ o', h'.get? b = some o'
  tups : ∀ b xs, H b = some (.tup xs) → H' b = some (.tup xs)
  frzs : ∀ b o u, H b = some (.frz o u) → H' b = some (.frz o u)
  tbls : ∀ b ps, H b = some (.tbl ps) → ∃ more, H' b = some (.tbl (ps ++ more))
section
variable {fs fs' ex ex' : List Addr} {H H1 H2 : Hp} {h h1 h2 h' : Heap} {a x e : Addr} {o : HO}
theorem Un.any (u : Un fs ex H H1 h h1) {b : Addr} {ob : Obj} (q : h.get? b = some ob) (n : H b = none) (hx : b ∉ ex) : ∃ sl, h1.get? b = some { ob with slots := sl } := by
  by_cases hb : b ∈ fs
  · exact u.slot b ob q n hb hx
  · exact ⟨ob.slots, u.keep b ob q n hb hx⟩
theorem Un.trans (a : Un fs ex H H1 h h1) (b : Un fs ex H1 H2 h1 h2) : Un fs ex H H2 h h2 where
  keep := fun c ob q n hc hx => b.keep c ob (a.keep c ob q n hc hx) (a.free c ob q n hx) hc hx
  slot := fun c ob q n hc hx => by
    obtain ⟨sl, e1⟩ := a.slot c ob q n hc hx
    obtain ⟨sl', e2⟩ := b.slot c _ e1 (a.free c ob q n hx) hc hx
    exact ⟨sl', e2⟩
  free := fun c ob q n hx => by
    obtain ⟨o', e1⟩ := a.there c ob q hx
    exact b.free c o' e1 (a.free c ob q n hx) hx
  there := fun c ob q hx => by
    obtain ⟨o', e1⟩ := a.there c ob q hx
    exact b.there c o' e1 hx
  tups := fun c xs q => b.tups c xs (a.tups c xs q)
  frzs := fun c ob xs q => b.frzs c ob xs (a.frzs c ob xs q)
  tbls := fun c ps q => by
    obtain ⟨m1, e1⟩ := a.tbls c ps q
    obtain ⟨m2, e2⟩ := b.tbls c _ e1
    exact ⟨m1 ++ m2, by rw [e2, Array.append_assoc]⟩
theorem Un.kept (k : ∀ b u, h.get? b = some u → h'.get? b = some u) : Un fs ex H H h h' :=
  ⟨fun b ob q _ _ _ => k b ob q, fun b ob q _ _ _ => ⟨ob.slots, k b ob q⟩, fun _ _ _ n _ => n, fun b ob q _ => ⟨ob, k b ob q⟩, fun _ _ q => q, fun _ _ _ q => q, fun _ ps q => ⟨#[], by rw [q]; simp⟩⟩
theorem Un.refl : Un fs ex H H h h := Un.kept fun _ _ q => q
theorem Un.laid (k : ∀ b u, h.get? b = some u → h'.get? b = some u) (hp : h.objs.size ≤ a) (hn : H a = none) : Un fs ex H (upd H a o) h h' where
  keep := fun b u q _ _ _ => k b u q
  slot := fun b u q _ _ _ => ⟨u.slots, k b u q⟩
  free := fun b u q n _ => by rw [upd_ne (Nat.ne_of_lt (Nat.lt_of_lt_of_le (Heap.lt_size q) hp))]; exact n
  there := fun b u q _ => ⟨u, k b u q⟩
  tups := fun b xs q => by rw [upd_ne (ne_of_none q hn)]; exact q
  frzs := fun b u xs q => by rw [upd_ne (ne_of_none q hn)]; exact q
  tbls := fun b ps q => ⟨#[], by rw [upd_ne (ne_of_none q hn), q]; simp⟩
theorem Un.write (mu : Mut (H x)) (he : e = x ∨ H e = some (.own x)) (k : ∀ b u, b ≠ e → h.get? b = some u → h'.get? b = some u) (heo : ∃ u, h'.get? e = some u) : Un fs ex H (upd H x o) h h' := by
  have hx : ∀ b, H b = none → b ≠ x := fun b n z => by subst z; rw [n] at mu; exact mu
  have hb : ∀ b, H b = none → b ≠ e := fun b n z => by
    subst z
    rcases he with r | r
    · exact hx b n r
    · rw [n] at r; cases r
  have hm : ∀ b u, H b = some u → ¬ Mut (some u) → b ≠ x := fun b u q nm z => by subst z; rw [q] at mu; exact nm mu
  refine ⟨fun b u q n _ _ => k b u (hb b n) q, fun b u q n _ _ => ⟨u.slots, k b u (hb b n) q⟩, fun b u q n _ => by rw [upd_ne (hx b n)]; exact n, fun b u q _ => ?_,
    fun b xs q => by rw [upd_ne (hm b _ q fun z => z)]; exact q, fun b u xs q => by rw [upd_ne (hm b _ q fun z => z)]; exact q, fun b ps q => ⟨#[], by rw [upd_ne (hm b _ q fun z => z), q]; simp⟩⟩
  by_cases hbe : b = e
  · subst hbe; exact heo
  · exact ⟨u, k b u hbe q⟩
theorem Un.mono (u : Un fs ex H H1 h h1) (hs : ∀ b ∈ fs, b ∈ fs') (hx : ∀ b ∈ ex, b ∈ ex') : Un fs' ex' H H1 h h1 :=
  ⟨fun b ob q n hb he => u.keep b ob q n (fun z => hb (hs b z)) fun z => he (hx b z), fun _ _ q n _ he => u.any q n fun z => he (hx _ z), fun b ob q n he => u.free b ob q n fun z => he (hx b z), fun b ob q he => u.there b ob q fun z => he (hx b z), u.tups, u.frzs, u.tbls⟩
end
def trk (h : Heap) (H : Hp) : List Addr := (List.range h.objs.size).filter fun a => (H a).isSome
def hidT (h : Heap) (H : Hp) : Heap := PySem.W.hideAll h (trk h H)
theorem hidT_size (h : Heap) (H : Hp) : (hidT h H).objs.size = h.objs.size := PySem.W.hideAll_size _ _
theorem hidT_get {h : Heap} {H : Hp} {b : Addr} {o : Obj} (e : h.get? b = some o) (n : H b = none) : (hidT h H).get? b = some o :=
  PySem.W.hideAll_get _ e fun hm => by
    have q : (H b).isSome = true := (List.mem_filter.mp hm).2
    rw [n] at q; simp at q
theorem of_hidT {h : Heap} {H : Hp} {b : Addr} {o : Obj} (e : (hidT h H).get? b = some o) : h.get? b = some o ∧ H b = none := by
  have e' : h.get? b = some o := PySem.W.of_hideAll (trk h H) e
  refine ⟨e', ?_⟩
  cases q : H b with
  | none => rfl
  | some x =>
    have hm : b ∈ trk h H := List.mem_filter.mpr ⟨List.mem_range.mpr (Heap.lt_size e'), by simp [q]⟩
    have z : (hidT h H).get? b = none := PySem.W.hideAll_none (trk h H) hm
    rw [z] at e; cases e
def allNews (g h : Heap) (L : Addr) : List (Addr × Obj) := (List.range h.objs.size).filterMap fun a => if a = L ∨ (g.get? a).isSome = true then none else (h.get? a).map fun o => (a, o)
def rest (g h : Heap) (L d : Addr) : List (Addr × Obj) := (allNews g h L).filter fun p => decide (p.1 ≠ d)
end L2
namespace L2
open PySem PySem.Spec PyProof.Rows
structure Mod (K : PySem.W.Frag) (mg : Str → Option Value) (base : Heap) : Prop where
  kin : K.In base
  glob : base.Ns mainGlobals mg
  blt : ∃ mb, base.Ns builtinsNs mb ∧ ∀ x : Str, x ≠ "__name__" → mb x = bootBuiltins x
  nolimit : base.NoLimit
structure Cx where
  prog : Program
  w : World
  K : PySem.W.Frag
  mg : Str → Option Value
  base : Heap
  A : Around
  N : List Str
  s₀ : Shared
  H₀ : Hp
  env : Env
  outer : List Env
  stack : List Env
  ex : List Addr
  fn : Str → Bool
  calm : Bool
  pn : List (Addr × Obj)
  xe : Value → Shared → Prop
def frs (l : List Env) : List Addr := l.filterMap (·.frame)
abbrev Cx.fs (X : Cx) : List Addr := frs X.outer
def Vis (sc : Scope) (x : Str) : Prop := sc.names.lookup x = some .local ∨ sc.names.lookup x = some .cell ∨ sc.names.lookup x = some .free
def Loc (sc : Scope) (x : Str) : Prop := sc.names.lookup x = some .local ∨ sc.names.lookup x = some .cell
def Look (env : Env) (h : Heap) (m : Str → Option Value) (x : Str) (u : Value) : Prop :=
  (env.kindOf x = some .local ∧ m x = some u) ∨ ((env.kindOf x = some .cell ∨ env.kindOf x = some .free) ∧ ∃ c, env.cells.lookup x = some c ∧ h.IsCell c (some u))
structure Cx.Ok (X : Cx) : Prop where
  mod : Mod X.K X.mg X.base
  kind : X.env.scope.kind = .function
  glob : X.env.globals = mainGlobals
  blt : X.env.builtins = builtinsNs
  above : X.s₀.heap.objs.size ≤ X.env.locals
  inj : ∀ x y c, X.env.cells.lookup x = some c → X.env.cells.lookup y = some c → x = y
  has : ∀ x, (X.env.kindOf x = some .cell ∨ X.env.kindOf x = some .free) → ∃ c, X.env.cells.lookup x = some c
  cab : ∀ x c, X.fn x = true → X.env.cells.lookup x = some c → X.s₀.heap.objs.size ≤ c
  hd : X.calm = true → X.A.handled = none
  frames : X.A.frames = some X.stack
  stk : X.stack = X.outer ∨ (X.stack = X.env :: X.outer ∧ X.env.frame = some X.env.locals)
  exf : ∀ b ∈ X.ex, b ≠ X.env.locals ∧ ∀ x c, X.env.cells.lookup x = some c → c ≠ b
  bs : ∀ b o, X.base.get? b = some o → X.s₀.heap.get? b = some o ∧ X.H₀ b = none
  bsz : X.base.objs.size ≤ X.s₀.heap.objs.size
  noex : ∀ b o, X.base.get? b = some o → b ∉ X.ex
  exfs : ∀ b ∈ X.ex, b ∉ X.fs
  funs : X.s₀.heap.FunFrames X.base X.outer
  frf : ∀ b ∈ X.fs, X.H₀ b = none
structure Inv (X : Cx) (pins : List (Addr × Obj)) (σ : List (Option V)) (H : Hp) (s : Shared) : Prop where
  ok : X.Ok
  os : s.os = X.s₀.os
  bare : AllBare s.gens
  base : Un X.fs X.ex X.H₀ H X.s₀.heap s.heap
  loc : ∃ m, s.heap.Ns X.env.locals m ∧ ∀ (i : Nat) (x : Str) (v : V), X.N[i]? = some x → σ[i]? = some (some v) → Vis X.env.scope x → ∃ u, RelV v u ∧ Look X.env s.heap m x u
  cell : ∀ x c, X.env.cells.lookup x = some c → ∃ v, s.heap.IsCell c v
  free : H X.env.locals = none
  freeC : ∀ x c, X.env.cells.lookup x = some c → H c = none
  pin : ∀ p ∈ X.pn ++ pins, s.heap.get? p.1 = some p.2 ∧ H p.1 = none ∧ p.1 ≠ X.env.locals ∧ p.1 ∉ X.fs ∧ ∀ v, p.2.data ≠ .cell v
  hok : HOk X.prog X.w H s.heap
  len : σ.length = X.N.length
section
variable {X : Cx} {pins : List (Addr × Obj)} {σ : List (Option V)} {H H' : Hp} {s : Shared} {h' : Heap}
theorem Cx.Ok.nofr (ok : X.Ok) {b : Addr} {o : Obj} (e : X.base.get? b = some o) : b ∉ X.fs := fun hb => by
  have := (ok.funs.mem hb).1
  rw [e] at this; cases this
theorem Inv.bs (I : Inv X pins σ H s) : ∀ b o, X.base.get? b = some o → s.heap.get? b = some o ∧ H b = none := fun b o e =>
  ⟨I.base.keep b o (I.ok.bs b o e).1 (I.ok.bs b o e).2 (I.ok.nofr e) (I.ok.noex b o e), I.base.free b o (I.ok.bs b o e).1 (I.ok.bs b o e).2 (I.ok.noex b o e)⟩
theorem Inv.bk (I : Inv X pins σ H s) : ∀ b o, X.base.get? b = some o → s.heap.get? b = some o := fun b o e => (I.bs b o e).1
theorem Inv.mod (I : Inv X pins σ H s) : Mod X.K X.mg X.base := I.ok.mod
theorem Inv.kIn (I : Inv X pins σ H s) : X.K.In s.heap := I.ok.mod.kin.keeps I.bk
theorem Inv.lt (I : Inv X pins σ H s) : X.env.locals < s.heap.objs.size := let ⟨_, hn, _⟩ := I.loc; hn.lt
theorem Inv.sz (I : Inv X pins σ H s) : X.s₀.heap.objs.size ≤ s.heap.objs.size := Nat.le_trans I.ok.above (Nat.le_of_lt I.lt)
theorem Inv.nofs (I : Inv X pins σ H s) {a : Addr} (h : s.heap.objs.size ≤ a) : a ∉ X.fs := fun hb => by
  obtain ⟨_, o, ho, _⟩ := I.ok.funs.mem hb
  exact absurd (Nat.lt_of_lt_of_le (Heap.lt_size ho) (Nat.le_trans I.sz h)) (Nat.lt_irrefl _)
theorem Inv.cne (I : Inv X pins σ H s) : ∀ x c, X.env.cells.lookup x = some c → c ≠ X.env.locals := fun x c e z => by
  obtain ⟨v, o, ho, hd⟩ := I.cell x c e
  obtain ⟨m, ⟨o', es, ep, ho', hd', _⟩, _⟩ := I.loc
  rw [z, ho'] at ho; cases ho; rw [hd'] at hd; cases hd
theorem Inv.funs (I : Inv X pins σ H s) : s.heap.FunFrames X.base X.outer := by
  have all : ∀ (l : List Env), (∀ b ∈ frs l, b ∈ X.fs) → X.s₀.heap.FunFrames X.base l → s.heap.FunFrames X.base l := by
    intro l
    induction l with
    | nil => intro _ _; trivial
    | cons env r ih =>
      intro hs hl
      obtain ⟨hk, ⟨L, o, hf, hn, ho, hd⟩, hr⟩ := hl
      have hL : L ∈ X.fs := hs L (by unfold frs; rw [List.filterMap_cons, hf]; exact List.mem_cons_self)
      obtain ⟨sl, e⟩ := I.base.slot L o ho (I.ok.frf L hL) hL fun z => I.ok.exfs L z hL
      exact ⟨hk, ⟨L, _, hf, hn, e, hd⟩, ih (fun b hb => hs b (by unfold frs; rw [List.filterMap_cons, hf]; exact List.mem_cons_of_mem _ hb)) hr⟩
  exact all X.outer (fun _ hb => hb) I.ok.funs
theorem Inv.stack (I : Inv X pins σ H s) : s.heap.FunFrames X.base X.stack := by
  rcases I.ok.stk with e | ⟨e, hf⟩
  · rw [e]; exact I.funs
  · rw [e]
    obtain ⟨m, hn, _⟩ := I.loc
    refine .cons (by rw [I.ok.kind]; decide) hf hn ?_ I.funs
    exact Heap.get?_none_of_le (Nat.le_trans I.ok.bsz I.ok.above)
theorem Inv.stkSub (I : Inv X pins σ H s) : ∀ b ∈ frs X.stack, b ∈ X.env.locals :: X.fs := fun b hb => by
  rcases I.ok.stk with e | ⟨e, hf⟩
  · rw [e] at hb; exact List.mem_cons_of_mem _ hb
  · rw [e] at hb
    unfold frs at hb
    rw [List.filterMap_cons, hf] at hb
    exact hb
theorem Inv.stkFree (I : Inv X pins σ H s) : ∀ b ∈ frs X.stack, H b = none := fun b hb => by
  rcases List.mem_cons.mp (I.stkSub b hb) with e | hb
  · rw [e]; exact I.free
  · obtain ⟨_, o, ho, _⟩ := I.ok.funs.mem hb
    exact I.base.free b o ho (I.ok.frf b hb) fun z => I.ok.exfs b z hb
theorem Inv.step {g' : Array GenState} {t' : Nat} {d' : Drawn} {ch : List Addr} (I : Inv X pins σ H s)
    (hch : ∀ b ∈ ch, (b ∈ X.ex ∨ X.s₀.heap.objs.size ≤ b) ∧ b ≠ X.env.locals ∧ (∀ x c, X.env.cells.lookup x = some c → c ≠ b) ∧ ∀ p ∈ X.pn ++ pins, p.1 ≠ b)
    (keep : ∀ b o, b ≠ X.env.locals → b ∉ X.fs → b ∉ ch → s.heap.get? b = some o → H b = none → h'.get? b = some o)
    (slot : ∀ b o, b ≠ X.env.locals → b ∈ X.fs → b ∉ ch → s.heap.get? b = some o → H b = none → ∃ sl, h'.get? b = some { o with slots := sl }) (free : ∀ b o, b ∉ ch → s.heap.get? b = some o → H b = none → H' b = none)
    (there : ∀ b o, b ∉ ch → s.heap.get? b = some o → ∃ o', h'.get? b = some o')
    (tups : ∀ b xs, H b = some (.tup xs) → H' b = some (.tup xs)) (frzs : ∀ b o u, H b = some (.frz o u) → H' b = some (.frz o u)) (tbls : ∀ b ps, H b = some (.tbl ps) → ∃ more, H' b = some (.tbl (ps ++ more)))
    (ns : ∀ m, s.heap.Ns X.env.locals m → h'.Ns X.env.locals m) (hok : HOk X.prog X.w H' h') (hg : AllBare g') :
    Inv X pins σ H' { s with heap := h', gens := g', drawn := d', toks := t' } := by
  have neL : ∀ b o, X.s₀.heap.get? b = some o → b ≠ X.env.locals := fun b o e => Nat.ne_of_lt (Nat.lt_of_lt_of_le (Heap.lt_size e) I.ok.above)
  have neC : ∀ b o, X.s₀.heap.get? b = some o → b ∉ X.ex → b ∉ ch := fun b o e hx hb => by
    rcases (hch b hb).1 with z | z
    · exact hx z
    · exact absurd (Nat.lt_of_lt_of_le (Heap.lt_size e) z) (Nat.lt_irrefl _)
  have cellK : ∀ x c, X.env.cells.lookup x = some c → ∀ v, s.heap.IsCell c v → h'.IsCell c v := fun x c e v ⟨o, ho, hd⟩ => by
    have nch : c ∉ ch := fun z => (hch c z).2.2.1 x c e rfl
    by_cases hc : c ∈ X.fs
    · obtain ⟨sl, q⟩ := slot c o (I.cne x c e) hc nch ho (I.freeC x c e)
      exact ⟨_, q, hd⟩
    · exact ⟨o, keep c o (I.cne x c e) hc nch ho (I.freeC x c e), hd⟩
  refine ⟨I.ok, I.os, hg, ⟨fun b o e n hb hx => ?_, fun b o e n hb hx => ?_, fun b o e n hx => ?_, fun b o e hx => ?_, fun b xs e => tups b xs (I.base.tups b xs e), fun b o xs e => frzs b o xs (I.base.frzs b o xs e), fun b ps e => ?_⟩, ?_, fun x c e => ?_, ?_, fun x c e => ?_, fun p hp => ?_, hok, I.len⟩
  · exact keep b o (neL b o e) hb (neC b o e hx) (I.base.keep b o e n hb hx) (I.base.free b o e n hx)
  · obtain ⟨sl, e1⟩ := I.base.slot b o e n hb hx
    obtain ⟨sl', e2⟩ := slot b _ (neL b o e) hb (neC b o e hx) e1 (I.base.free b o e n hx)
    exact ⟨sl', e2⟩
  · obtain ⟨o', e1⟩ := I.base.there b o e hx
    exact free b o' (neC b o e hx) e1 (I.base.free b o e n hx)
  · obtain ⟨o', e1⟩ := I.base.there b o e hx
    exact there b o' (neC b o e hx) e1
  · obtain ⟨m1, e1⟩ := I.base.tbls b ps e
    obtain ⟨m2, e2⟩ := tbls b _ e1
    exact ⟨m1 ++ m2, by rw [e2, Array.append_assoc]⟩
  · obtain ⟨m, hn, hl⟩ := I.loc
    refine ⟨m, ns m hn, fun i x v e1 e2 e3 => ?_⟩
    obtain ⟨u, r, l⟩ := hl i x v e1 e2 e3
    refine ⟨u, r, ?_⟩
    rcases l with l | ⟨k, c, e, z⟩
    · exact .inl l
    · exact .inr ⟨k, c, e, cellK x c e _ z⟩
  · obtain ⟨v, z⟩ := I.cell x c e
    exact ⟨v, cellK x c e v z⟩
  · obtain ⟨m, ⟨o, _, _, ho, _⟩, _⟩ := I.loc
    exact free _ o (fun z => (hch _ z).2.1 rfl) ho I.free
  · obtain ⟨v, o, ho, hd⟩ := I.cell x c e
    exact free c o (fun z => (hch c z).2.2.1 x c e rfl) ho (I.freeC x c e)
  · obtain ⟨e, n, ne, nf, d⟩ := I.pin p hp
    have nch : p.1 ∉ ch := fun z => (hch p.1 z).2.2.2 p hp rfl
    exact ⟨keep p.1 p.2 ne nf nch e n, free p.1 p.2 nch e n, ne, nf, d⟩
theorem Inv.un {t' : Nat} (I : Inv X pins σ H s) (u : Un X.fs [] H H' s.heap h') (hok : HOk X.prog X.w H' h') : Inv X pins σ H' { s with heap := h', toks := t' } := by
  obtain ⟨m, ⟨o, es, ep, ho, r⟩, _⟩ := id I.loc
  obtain ⟨sl, hL⟩ := u.any ho I.free (by simp)
  exact I.step (g' := s.gens) (d' := s.drawn) (ch := []) (fun _ z => nomatch z) (fun b o _ hb _ e n => u.keep b o e n hb (by simp)) (fun b o _ hb _ e n => u.slot b o e n hb (by simp)) (fun b o _ e n => u.free b o e n (by simp)) (fun b o _ e => u.there b o e (by simp)) u.tups u.frzs u.tbls (fun m' hm => by
    obtain ⟨o', es', ep', ho', r'⟩ := hm
    rw [ho] at ho'; cases ho'
    exact ⟨_, es', ep', hL, r'⟩) hok I.bare
theorem Inv.call {g' : Array GenState} {t' : Nat} {d' : Drawn} {ch : List Addr} (I : Inv X pins σ H s) (u : Un (frs X.stack) ch H H' s.heap h') (hok : HOk X.prog X.w H' h') (hg : AllBare g')
    (hch : ∀ b ∈ ch, (b ∈ X.ex ∨ X.s₀.heap.objs.size ≤ b) ∧ b ≠ X.env.locals ∧ (∀ x c, X.env.cells.lookup x = some c → c ≠ b) ∧ ∀ p ∈ X.pn ++ pins, p.1 ≠ b) :
    Inv X pins σ H' { s with heap := h', gens := g', drawn := d', toks := t' } := by
  obtain ⟨m, ⟨o, es, ep, ho, r⟩, _⟩ := id I.loc
  obtain ⟨sl, hL⟩ := u.any ho I.free fun z => (hch _ z).2.1 rfl
  exact I.step (ch := ch) hch (fun b o hL hb hc e n => u.keep b o e n (fun z => (List.mem_cons.mp (I.stkSub b z)).elim hL hb) hc) (fun b o _ _ hc e n => u.any e n hc) (fun b o hc e n => u.free b o e n hc) (fun b o hc e => u.there b o e hc) u.tups u.frzs u.tbls (fun m' hm => by
    obtain ⟨o', es', ep', ho', r'⟩ := hm
    rw [ho] at ho'; cases ho'
    exact ⟨_, es', ep', hL, r'⟩) hok hg
theorem Inv.turned {t' : Nat} {it : Addr} (I : Inv X pins σ H s) (k : ∀ b o, b ≠ it → s.heap.get? b = some o → h'.get? b = some o) (hn : H it = none) (hL : it ≠ X.env.locals)
    (h1 : it ∈ X.ex ∨ X.s₀.heap.objs.size ≤ it) (h2 : ∀ x c, X.env.cells.lookup x = some c → c ≠ it) (h3 : ∀ p ∈ X.pn ++ pins, p.1 ≠ it) : Inv X pins σ H { s with heap := h', toks := t' } := by
  have nit : ∀ b u, H b = some u → b ≠ it := fun b u e z => by rw [z, hn] at e; cases e
  refine I.step (g' := s.gens) (d' := s.drawn) (ch := [it]) (fun b hb => ?_) (fun b o _ _ hc e _ => k b o (fun z => hc (by simp [z])) e) (fun b o _ _ hc e _ => ⟨o.slots, k b o (fun z => hc (by simp [z])) e⟩) (fun _ _ _ _ n => n)
    (fun b o hc e => ⟨o, k b o (fun z => hc (by simp [z])) e⟩) (fun _ _ e => e) (fun _ _ _ e => e) (fun b ps e => ⟨#[], by rw [e]; simp⟩) (fun m hm => ?_) (fun b u e => ?_) I.bare
  · have e : b = it := by simpa using hb
    subst e
    exact ⟨h1, hL, h2, h3⟩
  · obtain ⟨o, es, ep, ho, r⟩ := hm
    exact ⟨o, es, ep, k _ o (Ne.symm hL) ho, r⟩
  · refine (I.hok b u e).stay (fun c v hc q => k c v ?_ q) (fun _ q => q) fun _ _ q => q
    rcases hc with z | z
    · rw [z]; exact nit b u e
    · exact nit c _ z
theorem Inv.tok (I : Inv X pins σ H s) (t : Nat) : Inv X pins σ H { s with toks := t } := I.un (h' := s.heap) (t' := t) Un.refl I.hok
theorem Inv.kept {t' : Nat} (I : Inv X pins σ H s) (k : ∀ b u, s.heap.get? b = some u → h'.get? b = some u) : Inv X pins σ H { s with heap := h', toks := t' } := I.un (Un.kept k) (I.hok.kept k)
theorem Inv.laid {a : Addr} {o : HO} {t' : Nat} (I : Inv X pins σ H s) (k : ∀ b u, s.heap.get? b = some u → h'.get? b = some u) (hp : s.heap.objs.size ≤ a) (new : ObjOk X.prog X.w (upd H a o) h' a o) :
    Inv X pins σ (upd H a o) { s with heap := h', toks := t' } := I.un (Un.laid k hp (I.hok.fresh hp)) (I.hok.laid k hp new)
theorem Inv.write {x e : Addr} {o : HO} {t' : Nat} (I : Inv X pins σ H s) (mu : Mut (H x)) (he : e = x ∨ H e = some (.own x)) (k : ∀ b u, b ≠ e → s.heap.get? b = some u → h'.get? b = some u) (heo : ∃ u, h'.get? e = some u)
    (new : ObjOk X.prog X.w (upd H x o) h' x o) : Inv X pins σ (upd H x o) { s with heap := h', toks := t' } := I.un (Un.write mu he k heo) (I.hok.write mu he k heo new)
theorem Inv.pins_of {pins' : List (Addr × Obj)} (I : Inv X pins σ H s) (h : ∀ p ∈ pins', s.heap.get? p.1 = some p.2 ∧ H p.1 = none ∧ p.1 ≠ X.env.locals ∧ p.1 ∉ X.fs ∧ ∀ v, p.2.data ≠ .cell v) : Inv X pins' σ H s :=
  ⟨I.ok, I.os, I.bare, I.base, I.loc, I.cell, I.free, I.freeC, fun p hp => (List.mem_append.mp hp).elim (fun z => I.pin p (List.mem_append_left _ z)) (h p), I.hok, I.len⟩
theorem nodup_ix {N : List Str} (hN : N.Nodup) {i j : Nat} {x : Str} (a : N[i]? = some x) (b : N[j]? = some x) : i = j := by
  obtain ⟨h1, e1⟩ := List.getElem?_eq_some_iff.mp a
  obtain ⟨h2, e2⟩ := List.getElem?_eq_some_iff.mp b
  exact (List.getElem_inj hN).mp (e1.trans e2.symm)
theorem store_ok2 {M : Model} {A : Around} {E : Value → Shared → Prop} {i : Nat} {x : Str} {v : V} {u : Value} {Q : Unit → Shared → Prop} (I : Inv X pins σ H s) (hN : X.N.Nodup) (hi : X.N[i]? = some x) (hx : Loc X.env.scope x) (r : RelV v u)
    (h : ∀ s', Inv X pins (σ.set i (some v)) H s' → (∃ a, Heap.SameBut a s.heap s'.heap ∧ (a = X.env.locals ∨ X.env.cells.lookup x = some a)) → Q () s') (hf : X.fn x = true ∨ X.env.scope.names.lookup x = some .local := by first | exact .inl rfl | exact .inr rfl | assumption) : wpAny M A (storeName X.env x u) Q E s := by
  obtain ⟨m, hn, hl⟩ := id I.loc
  have hcls : (X.env.scope.kind == .class || (X.env.scope.kind == .module && X.env.locals != X.env.globals)) = false := by rw [I.ok.kind]; rfl
  have hiσ : i < σ.length := by rw [I.len]; exact (List.getElem?_eq_some_iff.mp hi).1
  have cne := I.cne
  have tracked : ∀ {a : Addr} {h' : Heap}, (∃ o, s.heap.get? a = some o ∧ H a = none) → Heap.SameBut a s.heap h' → HOk X.prog X.w H h' := fun {a h'} ha hs b ob e => by
    obtain ⟨_, _, hfree⟩ := ha
    refine (I.hok b ob e).stay (fun c w' hc q => (hs.2 c ?_).trans q) (fun _ q => q) fun _ _ q => q
    rintro rfl
    rcases hc with rfl | hc
    · rw [hfree] at e; cases e
    · rw [hfree] at hc; cases hc
  rcases hx with hk | hk
  · refine wpAny_storeName_local hk hn (fun h' hn' hs => ?_) hcls
    obtain ⟨oL, _, _, hoL, _⟩ := id hn
    refine h _ ⟨I.ok, I.os, I.bare, ⟨fun b o e n hb hx => ?_, fun b o e n hb hx => ?_, I.base.free, fun b o e hx => ?_, I.base.tups, I.base.frzs, I.base.tbls⟩, ⟨_, hn', fun j y v' e1 e2 e3 => ?_⟩, fun y c e => ?_, I.free, I.freeC, fun p hp => ?_, tracked ⟨oL, hoL, I.free⟩ hs, by simpa using I.len⟩ ⟨_, hs, .inl rfl⟩
    · exact (hs.2 b (Nat.ne_of_lt (Nat.lt_of_lt_of_le (Heap.lt_size e) I.ok.above))).trans (I.base.keep b o e n hb hx)
    · obtain ⟨sl, e1⟩ := I.base.slot b o e n hb hx
      exact ⟨sl, (hs.2 b (Nat.ne_of_lt (Nat.lt_of_lt_of_le (Heap.lt_size e) I.ok.above))).trans e1⟩
    · obtain ⟨o', e1⟩ := I.base.there b o e hx
      exact ⟨o', (hs.2 b (Nat.ne_of_lt (Nat.lt_of_lt_of_le (Heap.lt_size e) I.ok.above))).trans e1⟩
    · by_cases hj : j = i
      · subst hj
        rw [hi] at e1; cases e1
        rw [List.getElem?_set_self hiσ] at e2
        cases e2
        exact ⟨u, r, .inl ⟨hk, by simp⟩⟩
      · rw [List.getElem?_set_ne (Ne.symm hj)] at e2
        obtain ⟨u', r', q⟩ := hl j y v' e1 e2 e3
        refine ⟨u', r', ?_⟩
        rcases q with ⟨k, e⟩ | ⟨k, c, e, z⟩
        · refine .inl ⟨k, ?_⟩
          have : y ≠ x := fun e => hj (nodup_ix hN e1 (e ▸ hi))
          simp [this, e]
        · exact .inr ⟨k, c, e, z.sameBut hs (cne y c e)⟩
    · obtain ⟨w', z⟩ := I.cell y c e
      exact ⟨w', z.sameBut hs (cne y c e)⟩
    · obtain ⟨e, n, ne, nf, d⟩ := I.pin p hp
      exact ⟨(hs.2 p.1 ne).trans e, n, ne, nf, d⟩
  · have hfn : X.fn x = true := by
      rcases hf with z | z
      · exact z
      · rw [z] at hk; cases hk
    obtain ⟨c, hc⟩ := I.ok.has x (.inl hk)
    obtain ⟨w', z⟩ := I.cell x c hc
    refine wpAny_storeName_cell I.ok.kind hk hc z (fun h' hc' hs => ?_)
    obtain ⟨oc, hoc, hocd⟩ := id z
    refine h { s with heap := h' } ⟨I.ok, I.os, I.bare, ⟨fun b o e n hb hx => ?_, fun b o e n hb hx => ?_, I.base.free, fun b o e hx => ?_, I.base.tups, I.base.frzs, I.base.tbls⟩, ⟨m, hn.sameBut hs (Ne.symm (cne x c hc)), fun j y v' e1 e2 e3 => ?_⟩, fun y c' e => ?_, I.free, I.freeC, fun p hp => ?_, tracked ⟨oc, hoc, I.freeC x c hc⟩ hs, by simpa using I.len⟩ ⟨c, hs, .inr hc⟩
    · exact (hs.2 b (Nat.ne_of_lt (Nat.lt_of_lt_of_le (Heap.lt_size e) (I.ok.cab x c hfn hc)))).trans (I.base.keep b o e n hb hx)
    · obtain ⟨sl, e1⟩ := I.base.slot b o e n hb hx
      exact ⟨sl, (hs.2 b (Nat.ne_of_lt (Nat.lt_of_lt_of_le (Heap.lt_size e) (I.ok.cab x c hfn hc)))).trans e1⟩
    · obtain ⟨o', e1⟩ := I.base.there b o e hx
      exact ⟨o', (hs.2 b (Nat.ne_of_lt (Nat.lt_of_lt_of_le (Heap.lt_size e) (I.ok.cab x c hfn hc)))).trans e1⟩
    · by_cases hj : j = i
      · subst hj
        rw [hi] at e1; cases e1
        rw [List.getElem?_set_self hiσ] at e2
        cases e2
        exact ⟨u, r, .inr ⟨.inl hk, c, hc, hc'⟩⟩
      · rw [List.getElem?_set_ne (Ne.symm hj)] at e2
        obtain ⟨u', r', q⟩ := hl j y v' e1 e2 e3
        refine ⟨u', r', ?_⟩
        rcases q with q | ⟨k, c', e, z'⟩
        · exact .inl q
        · refine .inr ⟨k, c', e, z'.sameBut hs ?_⟩
          rintro rfl
          exact hj (nodup_ix hN e1 (I.ok.inj _ _ _ e hc ▸ hi))
    · by_cases hcc : c' = c
      · subst hcc; exact ⟨_, hc'⟩
      · obtain ⟨w2, z2⟩ := I.cell y c' e
        exact ⟨w2, z2.sameBut hs hcc⟩
    · obtain ⟨e, n, ne, nf, d⟩ := I.pin p hp
      refine ⟨(hs.2 p.1 ?_).trans e, n, ne, nf, d⟩
      intro q
      rw [q, hoc] at e
      have q' : oc = p.2 := Option.some.inj e
      exact d w' (by rw [← q']; exact hocd)
theorem store_ok {M : Model} {A : Around} {E : Value → Shared → Prop} {i : Nat} {x : Str} {v : V} {u : Value} {Q : Unit → Shared → Prop} (I : Inv X pins σ H s) (hN : X.N.Nodup) (hi : X.N[i]? = some x) (hx : Loc X.env.scope x) (r : RelV v u)
    (h : ∀ s', Inv X pins (σ.set i (some v)) H s' → Q () s') (hf : X.fn x = true ∨ X.env.scope.names.lookup x = some .local := by first | exact .inl rfl | exact .inr rfl | assumption) : wpAny M A (storeName X.env x u) Q E s :=
  store_ok2 I hN hi hx r (fun s' I' _ => h s' I') hf
theorem Inv.call' {s' : Shared} {ch : List Addr} (I : Inv X pins σ H s) (ho : s'.os = s.os) (u : Un (frs X.stack) ch H H' s.heap s'.heap) (hok : HOk X.prog X.w H' s'.heap) (hg : AllBare s'.gens)
    (hch : ∀ b ∈ ch, (b ∈ X.ex ∨ X.s₀.heap.objs.size ≤ b) ∧ b ≠ X.env.locals ∧ (∀ x c, X.env.cells.lookup x = some c → c ≠ b) ∧ ∀ p ∈ X.pn ++ pins, p.1 ≠ b) : Inv X pins σ H' s' := by
  obtain ⟨h', g', d', t', o'⟩ := s'
  have e : o' = s.os := ho
  subst e
  exact I.call (g' := g') (t' := t') (d' := d') u hok hg hch
end
abbrev XK := Value → Option Addr → Hp → Prop
abbrev St := List (Option V)
abbrev VK := V → Hp → Prop
abbrev TE := St → Hp → VK → Prop
abbrev TT := St → Hp → (Bool → Hp → Prop) → Prop
abbrev TA := St → Hp → (List V → Hp → Prop) → Prop
structure Ends where
  nx : St → Hp → Prop
  rt : VK
  bk : St → Hp → Prop := fun _ _ => False
  ct : St → Hp → Prop := fun _ _ => False
abbrev TS := Ends → St → Hp → Prop
def EP (X : Cx) (pins : List (Addr × Obj)) (σ : St) (Q : VK) (u : Value) (s' : Shared) : Prop := ∃ v H', Inv X pins σ H' s' ∧ RelV v u ∧ Q v H'
def TP (X : Cx) (pins : List (Addr × Obj)) (σ : St) (Q : Bool → Hp → Prop) (b : Bool) (s' : Shared) : Prop := ∃ H', Inv X pins σ H' s' ∧ Q b H'
def AP (X : Cx) (pins : List (Addr × Obj)) (σ : St) (Q : List V → Hp → Prop) (us : List Value) (s' : Shared) : Prop := ∃ vs H', Inv X pins σ H' s' ∧ Vals vs us ∧ Q vs H'
def SP (X : Cx) (pins : List (Addr × Obj)) (D : Ends) (f : Flow) (s' : Shared) : Prop :=
  match f with
  | .next => ∃ σ' H', Inv X pins σ' H' s' ∧ D.nx σ' H'
  | .brk => ∃ σ' H', Inv X pins σ' H' s' ∧ D.bk σ' H'
  | .cont => ∃ σ' H', Inv X pins σ' H' s' ∧ D.ct σ' H'
  | .ret u => ∃ v σ' H', Inv X pins σ' H' s' ∧ RelV v u ∧ D.rt v H'
def PE (X : Cx) (e : Expr) (t : TE) : Prop :=
  ∀ (pins : List (Addr × Obj)) (s : Shared) (σ : St) (H : Hp) (Q : VK), Inv X pins σ H s → t σ H Q → wpAny (model X.prog X.w) X.A (eval e X.env) (EP X pins σ Q) X.xe s
def PT (X : Cx) (e : Expr) (t : TT) : Prop :=
  ∀ (pins : List (Addr × Obj)) (s : Shared) (σ : St) (H : Hp) (Q : Bool → Hp → Prop), Inv X pins σ H s → t σ H Q → wpAny (model X.prog X.w) X.A (isTrue e X.env (eval e X.env)) (TP X pins σ Q) X.xe s
def PW (X : Cx) (e : Expr) (t : TT) : Prop :=
  ∀ (whole : Sem Value) (pins : List (Addr × Obj)) (s : Shared) (σ : St) (H : Hp) (Q : Bool → Hp → Prop), Inv X pins σ H s → t σ H Q → wpAny (model X.prog X.w) X.A (isTrue e X.env whole) (TP X pins σ Q) X.xe s
theorem PW.pt {X : Cx} {e : Expr} {t : TT} (h : PW X e t) : PT X e t := h _
def PA (X : Cx) (es : List Expr) (t : TA) : Prop :=
  ∀ (pos : Pos) (pins : List (Addr × Obj)) (s : Shared) (σ : St) (H : Hp) (Q : List V → Hp → Prop), Inv X pins σ H s → t σ H Q → wpAny (model X.prog X.w) X.A (spliced (backTo pos (starEach es X.env))) (AP X pins σ Q) X.xe s
def PS (X : Cx) (st : Stmt) (t : TS) : Prop :=
  ∀ (pins : List (Addr × Obj)) (s : Shared) (σ : St) (H : Hp) (D : Ends), Inv X pins σ H s → t D σ H → wpAny (model X.prog X.w) X.A (exec st X.env) (SP X pins D) X.xe s
def PSs (X : Cx) (st : List Stmt) (t : TS) : Prop :=
  ∀ (pins : List (Addr × Obj)) (s : Shared) (σ : St) (H : Hp) (D : Ends), Inv X pins σ H s → t D σ H → wpAny (model X.prog X.w) X.A (execs st X.env) (SP X pins D) X.xe s
theorem thn {α : Type} {t : Sem α} {Q Q' : α → Shared → Prop} {M : Model} {A : Around} {E : Value → Shared → Prop} {s : Shared} (h : wpAny M A t Q E s) (hQ : ∀ a s, Q a s → Q' a s) : wpAny M A t Q' E s := wpAny_mono h hQ fun _ _ x => x
end L2
namespace L2
open PySem PySem.Spec PyProof.Rows
section
variable {X : Cx}
theorem bin {a b : Expr} {ta tb : TE} (ha : PE X a ta) (hb : PE X b tb) {pins : List (Addr × Obj)} {s : Shared} {σ : St} {H : Hp} {R : V → V → Hp → Prop} (I : Inv X pins σ H s) (h : ta σ H fun x H1 => tb σ H1 fun y H2 => R x y H2)
    {α : Type} {Q : α → Shared → Prop} {f : Value → Value → Sem α}
    (hf : ∀ v u s2 x y H2, Inv X pins σ H2 s2 → RelV x v → RelV y u → R x y H2 → wpAny (model X.prog X.w) X.A (f v u) Q X.xe s2) :
    wpAny (model X.prog X.w) X.A (eval a X.env) (fun v s₁ => wpAny (model X.prog X.w) X.A (eval b X.env) (fun u s₂ => wpAny (model X.prog X.w) X.A (f v u) Q X.xe s₂) X.xe s₁) X.xe s := by
  refine thn (ha pins s σ H _ I h) fun v s1 ⟨x, H1, I1, r1, q1⟩ => ?_
  refine thn (hb pins s1 σ H1 _ I1 q1) fun u s2 ⟨y, H2, I2, r2, q2⟩ => ?_
  exact hf v u s2 x y H2 I2 r1 r2 q2
def tVar (i : Nat) : TE := fun σ H Q => ∃ v, σ[i]? = some (some v) ∧ Q v H
def tC (v : V) : TE := fun _ H Q => Q v H
theorem pe_var {i : Nat} {x : Str} {pos : Pos} (hN : X.N[i]? = some x) (hv : Vis X.env.scope x) (hd : (x == ("__debug__" : Str)) = false := by decide) (hcd : (x == ("__classdict__" : Str)) = false := by decide) : PE X (.Name x pos) (tVar i) := by
  intro pins s σ H Q I h
  obtain ⟨v, e, h⟩ := h
  obtain ⟨m, hn, hl⟩ := I.loc
  obtain ⟨u, r, l⟩ := hl i x v hN e hv
  have fin : EP X pins σ Q u s := ⟨v, H, I, r, h⟩
  rcases l with ⟨hk, hm⟩ | ⟨hk, c, hc, hcell⟩
  · exact wpAny_Name (wpAny_loadName_local I.ok.kind hk hn hm fin) hd
  · rcases hk with hk | hk
    · exact wpAny_Name (wpAny_loadName_cell I.ok.kind hk hc hcell fin) hd
    · exact wpAny_Name (wpAny_loadName_free I.ok.kind hk hc hcell fin hcd) hd
theorem pe_int {i j pos} : PE X (.Constant (.int i) j pos) (tC (.int i)) := fun _ _ _ H _ I h => wpAny_Constant_int ⟨.int i, H, I.tok _, ⟨_, rfl⟩, h⟩
theorem pe_bl {b j pos} : PE X (.Constant (.bool b) j pos) (tC (.bl b)) := fun _ _ _ H _ I h => Constant_bool ⟨.bl b, H, I, rfl, h⟩
theorem pe_non {j pos} : PE X (.Constant .none j pos) (tC .non) := fun _ _ _ H _ I h => Constant_none ⟨.non, H, I, rfl, h⟩
theorem pe_str {x j pos} : PE X (.Constant (.str x) j pos) (tC (.str x)) := fun _ _ _ H _ I h => Calls.Constant_str ⟨.str x, H, I.tok _, ⟨_, rfl⟩, h⟩
def Gl (X : Cx) (x : Str) : Prop := X.env.kindOf x = some .globalImplicit
theorem ld_glob {E : Value → Shared → Prop} {pins : List (Addr × Obj)} {s : Shared} {σ : St} {H : Hp} {x : Str} {u : Value} {pos : Pos} {Q : Value → Shared → Prop} (I : Inv X pins σ H s) (hg : Gl X x) (hm : X.mg x = some u) (h : Q u s)
    (hd : (x == ("__debug__" : Str)) = false := by decide) : wpAny (model X.prog X.w) X.A (eval (.Name x pos) X.env) Q E s :=
  Calls.Name_function_global I.ok.kind hg (Calls.loadGlobal_global (by rw [I.ok.glob]; exact I.mod.glob.keeps I.bk) hm h) hd
theorem ld_blt {E : Value → Shared → Prop} {pins : List (Addr × Obj)} {s : Shared} {σ : St} {H : Hp} {x : Str} {u : Value} {pos : Pos} {Q : Value → Shared → Prop} (I : Inv X pins σ H s) (hg : Gl X x) (hm : X.mg x = none) (hv : bootBuiltins x = some u) (h : Q u s)
    (hn : x ≠ "__name__" := by decide) (hd : (x == ("__debug__" : Str)) = false := by decide) : wpAny (model X.prog X.w) X.A (eval (.Name x pos) X.env) Q E s := by
  obtain ⟨mb, h1, h2⟩ := I.mod.blt
  exact Calls.Name_function_global I.ok.kind hg (Calls.loadGlobal_builtin (by rw [I.ok.glob]; exact I.mod.glob.keeps I.bk) hm (by rw [I.ok.blt]; exact h1.keeps I.bk) ((h2 x hn).trans hv) h) hd
theorem pe_glob {x : Str} {v : V} {u : Value} {pos : Pos} (hg : Gl X x) (hm : X.mg x = some u) (r : RelV v u) (hd : (x == ("__debug__" : Str)) = false := by decide) : PE X (.Name x pos) (tC v) :=
  fun _ _ _ H _ I h => ld_glob I hg hm ⟨v, H, I, r, h⟩ hd
theorem pe_bltn {x : Str} {v : V} {u : Value} {pos : Pos} (hg : Gl X x) (hm : X.mg x = none) (hv : bootBuiltins x = some u) (r : RelV v u) (hn : x ≠ "__name__" := by decide) (hd : (x == ("__debug__" : Str)) = false := by decide) : PE X (.Name x pos) (tC v) :=
  fun _ _ _ H _ I h => ld_blt I hg hm hv ⟨v, H, I, r, h⟩ hn hd
variable {a b : Expr} {ta tb : TE} {pos : Pos}
def PC (X : Cx) (op : CmpOp) (a b : Expr) (t : TE) : Prop :=
  ∀ (pins : List (Addr × Obj)) (s : Shared) (σ : St) (H : Hp) (Q : VK), Inv X pins σ H s → t σ H Q →
    wpAny (model X.prog X.w) X.A (eval a X.env) (fun v s₁ => wpAny (model X.prog X.w) X.A (eval b X.env) (fun u s₂ => wpAny (model X.prog X.w) X.A (compareOp op v u) (EP X pins σ Q) X.xe s₂) X.xe s₁) X.xe s
theorem nobehind (b : Expr) {op : CmpOp} (h : op ≠ .In) (h2 : op ≠ .NotIn) : behindInMarks op b = false := by
  have e1 : (op == CmpOp.In) = false := by cases op <;> first | rfl | exact absurd rfl h
  have e2 : (op == CmpOp.NotIn) = false := by cases op <;> first | rfl | exact absurd rfl h2
  cases b <;> simp [behindInMarks, e1, e2]
def tB (t : TE) : TT := fun σ H Q => t σ H fun x H1 => ∃ c, x = .bl c ∧ Q c H1
theorem pt_cmp {op : CmpOp} {t : TE} (h : PC X op a b t) (h1 : behindInMarks op b = false := by first | exact nobehind _ (by decide) (by decide) | rfl) : PT X (.Compare a [op] [b] pos) (tB t) := by
  intro pins s σ H Q I hw
  refine wpAny_isTrue_Compare1 (thn (h pins s σ H _ I hw) fun v s1 h1 => thn h1 fun u s2 h2 => thn h2 fun c s3 ⟨x, H1, I1, r1, q1⟩ => ?_) h1
  obtain ⟨d, rfl, q⟩ := q1
  cases r1
  exact wpAny_truthy_bool ⟨H1, I1, q⟩
theorem pt_val {e : Expr} {t : TE} (h : PE X e t) (he : ∀ whole, isTrue e X.env whole = (do let v ← whole; standAt e.pos; holding [v] (truthy v)) := by intro _; rfl) : PT X e (tB t) := by
  intro pins s σ H Q I hw
  refine isTrue_plain (thn (h pins s σ H _ I hw) fun v s1 ⟨x, H1, I1, r1, q1⟩ => ?_) (he _)
  obtain ⟨d, rfl, q⟩ := q1
  cases r1
  exact wpAny_truthy_bool ⟨H1, I1, q⟩
variable {tA tB' : TT} {rest : List Expr}
def tAnd (t u : TT) : TT := fun σ H Q => t σ H fun c H1 => if c = true then u σ H1 Q else Q false H1
def tOr (t u : TT) : TT := fun σ H Q => t σ H fun c H1 => if c = true then Q true H1 else u σ H1 Q
def tNot (t : TT) : TT := fun σ H Q => t σ H fun c H1 => Q (!c) H1
theorem pw_and1 (ha : PT X a tA) : PW X (.BoolOp .And [a] pos) tA := by
  intro wh pins s σ H Q I h
  refine isTrue_and (thn (ha pins s σ H Q I h) fun c s1 e => ?_)
  cases c with
  | true => exact isTrue_and_nil e
  | false => exact e
theorem pw_or1 (ha : PT X a tA) : PW X (.BoolOp .Or [a] pos) tA := by
  intro wh pins s σ H Q I h
  refine isTrue_or (thn (ha pins s σ H Q I h) fun c s1 e => ?_)
  cases c with
  | false => exact isTrue_or_nil e
  | true => exact e
theorem pw_and (ha : PT X a tA) (hb : PW X (.BoolOp .And (b :: rest) pos) tB') : PW X (.BoolOp .And (a :: b :: rest) pos) (tAnd tA tB') := by
  intro wh pins s σ H Q I h
  refine isTrue_and (thn (ha pins s σ H _ I h) fun c s1 ⟨H1, I1, q1⟩ => ?_)
  cases c with
  | true => exact hb wh pins s1 σ H1 Q I1 q1
  | false => exact ⟨H1, I1, q1⟩
theorem pw_or (ha : PT X a tA) (hb : PW X (.BoolOp .Or (b :: rest) pos) tB') : PW X (.BoolOp .Or (a :: b :: rest) pos) (tOr tA tB') := by
  intro wh pins s σ H Q I h
  refine isTrue_or (thn (ha pins s σ H _ I h) fun c s1 ⟨H1, I1, q1⟩ => ?_)
  cases c with
  | true => exact ⟨H1, I1, q1⟩
  | false => exact hb wh pins s1 σ H1 Q I1 q1
theorem pt_not (ha : PT X a tA) : PT X (.UnaryOp .Not a pos) (tNot tA) := by
  intro pins s σ H Q I h
  exact isTrue_not (ha pins s σ H (fun c H1 => Q (!c) H1) I h)
end
end L2
namespace L2
open PySem PySem.Spec PyProof.Rows
def SqL (K : PySem.W.Frag) (H : Hp) (a : Addr) (xs : List V) : Prop :=
  Rd H a (.lst xs) ∨
    ∃ (o : Obj) (its : Array Value) (n : Nat), K.lookup a = some o ∧ o.cls = .type "list" ∧ o.dict = none ∧ o.data = .seq its n ∧ its.size ≤ sizeLine ∧ Vals xs its.toList
def SqT (K : PySem.W.Frag) (H : Hp) (a : Addr) (xs : List V) : Prop :=
  Rd H a (.tup xs) ∨
    ∃ (o : Obj) (its : Array Value) (n : Nat), K.lookup a = some o ∧ o.cls = .type "tuple" ∧ o.data = .seq its n ∧ its.size ≤ sizeLine ∧ Vals xs its.toList
def absV : Value → Option V
  | .none => some .non
  | .bool b => some (.bl b)
  | .int i _ => some (.int i)
  | .str x _ => some (.str x)
  | .bytes b _ => some (.byt b)
  | .float b _ => some (.flt b)
  | .ref a => some (.ref a)
  | .type n => some (.ty n)
  | _ => none
theorem RelV.abs {x : V} {u : Value} (r : RelV x u) : absV u = some x := by
  cases x with
  | non => cases r; rfl
  | bl _ => cases r; rfl
  | int _ => obtain ⟨t, rfl⟩ := r; rfl
  | str _ => obtain ⟨t, rfl⟩ := r; rfl
  | byt _ => obtain ⟨t, rfl⟩ := r; rfl
  | flt _ => obtain ⟨t, rfl⟩ := r; rfl
  | ref _ => cases r; rfl
  | ty _ => cases r; rfl
theorem RelV.inj {x y : V} {u : Value} (r : RelV x u) (q : RelV y u) : x = y := Option.some.inj (r.abs.symm.trans q.abs)
theorem Vals.inj : ∀ {xs ys : List V} {us : List Value}, Vals xs us → Vals ys us → xs = ys
  | _, _, _, .nil, .nil => rfl
  | _, _, _, .cons r t, .cons r' t' => by rw [r.inj r', Vals.inj t t']
section
variable {X : Cx} {pins : List (Addr × Obj)} {σ : St} {H : Hp} {s : Shared} {a : Addr} {xs ys : List V}
theorem SqL.of {K : PySem.W.Frag} (h : H a = some (.lst xs)) : SqL K H a xs := .inl (.inl h)
theorem SqT.of {K : PySem.W.Frag} (h : H a = some (.tup xs)) : SqT K H a xs := .inl (.inl h)
theorem Inv.list (I : Inv X pins σ H s) (h : SqL X.K H a xs) : ∃ its : List Value, Vals xs its ∧ PlainL s.heap a its.toArray ∧ xs.length ≤ sizeLine := by
  rcases h with h | ⟨o, its, n, hk, hc, hd, hs, hz, r⟩
  · obtain ⟨z, its, n, r, e⟩ := h.ok I.hok
    exact ⟨its, r, ⟨_, n, e, rfl, rfl, rfl⟩, z⟩
  · refine ⟨its.toList, r, ⟨o, n, I.kIn a o hk, hc, hd, by simpa using hs⟩, ?_⟩
    have e := r.length
    simp only [Array.length_toList] at e
    omega
theorem Inv.tuple (I : Inv X pins σ H s) (h : SqT X.K H a xs) : ∃ its : List Value, Vals xs its ∧ IsTup s.heap a its.toArray ∧ xs.length ≤ sizeLine := by
  rcases h with h | ⟨o, its, n, hk, hc, hs, hz, r⟩
  · obtain ⟨z, its, r, p⟩ := h.ok I.hok
    exact ⟨its, r, p, z⟩
  · refine ⟨its.toList, r, ⟨o, I.kIn a o hk, hc, n, by simpa using hs⟩, ?_⟩
    have e := r.length
    simp only [Array.length_toList] at e
    omega
theorem Inv.list_inj (I : Inv X pins σ H s) (h : SqL X.K H a xs) (h' : SqL X.K H a ys) : xs = ys := by
  obtain ⟨its, r, ⟨o, n, e, _, _, d⟩, _⟩ := I.list h
  obtain ⟨its', r', ⟨o', n', e', _, _, d'⟩, _⟩ := I.list h'
  rw [e] at e'; cases e'
  rw [d] at d'
  injection d' with d1 _
  have : its = its' := by simpa using congrArg Array.toList d1
  subst this
  exact r.inj r'
end
abbrev Cx.wish (X : Cx) (E : Value → Shared → Prop) : Cx := { X with xe := E }
abbrev Cx.nox (X : Cx) : Cx := X.wish fun _ _ => False
theorem Cx.Ok.wish {X : Cx} (ok : X.Ok) (E : Value → Shared → Prop) : (X.wish E).Ok :=
  ⟨ok.mod, ok.kind, ok.glob, ok.blt, ok.above, ok.inj, ok.has, ok.cab, ok.hd, ok.frames, ok.stk, ok.exf, ok.bs, ok.bsz, ok.noex, ok.exfs, ok.funs, ok.frf⟩
theorem Cx.Ok.unwish {X : Cx} {E : Value → Shared → Prop} (ok : (X.wish E).Ok) : X.Ok :=
  ⟨ok.mod, ok.kind, ok.glob, ok.blt, ok.above, ok.inj, ok.has, ok.cab, ok.hd, ok.frames, ok.stk, ok.exf, ok.bs, ok.bsz, ok.noex, ok.exfs, ok.funs, ok.frf⟩
section
variable {X : Cx} {pins : List (Addr × Obj)} {σ : St} {H : Hp} {s : Shared} {E : Value → Shared → Prop}
theorem Inv.wish (I : Inv X pins σ H s) (E : Value → Shared → Prop) : Inv (X.wish E) pins σ H s := ⟨I.ok.wish E, I.os, I.bare, I.base, I.loc, I.cell, I.free, I.freeC, I.pin, I.hok, I.len⟩
theorem Inv.unwish (I : Inv (X.wish E) pins σ H s) : Inv X pins σ H s := ⟨I.ok.unwish, I.os, I.bare, I.base, I.loc, I.cell, I.free, I.freeC, I.pin, I.hok, I.len⟩
theorem SP.unwish {D : Ends} {f : Flow} {s' : Shared} (h : SP (X.wish E) pins D f s') : SP X pins D f s' := by
  cases f with
  | next => obtain ⟨σ', H', I, q⟩ := h; exact ⟨σ', H', I.unwish, q⟩
  | brk => obtain ⟨σ', H', I, q⟩ := h; exact ⟨σ', H', I.unwish, q⟩
  | cont => obtain ⟨σ', H', I, q⟩ := h; exact ⟨σ', H', I.unwish, q⟩
  | ret u => obtain ⟨v, σ', H', I, r, q⟩ := h; exact ⟨v, σ', H', I.unwish, r, q⟩
theorem PE.nox {e : Expr} {t : TE} (h : PE X.nox e t) : PE X e t := fun pins s σ H Q I hw =>
  wpAny_mono (h pins s σ H Q (I.wish _) hw) (fun _ _ ⟨v, H', I', r, q⟩ => ⟨v, H', I'.unwish, r, q⟩) fun _ _ z => False.elim z
theorem PT.nox {e : Expr} {t : TT} (h : PT X.nox e t) : PT X e t := fun pins s σ H Q I hw =>
  wpAny_mono (h pins s σ H Q (I.wish _) hw) (fun _ _ ⟨H', I', q⟩ => ⟨H', I'.unwish, q⟩) fun _ _ z => False.elim z
theorem PSs.nox {st : List Stmt} {t : TS} (h : PSs X.nox st t) : PSs X st t := fun pins s σ H D I hw =>
  wpAny_mono (h pins s σ H D (I.wish _) hw) (fun _ _ q => q.unwish) fun _ _ z => False.elim z
end
section
variable {X : Cx} {st : Stmt} {rest : List Stmt} {t u : TS} {e : Expr} {te : TE} {pos : Pos}
def tNext : TS := fun D σ H => D.nx σ H
def tSeq (t u : TS) : TS := fun D σ H => t { D with nx := u D } σ H
theorem pss_nil : PSs X [] tNext := fun _ _ σ H _ I h => wpAny_execs_nil ⟨σ, H, I, h⟩
theorem pss_cons (h1 : PS X st t) (h2 : PSs X rest u) : PSs X (st :: rest) (tSeq t u) := by
  intro pins s σ H D I h
  refine wpAny_execs_cons (thn (h1 pins s σ H { D with nx := u D } I h) fun f s1 q => ?_)
  cases f with
  | next =>
    obtain ⟨σ', H', I', q⟩ := q
    exact h2 pins s1 σ' H' D I' q
  | ret v => exact q
  | brk => exact q
  | cont => exact q
theorem pss_one (h1 : PS X st t) : PSs X [st] t := by
  intro pins s σ H D I h
  refine wpAny_execs_cons (thn (h1 pins s σ H D I h) fun f s1 q => ?_)
  cases f with
  | next => exact wpAny_execs_nil q
  | ret v => exact q
  | brk => exact q
  | cont => exact q
theorem Inv.quiet {pins : List (Addr × Obj)} {σ : St} {H : Hp} {s : Shared} (I : Inv X pins σ H s) : interactive X.env = false := by simp [interactive, I.ok.kind]
def tDrop (te : TE) : TS := fun D σ H => te σ H fun _ H1 => D.nx σ H1
theorem ps_expr (he : PE X e te) (hs : swapsWith e none pos.line X.env = pure false := by rfl) : PS X (.Expr e pos) (tDrop te) := by
  intro pins s σ H D I h
  exact wpAny_Expr_any (thn (he pins s σ H _ I h) fun v s1 ⟨x, H1, I1, r1, q1⟩ => ⟨σ, H1, I1, q1⟩) I.quiet hs
def tRet (te : TE) : TS := fun D σ H => te σ H D.rt
theorem ps_ret (he : PE X e te) : PS X (.Return (some e) pos) (tRet te) := by
  intro pins s σ H D I h
  exact wpAny_Return_some (thn (he pins s σ H _ I h) fun v s1 ⟨x, H1, I1, r1, q1⟩ => ⟨x, σ, H1, I1, r1, q1⟩)
def tRetN : TS := fun D _ H => D.rt .non H
def tIfS (c : TT) (t u : TS) : TS := fun D σ H => c σ H fun b H1 => if b = true then t D σ H1 else u D σ H1
theorem ps_if {c : Expr} {a b : List Stmt} {tc : TT} (hc : PT X c tc) (ha : PSs X a t) (hb : PSs X b u) : PS X (.If c a b pos) (tIfS tc t u) := by
  intro pins s σ H D I h
  refine wpAny_If (thn (hc pins s σ H _ I h) fun d s1 ⟨H1, I1, q1⟩ => ?_)
  cases d with
  | true => exact ha pins s1 σ H1 D I1 q1
  | false => exact hb pins s1 σ H1 D I1 q1
end
abbrev TG := V → St → Hp → (St → Hp → Prop) → Prop
abbrev TGs := List V → St → Hp → (St → Hp → Prop) → Prop
def PG (X : Cx) (target : Expr) (t : TG) : Prop :=
  ∀ (pins : List (Addr × Obj)) (s : Shared) (σ : St) (H : Hp) (v : V) (u : Value) (Q : St → Hp → Prop), Inv X pins σ H s → RelV v u → t v σ H Q →
    wpAny (model X.prog X.w) X.A (assign target X.env u) (fun _ s' => ∃ σ' H', Inv X pins σ' H' s' ∧ Q σ' H') X.xe s
def PGs (X : Cx) (ts : List Expr) (t : TGs) : Prop :=
  ∀ (pins : List (Addr × Obj)) (s : Shared) (σ : St) (H : Hp) (vs : List V) (us : List Value) (Q : St → Hp → Prop), Inv X pins σ H s → Vals vs us → t vs σ H Q →
    wpAny (model X.prog X.w) X.A (assignInOrder ((assignEach ts X.env).map (·.2)) us) (fun _ s' => ∃ σ' H', Inv X pins σ' H' s' ∧ Q σ' H') X.xe s
abbrev TSet := V → V → V → Hp → (Hp → Prop) → Prop
def PSet (X : Cx) (t : TSet) : Prop :=
  ∀ (pins : List (Addr × Obj)) (s : Shared) (σ : St) (H : Hp) (o i v : V) (ov iv u : Value) (Q : Hp → Prop), Inv X pins σ H s → RelV o ov → RelV i iv → RelV v u → t o i v H Q →
    wpAny (model X.prog X.w) X.A (setItem ov iv u) (fun _ s' => ∃ H', Inv X pins σ H' s' ∧ Q H') X.xe s
section
variable {X : Cx} {pos : Pos}
def gName (i : Nat) : TG := fun v σ H Q => Q (σ.set i (some v)) H
theorem pg_name {i : Nat} {x : Str} (hN : X.N.Nodup) (hi : X.N[i]? = some x) (hx : Loc X.env.scope x) (hf : X.fn x = true ∨ X.env.scope.names.lookup x = some .local := by first | exact .inl rfl | exact .inr rfl | assumption) : PG X (.Name x pos) (gName i) := by
  intro pins s σ H v u Q I r h
  exact wpAny_assign_Name (store_ok I hN hi hx r (fun s' I' => ⟨_, H, I', h⟩) hf)
def gNil : TGs := fun vs σ H Q => vs = [] ∧ Q σ H
def gCons (t : TG) (u : TGs) : TGs := fun vs σ H Q => ∃ v r, vs = v :: r ∧ t v σ H fun σ' H' => u r σ' H' Q
theorem pgs_nil : PGs X [] gNil := by
  intro pins s σ H vs us Q I r h
  obtain ⟨e, h⟩ := h
  subst e
  cases r
  exact assignInOrder_nil ⟨σ, H, I, h⟩
theorem pgs_cons {e : Expr} {es : List Expr} {t : TG} {u : TGs} (h1 : PG X e t) (h2 : PGs X es u)
    (hs : (assignEach (e :: es) X.env).map (·.2) = assign e X.env :: (assignEach es X.env).map (·.2) := by rfl) : PGs X (e :: es) (gCons t u) := by
  intro pins s σ H vs us Q I r h
  obtain ⟨v, vr, e1, h⟩ := h
  subst e1
  cases r with
  | cons r rr =>
    rw [hs]
    refine assignInOrder_cons (thn (h1 pins s σ H _ _ _ I r h) fun _ s1 ⟨σ1, H1, I1, q1⟩ => ?_)
    exact h2 pins s1 σ1 H1 _ _ Q I1 rr q1
def gTup (K : PySem.W.Frag) (n : Nat) (t : TGs) : TG := fun v σ H Q => ∃ a xs, v = .ref a ∧ SqT K H a xs ∧ xs.length = n ∧ t xs σ H Q
theorem pg_tup {es : List Expr} {k : Nat} {t : TGs} {n : Nat} (hc : X.calm = true) (h : PGs X es t)
    (hn : (assignEach es X.env).length = n := by rfl) (hst : (assignEach es X.env).findIdx? (·.1) = none := by rfl) : PG X (.Tuple es k pos) (gTup X.K n t) := by
  intro pins s σ H v u Q I r hw
  obtain ⟨a, xs, e1, hq, hl, hw⟩ := hw
  subst e1
  cases r
  obtain ⟨its, rv, ht, hz⟩ := I.tuple hq
  refine assign_Tuple_tuple (I.ok.hd hc) ht (by simp [hn, ← hl, rv.length]) hst fun h' hx => ?_
  have I1 : Inv X pins σ H { s with heap := h' } := I.kept (t' := s.toks) fun b o e => hx b o (Nat.ne_of_lt (Heap.lt_size e)) e
  exact h pins _ σ H xs _ Q I1 (by simpa using rv) hw
def gSub (to ti : TE) (t : TSet) : TG := fun v σ H Q => to σ H fun o H1 => ti σ H1 fun i H2 => t o i v H2 fun H3 => Q σ H3
theorem pg_sub {o i : Expr} {to ti : TE} {t : TSet} (ho : PE X o to) (hi : PE X i ti) (hs : PSet X t)
    (ha : ∀ v, assign (.Subscript o i pos) X.env v = (do
      let ov ← holding [v] (eval o X.env)
      let iv ← holding [v, ov] (eval i X.env)
      standAt pos
      holding [v, ov, iv] (setItem ov iv v)
      release [v, ov, iv] []) := by intro _; rfl) : PG X (.Subscript o i pos) (gSub to ti t) := by
  intro pins s σ H v u Q I r h
  rw [ha]
  refine wpAny_bind (wpAny_holding (thn (ho pins s σ H _ I h) fun ov s1 ⟨x, H1, I1, r1, q1⟩ => ?_))
  refine wpAny_bind (wpAny_holding (thn (hi pins s1 σ H1 _ I1 q1) fun iv s2 ⟨y, H2, I2, r2, q2⟩ => ?_))
  refine wpAny_bind (wpAny_standAt (wpAny_bind (wpAny_holding (thn (hs pins s2 σ H2 x y v ov iv u _ I2 r1 r2 r q2) fun _ s3 ⟨H3, I3, q3⟩ => ?_))))
  exact wpAny_release ⟨σ, H3, I3, q3⟩
def tAsg (te : TE) (g : TG) : TS := fun D σ H => te σ H fun x H1 => g x σ H1 D.nx
theorem ps_asg {tg e : Expr} {te : TE} {g : TG} (he : PE X e te) (hg : PG X tg g) (hs : swapsWithSole [tg] e pos.line X.env = pure false := by rfl) (hw : swappedStores [tg] e X.env = pure none := by rfl)
    (h1 : (assignEach [tg] X.env).map (·.2) = [assign tg X.env] := by rfl) : PS X (.Assign [tg] e pos) (tAsg te g) := by
  intro pins s σ H D I h
  refine wpAny_Assign_stores (thn (he pins s σ H _ I h) fun v s1 ⟨x, H1, I1, r1, q1⟩ => ?_) hs hw
  rw [h1]
  exact thn (hg pins s1 σ H1 x v _ I1 r1 q1) fun _ s2 q => q
theorem ps_set {i : Nat} {x : Str} {e : Expr} {te : TE} {pos' : Pos} (hN : X.N.Nodup) (hi : X.N[i]? = some x) (hx : Loc X.env.scope x) (he : PE X e te) (hs : swapsWith e (some (.Name x pos')) pos.line X.env = pure false := by rfl) (hf : X.fn x = true ∨ X.env.scope.names.lookup x = some .local := by first | exact .inl rfl | exact .inr rfl | assumption) :
    PS X (.Assign [.Name x pos'] e pos) (tAsg te (gName i)) := by
  intro pins s σ H D I h
  refine wpAny_Assign_Name (thn (he pins s σ H _ I h) fun v s1 ⟨y, H1, I1, r1, q1⟩ => ?_) hs
  exact store_ok I1 hN hi hx r1 (fun s2 I2 => ⟨_, H1, I2, q1⟩) hf
end
section
variable {X : Cx} {pos : Pos}
end
structure It where
  go : Nat → Hp → Prop
  yld : Nat → Hp → V → Hp → Prop
  stop : Nat → Hp → Prop
def FpOk (X : Cx) (pins : List (Addr × Obj)) (H : Hp) (b : Addr) : Prop :=
  H b = none ∧ b ≠ X.env.locals ∧ b ∉ X.fs ∧ (b ∈ X.ex ∨ X.s₀.heap.objs.size ≤ b) ∧ (∀ x c, X.env.cells.lookup x = some c → c ≠ b) ∧ ∀ p ∈ X.pn ++ pins, p.1 ≠ b
theorem Inv.fpOk {X : Cx} {pins : List (Addr × Obj)} {σ : St} {H H' : Hp} {s : Shared} {b : Addr} (I : Inv X pins σ H s) (hb : s.heap.objs.size ≤ b) (hn : H' b = none) : FpOk X pins H' b := by
  refine ⟨hn, Nat.ne_of_gt (Nat.lt_of_lt_of_le I.lt hb), I.nofs hb, .inr (Nat.le_trans I.sz hb), fun x c e z => ?_, fun p hp z => ?_⟩
  · obtain ⟨v, q⟩ := I.cell x c e
    exact absurd (Nat.lt_of_lt_of_le q.lt (by rw [z]; exact hb)) (Nat.lt_irrefl _)
  · exact absurd (Nat.lt_of_lt_of_le (Heap.lt_size (I.pin p hp).1) (by rw [z]; exact hb)) (Nat.lt_irrefl _)
structure Turn (P : Program) (w : World) (K : PySem.W.Frag) (tg : Expr) (J : It) (fp : List Addr) (it : Addr) (tn : Nat → Heap → Prop) : Prop where
  mem : it ∈ fp
  obj : ∀ i h, tn i h → ∀ b ∈ fp, ∃ o, h.get? b = some o ∧ ∀ v, o.data ≠ .cell v
  keep : ∀ i h h', tn i h → (∀ b ∈ fp, ∀ o, h.get? b = some o → h'.get? b = some o) → tn i h'
  item : ∀ (X : Cx), X.prog = P → X.w = w → X.K = K → X.calm = true → ∀ (i : Nat) (pins : List (Addr × Obj)) (s : Shared) (σ : St) (H : Hp) (E : Value → Shared → Prop), Inv X pins σ H s → (∀ b ∈ fp, FpOk X pins H b) → tn i s.heap → J.go i H →
    wpAny (model P w) X.A (pyNext (.ref it)) (fun r s1 => ∃ u, r = some u ∧
      wpAny (model P w) X.A (letOwnedTupleGo tg (.ref it) u) (fun _ s2 => ∃ x H', Inv X pins σ H' s2 ∧ RelV x u ∧ J.yld i H x H' ∧ tn (i + 1) s2.heap ∧ ∀ b ∈ fp, H' b = none) E s1) E s
  done : ∀ (X : Cx), X.prog = P → X.w = w → X.K = K → X.calm = true → ∀ (i : Nat) (pins : List (Addr × Obj)) (s : Shared) (σ : St) (H : Hp) (E : Value → Shared → Prop), Inv X pins σ H s → (∀ b ∈ fp, FpOk X pins H b) → tn i s.heap → J.stop i H →
    wpAny (model P w) X.A (pyNext (.ref it)) (fun r s1 => r = none ∧ Inv X pins σ H s1) E s
  self : ∀ (A : Around) (i : Nat) (s : Shared) (Q : Value → Shared → Prop) (E : Value → Shared → Prop), tn i s.heap → Q (.ref it) s → wpAny (model P w) A (pyIter (.ref it)) Q E s
abbrev TI := St → Hp → (It → Hp → Prop) → Prop
def PIE (X : Cx) (pins : List (Addr × Obj)) (σ : St) (tg : Expr) (R : It → Hp → Prop) (itv : Value) (s2 : Shared) : Prop :=
  ∃ (it : Addr) (fp : List Addr) (tn : Nat → Heap → Prop) (J : It) (H' : Hp), itv = .ref it ∧ Inv X pins σ H' s2 ∧ Turn X.prog X.w X.K tg J fp it tn ∧ tn 0 s2.heap ∧ (∀ b ∈ fp, FpOk X pins H' b) ∧ R J H'
def PI (X : Cx) (tg iter : Expr) (wi : TI) : Prop :=
  ∀ (pins : List (Addr × Obj)) (s : Shared) (σ : St) (H : Hp) (R : It → Hp → Prop), Inv X pins σ H s → wi σ H R →
    wpAny (model X.prog X.w) X.A (eval iter X.env) (fun v s1 => wpAny (model X.prog X.w) X.A (pyIter v) (PIE X pins σ tg R) X.xe s1) X.xe s
theorem go_of {M : Model} {A : Around} {E : Value → Shared → Prop} {s : Shared} {tg : Expr} {it : Addr} {u : Value} {o : Obj} {n : String} {vs : Array Value} {Q : Unit → Shared → Prop} (ho : s.heap.get? it = some o) (hc : o.cls = .type n) (hd : o.data = .fields vs)
    (hn : ["enumerate", "zip", "dict_itemiterator", "dict_reverseitemiterator", "odict_iterator", "itertools.zip_longest", "itertools.pairwise"].contains n = false) (hQ : Q () s) : wpAny M A (letOwnedTupleGo tg (.ref it) u) Q E s := by
  unfold letOwnedTupleGo
  cases tg <;> first
    | exact wpAny_pure hQ
    | (cases u <;> first
        | exact wpAny_pure hQ
        | (refine wpAny_bind (wpAny_load ho ?_)
           rw [hc, hd]
           show wpAny M A (if (["enumerate", "zip", "dict_itemiterator", "dict_reverseitemiterator", "odict_iterator", "itertools.zip_longest", "itertools.pairwise"].contains n && vs[0]? == some (rawInt _)) = true then _ else _) Q E s
           rw [if_neg (by intro h; rw [hn, Bool.false_and] at h; cases h)]
           exact wpAny_pure hQ))
def Itl (K : PySem.W.Frag) (a : Addr) : It :=
  ⟨fun i H => ∃ xs x, SqL K H a xs ∧ xs[i]? = some x, fun i H x H' => H' = H ∧ ∀ xs, SqL K H a xs → xs[i]? = some x, fun i H => ∃ xs, SqL K H a xs ∧ xs.length ≤ i⟩
def Itr (lo : Int) (n : Nat) : It := ⟨fun i _ => i < n, fun i H x H' => H' = H ∧ x = .int (lo + i), fun i _ => n ≤ i⟩
theorem turn_list {P : Program} {w : World} {K : PySem.W.Frag} {tg : Expr} (a it : Addr) : Turn P w K tg (Itl K a) [it] it (fun i h => h.IsListIter it a i) where
  mem := by simp
  obj := fun i h st b hb => by
    have e : b = it := by simpa using hb
    subst e
    obtain ⟨o, e, c, d⟩ := st
    exact ⟨o, e, fun v z => by rw [d] at z; cases z⟩
  keep := fun i h h' st k => st.at fun o e => k it (by simp) o e
  item := by
    intro X hP hw hK hc i pins s σ H E I hf st hg
    subst hP hw hK
    obtain ⟨xs, x, hq, hx⟩ := hg
    obtain ⟨its, rv, p, hz⟩ := I.list hq
    obtain ⟨u, hu, ru⟩ := rv.get hx
    obtain ⟨f0, f1, f2, f3, f4, f5⟩ := hf it (by simp)
    refine wpAny_pyNext_list_item st p.isList (x := u) (by simpa using hu) fun h' st' sb => ?_
    have I1 : Inv X pins σ H { s with heap := h' } := I.turned (t' := s.toks) (fun b o hb e => (sb.2 b hb).trans e) f0 f1 f3 f4 f5
    obtain ⟨o, e, c, d⟩ := id st'
    exact ⟨u, rfl, go_of (s := { s with heap := h' }) e c d (by decide) ⟨x, H, I1, ru, ⟨rfl, fun ys hy => by rw [I.list_inj hy hq]; exact hx⟩, st', fun b hb => (hf b hb).1⟩⟩
  done := by
    intro X hP hw hK hc i pins s σ H E I hf st hg
    subst hP hw hK
    obtain ⟨xs, hq, hx⟩ := hg
    obtain ⟨its, rv, p, hz⟩ := I.list hq
    obtain ⟨f0, f1, f2, f3, f4, f5⟩ := hf it (by simp)
    have hl := rv.length
    exact wpAny_pyNext_list_end (I.ok.hd hc) st p.isList (by simp; omega) fun h' eb => ⟨rfl, I.turned (t' := s.toks) (fun b o hb e => eb b o hb e) f0 f1 f3 f4 f5⟩
  self := fun _ _ _ _ _ st h => wpAny_pyIter_listiter st h
theorem turn_range {P : Program} {w : World} {K : PySem.W.Frag} {tg : Expr} (it : Addr) (lo : Int) (n : Nat) : Turn P w K tg (Itr lo n) [it] it (fun i h => IsRangeIter h it (lo + (i : Nat) * 1) ((n : Int) - (i : Nat)) 1) where
  mem := by simp
  obj := fun i h st b hb => by
    have e : b = it := by simpa using hb
    subst e
    exact ⟨_, st, fun v z => by
      have z' : Data.fields _ = Data.cell v := z
      cases z'⟩
  keep := fun i h h' st k => k it (by simp) _ st
  item := by
    intro X hP hw hK hc i pins s σ H E I hf st hg
    subst hP hw hK
    obtain ⟨f0, f1, f2, f3, f4, f5⟩ := hf it (by simp)
    have W := Walks.range (prog := X.prog) (w := X.w) (I.ok.hd hc) it lo 1 n
    refine W.item i s _ _ hg st fun v h' tk hv st' kk => ?_
    obtain ⟨t, rfl⟩ := hv
    have I1 : Inv X pins σ H { s with heap := h', toks := tk } := I.turned (fun b o hb e => kk b o (by simpa using hb) e) f0 f1 f3 f4 f5
    refine ⟨_, rfl, go_of (s := { s with heap := h', toks := tk }) (n := "range_iterator") st' rfl rfl (by decide) ⟨.int (lo + i), H, I1, ⟨t, ?_⟩, ⟨rfl, rfl⟩, st', fun b hb => (hf b hb).1⟩⟩
    rw [Int.mul_one]
  done := by
    intro X hP hw hK hc i pins s σ H E I hf st hg
    subst hP hw hK
    obtain ⟨f0, f1, f2, f3, f4, f5⟩ := hf it (by simp)
    exact wpAny_pyNext_range_end (I.ok.hd hc) st (by have : n ≤ i := hg; omega) fun h' eb => ⟨rfl, I.turned (t' := s.toks) (fun b o hb e => eb b o hb e) f0 f1 f3 f4 f5⟩
  self := fun _ _ _ _ _ st h => wpAny_pyIter_rangeiter st h
end L2
namespace L2
open PySem PySem.Spec PyProof.Rows
section
variable {X : Cx} {tg : Expr}
def iList (K : PySem.W.Frag) (tl : TE) : TI := fun σ H R => tl σ H fun x H1 => ∃ a, x = .ref a ∧ (∃ xs, SqL K H1 a xs) ∧ R (Itl K a) H1
theorem pi_list {l : Expr} {tl : TE} (hl : PE X l tl) : PI X tg l (iList X.K tl) := by
  intro pins s σ H R I h
  refine thn (hl pins s σ H _ I h) fun v s1 ⟨x, H1, I1, r1, q1⟩ => ?_
  obtain ⟨a, e, ⟨xs, hq⟩, q⟩ := q1
  subst e
  cases r1
  obtain ⟨its, rv, p, hz⟩ := I1.list hq
  refine wpAny_pyIter_list p.isList ?_
  refine ⟨s1.heap.objs.size, [s1.heap.objs.size], _, _, H1, rfl, I1.kept (t' := s1.toks) fun b o e => Heap.get?_push_of_some _ e, turn_list a _, ⟨_, Heap.get?_push_size _ rfl, rfl, rfl⟩, fun b hb => ?_, q⟩
  have e : b = s1.heap.objs.size := by simpa using hb
  subst e
  exact I1.fpOk (Nat.le_refl _) (I1.hok.fresh (Nat.le_refl _))
theorem range_it {pins : List (Addr × Obj)} {σ : St} {H : Hp} {s : Shared} {R : It → Hp → Prop} {E : Value → Shared → Prop} {lo hi : Int} {t u v : Tok} {tk : Nat} (I : Inv X pins σ H s) (h1 : -(2 ^ 62) ≤ lo) (h2 : lo < 2 ^ 62) (h3 : -(2 ^ 62) ≤ hi) (h4 : hi < 2 ^ 62)
    (q : R (Itr lo (hi - lo).toNat) H) : wpAny (model X.prog X.w) X.A (pyIter (.ref s.heap.objs.size)) (PIE X pins σ tg R) E { s with heap := s.heap.push { cls := .type "range", data := .fields #[.int lo t, .int hi u, .int 1 v] }, toks := tk } := by
  refine wpAny_pyIter_range (IsRange.new ..) (small_one h1 h2 h3 h4) ?_
  have I1 : Inv X pins σ H { s with heap := s.heap.push { cls := .type "range", data := .fields #[.int lo t, .int hi u, .int 1 v] }, toks := tk } := I.kept fun b o e => Heap.get?_push_of_some _ e
  refine ⟨(s.heap.push { cls := .type "range", data := .fields #[.int lo t, .int hi u, .int 1 v] }).objs.size, [(s.heap.push { cls := .type "range", data := .fields #[.int lo t, .int hi u, .int 1 v] }).objs.size], _, _, H, rfl,
    I1.kept (t' := tk) fun b o e => Heap.get?_push_of_some _ e, turn_range _ lo (hi - lo).toNat, ?_, fun b hb => ?_, q⟩
  · have e1 : lo + ((0 : Nat) : Int) * 1 = lo := by simp
    have e2 : (((hi - lo).toNat : Nat) : Int) - ((0 : Nat) : Int) = Builtin.Range.rangeSize lo hi 1 := by rw [rangeSize_one]; split <;> omega
    show IsRangeIter _ _ (lo + ((0 : Nat) : Int) * 1) ((((hi - lo).toNat : Nat) : Int) - ((0 : Nat) : Int)) 1
    rw [e1, e2]
    exact Heap.get?_push_size _ rfl
  · have e : b = (s.heap.push { cls := .type "range", data := .fields #[.int lo t, .int hi u, .int 1 v] }).objs.size := by simpa using hb
    subst e
    exact I1.fpOk (Nat.le_refl _) (I1.hok.fresh (Nat.le_refl _))
def iRng1 (ta : TA) : TI := fun σ H R => ta σ H fun vs H1 => ∃ j : Int, vs = [.int j] ∧ -(2 ^ 62) ≤ j ∧ j < 2 ^ 62 ∧ R (Itr 0 j.toNat) H1
theorem pi_range1 {a : Expr} {ta : TA} {p pos : Pos} (hg : Gl X "range") (hm : X.mg "range" = none) (ha : PA X [a] ta) (hs : starEach [a] X.env = [(false, eval a X.env)] := by rfl) : PI X tg (.Call (.Name "range" p) [a] [] pos) (iRng1 ta) := by
  intro pins s σ H R I h
  refine Call_ (ld_blt I hg hm boot_range (PyProof.Rows.callWith_type1 (thn (ha pos pins s σ H _ I h) fun us s1 ⟨vs, H1, I1, r1, q1⟩ => ?_) hs rfl))
  obtain ⟨j, e, q1, q2, q⟩ := q1
  subst e
  cases r1 with
  | cons r rr =>
    cases rr
    obtain ⟨t, rfl⟩ := r
    exact call_range_1 (range_it I1 (by omega) (by omega) q1 q2 (by simpa using q))
def tFor (wi : TI) (g : TG) (tb : TS) : TS := fun D σ H => wi σ H fun J H1 => ∃ W : Nat → Nat → St → Hp → Prop, (∃ m, W 0 m σ H1) ∧ ∀ i m σ H, W i m σ H →
  (J.stop i H ∧ D.nx σ H) ∨ (J.go i H ∧ ∃ N : St → Hp → Prop, (∀ σ' H', N σ' H' → ∃ m', m' < m ∧ W (i + 1) m' σ' H') ∧ ∀ x H', J.yld i H x H' → g x σ H' fun σ2 H2 => tb { D with nx := N, ct := N, bk := D.nx } σ2 H2)
def pinsAt (fp : List Addr) (h : Heap) : List (Addr × Obj) := fp.filterMap fun b => (h.get? b).map fun o => (b, o)
theorem mem_pinsAt {fp : List Addr} {h : Heap} {b : Addr} {o : Obj} (hb : b ∈ fp) (e : h.get? b = some o) : (b, o) ∈ pinsAt fp h := List.mem_filterMap.mpr ⟨b, hb, by rw [e]; rfl⟩
theorem of_pinsAt {fp : List Addr} {h : Heap} {p : Addr × Obj} (hp : p ∈ pinsAt fp h) : p.1 ∈ fp ∧ h.get? p.1 = some p.2 := by
  obtain ⟨b, hb, e⟩ := List.mem_filterMap.mp hp
  cases q : h.get? b with
  | none => rw [q] at e; cases e
  | some o =>
    rw [q] at e
    have e' : (b, o) = p := Option.some.inj e
    subst e'
    exact ⟨hb, q⟩
theorem Inv.pinned {pins : List (Addr × Obj)} {σ : St} {H : Hp} {s : Shared} {fp : List Addr} (I : Inv X pins σ H s) (hf : ∀ b ∈ fp, FpOk X pins H b) (ho : ∀ b ∈ fp, ∃ o, s.heap.get? b = some o ∧ ∀ v, o.data ≠ .cell v) : Inv X (pins ++ pinsAt fp s.heap) σ H s :=
  I.pins_of fun p hp => (List.mem_append.mp hp).elim (fun z => I.pin p (List.mem_append_right _ z)) fun z => by
    obtain ⟨hb, e⟩ := of_pinsAt z
    obtain ⟨f0, f1, f2, _⟩ := hf p.1 hb
    obtain ⟨o, e', d⟩ := ho p.1 hb
    rw [e] at e'; cases e'
    exact ⟨e, f0, f1, f2, d⟩
theorem Inv.unpinned {pins pl : List (Addr × Obj)} {σ : St} {H : Hp} {s : Shared} (I : Inv X (pins ++ pl) σ H s) : Inv X pins σ H s := I.pins_of fun p hp => I.pin p (List.mem_append_right _ (List.mem_append_left _ hp))
theorem ps_for {iter : Expr} {body : List Stmt} {wi : TI} {g : TG} {tb : TS} {pos : Pos} (hp : PassesOwn (model X.prog X.w) X.A X.env X.xe) (hc : X.calm = true) (hi : PI X tg iter wi) (hg : PG X tg g) (hb : PSs X body tb)
    (hs : ∀ x, foldedSetIterable iter X.env x = pure x := by intro _; rfl) : PS X (.For tg iter body [] pos) (tFor wi g tb) := by
  intro pins s σ H D I h
  refine wpAny_For (thn (hi pins s σ H _ I h) fun v s1 h1 => thn h1 fun itv s2 h2 => ?_) hs
  obtain ⟨it, fp, tn, J, H2, e, I2, T, st2, f2, W, ⟨m0, w0⟩, turn⟩ := h2
  subst e
  have stat : ∀ {H' : Hp}, (∀ b ∈ fp, H' b = none) → ∀ b ∈ fp, FpOk X pins H' b := fun hn b hb => ⟨hn b hb, (f2 b hb).2⟩
  refine codeAny_forLoop_any (fun n s' => ∃ i σ' H', Inv X pins σ' H' s' ∧ tn i s'.heap ∧ (∀ b ∈ fp, H' b = none) ∧ W i n σ' H') ?_ m0 ⟨0, σ, H2, I2, st2, fun b hb => (f2 b hb).1, w0⟩
  rintro n s3 ⟨i, σ3, H3, I3, st3, fr3, w3⟩
  rcases turn i n σ3 H3 w3 with ⟨stop, qn⟩ | ⟨go, N, hN, step⟩
  · refine wpAny_passesOwn hp (thn (T.done X rfl rfl rfl hc i pins s3 σ3 H3 X.xe I3 (stat fr3) st3 stop) fun r s4 ⟨hr, I4⟩ => ?_)
    subst hr
    exact wpAny_execs_nil ⟨σ3, H3, I4, qn⟩
  · refine wpAny_passesOwn hp (thn (T.item X rfl rfl rfl hc i pins s3 σ3 H3 X.xe I3 (stat fr3) st3 go) fun r s4 ⟨u, hr, h4⟩ => ?_)
    subst hr
    refine wpAny_passesOwn hp (thn h4 fun _ s5 ⟨x, H5, I5, r5, y5, st5, fr5⟩ => ?_)
    have I5' := I5.pinned (stat fr5) (T.obj _ _ st5)
    refine wpAny_passesOwn hp (thn (hg _ s5 σ3 H5 x u _ I5' r5 (step x H5 y5)) fun _ s6 ⟨σ6, H6, I6, q6⟩ => ?_)
    refine wpAny_passesOwn hp (thn (hb _ s6 σ6 H6 _ I6 q6) fun f s7 q7 => ?_)
    have again : ∀ {σ7 : St} {H7 : Hp}, Inv X (pins ++ pinsAt fp s5.heap) σ7 H7 s7 → N σ7 H7 → ∃ m, m < n ∧ ∃ i σ' H', Inv X pins σ' H' s7 ∧ tn i s7.heap ∧ (∀ b ∈ fp, H' b = none) ∧ W i m σ' H' := fun {σ7 H7} I7 n7 => by
      obtain ⟨m', hm, w7⟩ := hN σ7 H7 n7
      refine ⟨m', hm, i + 1, σ7, H7, I7.unpinned, T.keep _ _ _ st5 fun b hb o e => (I7.pin (b, o) (List.mem_append_right _ (List.mem_append_right _ (mem_pinsAt hb e)))).1, fun b hb => ?_, w7⟩
      obtain ⟨o, e, d⟩ := T.obj _ _ st5 b hb
      exact (I7.pin (b, o) (List.mem_append_right _ (List.mem_append_right _ (mem_pinsAt hb e)))).2.1
    cases f with
    | next => obtain ⟨σ7, H7, I7, n7⟩ := q7; exact again I7 n7
    | cont => obtain ⟨σ7, H7, I7, n7⟩ := q7; exact again I7 n7
    | brk => obtain ⟨σ7, H7, I7, q7⟩ := q7; exact ⟨σ7, H7, I7.unpinned, q7⟩
    | ret v => obtain ⟨x7, σ7, H7, I7, r7, q7⟩ := q7; exact ⟨x7, σ7, H7, I7.unpinned, r7, q7⟩
end
end L2
namespace L2
open PySem PySem.Spec PyProof.Rows
abbrev R2 := V → V → Hp → VK → Prop
def OpR (X : Cx) (f : Value → Value → Sem Value) (r : R2) : Prop :=
  ∀ (pins : List (Addr × Obj)) (s : Shared) (σ : St) (H : Hp) (x y : V) (v u : Value) (Q : VK), Inv X pins σ H s → RelV x v → RelV y u → r x y H Q →
    wpAny (model X.prog X.w) X.A (f v u) (EP X pins σ Q) X.xe s
def UnR (X : Cx) (f : Value → Sem Value) (r : V → Hp → VK → Prop) : Prop :=
  ∀ (pins : List (Addr × Obj)) (s : Shared) (σ : St) (H : Hp) (x : V) (v : Value) (Q : VK), Inv X pins σ H s → RelV x v → r x H Q →
    wpAny (model X.prog X.w) X.A (f v) (EP X pins σ Q) X.xe s
def CallR (X : Cx) (f : Value) (r : List V → Hp → VK → Prop) : Prop :=
  ∀ (pins : List (Addr × Obj)) (s : Shared) (σ : St) (H : Hp) (xs : List V) (us : List Value) (Q : VK), Inv X pins σ H s → Vals xs us → r xs H Q →
    wpAny (model X.prog X.w) X.A (call f us) (EP X pins σ Q) X.xe s
def tOp (r : R2) (ta tb : TE) : TE := fun σ H Q => ta σ H fun x H1 => tb σ H1 fun y H2 => r x y H2 Q
def tUn (r : V → Hp → VK → Prop) (ta : TE) : TE := fun σ H Q => ta σ H fun x H1 => r x H1 Q
def rI (C : Int → Int → Prop) (g : Int → Int → V) : R2 := fun x y H Q => ∃ i j, x = .int i ∧ y = .int j ∧ C i j ∧ Q (g i j) H
def rI0 (g : Int → Int → V) : R2 := fun x y H Q => ∃ i j, x = .int i ∧ y = .int j ∧ Q (g i j) H
def rU (g : Int → V) : V → Hp → VK → Prop := fun x H Q => ∃ i, x = .int i ∧ Q (g i) H
section
variable {X : Cx} {a b c : Expr} {ta tb tc : TE} {pos : Pos}
theorem binT (ha : PE X a ta) (hb : PE X b tb) {pins : List (Addr × Obj)} {s : Shared} {σ : St} {H : Hp} {R : V → V → Hp → Prop} (I : Inv X pins σ H s)
    (h : ta σ H fun x H1 => tb σ H1 fun y H2 => R x y H2) {Q : Value → Shared → Prop} {f : Value → Value → Sem Value}
    (hf : ∀ v u s2 x y H2, Inv X pins σ H2 s2 → RelV x v → RelV y u → R x y H2 → wpAny (model X.prog X.w) X.A (f v u) Q X.xe s2) :
    wpAny (model X.prog X.w) X.A (eval a X.env) (fun v s₁ => wpAny (model X.prog X.w) X.A (eval b X.env) (fun u s₂ => wpAny (model X.prog X.w) X.A (f v u) Q X.xe s₂) X.xe s₁) X.xe s := by
  refine thn (ha pins s σ H _ I h) fun v s1 ⟨x, H1, I1, r1, q1⟩ => ?_
  refine thn (hb pins s1 σ H1 _ I1 q1) fun u s2 ⟨y, H2, I2, r2, q2⟩ => ?_
  exact hf v u s2 x y H2 I2 r1 r2 q2
theorem pe_op {op : Operator} {r : R2} (ho : OpR X (binaryOp op) r) (ha : PE X a ta) (hb : PE X b tb) : PE X (.BinOp a op b pos) (tOp r ta tb) := by
  intro pins s σ H Q I h
  exact wpAny_BinOp (binT ha hb I h fun v u s2 x y H2 I2 rx ry q => ho pins s2 σ H2 x y v u Q I2 rx ry q)
theorem pe_un {op : UnaryOp} {r : V → Hp → VK → Prop} (ho : UnR X (unaryOp op) r) (ha : PE X a ta) : PE X (.UnaryOp op a pos) (tUn r ta) := by
  intro pins s σ H Q I h
  exact UnaryOp_ (thn (ha pins s σ H _ I h) fun v s1 ⟨x, H1, I1, r1, q1⟩ => ho pins s1 σ H1 x v Q I1 r1 q1)
theorem opI {f : Value → Value → Sem Value} {C : Int → Int → Prop} {g : Int → Int → Int}
    (rule : ∀ (i j : Int) (t u : Tok) (s : Shared) (Q : Value → Shared → Prop) (E : Value → Shared → Prop), C i j → Q (.int (g i j) s.toks) { s with toks := s.toks + 1 } → wpAny (model X.prog X.w) X.A (f (.int i t) (.int j u)) Q E s) :
    OpR X f (rI C fun i j => .int (g i j)) := by
  intro pins s σ H x y v u Q I rx ry h
  obtain ⟨i, j, rfl, rfl, hc, q⟩ := h
  obtain ⟨t, rfl⟩ := rx
  obtain ⟨t', rfl⟩ := ry
  exact rule i j t t' s _ _ hc ⟨.int (g i j), H, I.tok _, ⟨_, rfl⟩, q⟩
theorem opI0 {f : Value → Value → Sem Value} {g : Int → Int → Int}
    (rule : ∀ (i j : Int) (t u : Tok) (s : Shared) (Q : Value → Shared → Prop) (E : Value → Shared → Prop), Q (.int (g i j) s.toks) { s with toks := s.toks + 1 } → wpAny (model X.prog X.w) X.A (f (.int i t) (.int j u)) Q E s) :
    OpR X f (rI0 fun i j => .int (g i j)) := by
  intro pins s σ H x y v u Q I rx ry h
  obtain ⟨i, j, rfl, rfl, q⟩ := h
  obtain ⟨t, rfl⟩ := rx
  obtain ⟨t', rfl⟩ := ry
  exact rule i j t t' s _ _ ⟨.int (g i j), H, I.tok _, ⟨_, rfl⟩, q⟩
theorem opB0 {f : Value → Value → Sem Value} {g : Int → Int → Bool}
    (rule : ∀ (i j : Int) (t u : Tok) (s : Shared) (Q : Value → Shared → Prop) (E : Value → Shared → Prop), Q (.bool (g i j)) s → wpAny (model X.prog X.w) X.A (f (.int i t) (.int j u)) Q E s) :
    OpR X f (rI0 fun i j => .bl (g i j)) := by
  intro pins s σ H x y v u Q I rx ry h
  obtain ⟨i, j, rfl, rfl, q⟩ := h
  obtain ⟨t, rfl⟩ := rx
  obtain ⟨t', rfl⟩ := ry
  exact rule i j t t' s _ _ ⟨.bl (g i j), H, I, rfl, q⟩
def CPow (i j : Int) : Prop := 0 ≤ j ∧ j ≤ 1000000 ∧ i.natAbs < 2 ^ 64
def CMul (i j : Int) : Prop := (-(2 ^ 64) < i ∧ i < 2 ^ 64) ∨ (-(2 ^ 64) < j ∧ j < 2 ^ 64)
theorem CMul.ok {i j : Int} (h : CMul i j) : IntMulOk i j := by
  rcases h with ⟨h1, h2⟩ | ⟨h1, h2⟩
  · exact .of_left (intBits_le_64 h1 h2)
  · exact .of_right (intBits_le_64 h1 h2)
theorem two_pow_nn (k : Nat) : (0 : Int) ≤ 2 ^ k := by
  rw [two_pow_cast]
  exact Int.natCast_nonneg _
theorem op_add : OpR X (binaryOp .Add) (rI0 fun i j => .int (i + j)) := opI0 fun _ _ _ _ _ _ _ q => add_int q
theorem op_sub : OpR X (binaryOp .Sub) (rI0 fun i j => .int (i - j)) := opI0 fun _ _ _ _ _ _ _ q => sub_int q
theorem op_mul : OpR X (binaryOp .Mult) (rI CMul fun i j => .int (i * j)) := opI fun _ _ _ _ _ _ _ hc q => mul_int q hc.ok
theorem op_mod : OpR X (binaryOp .Mod) (rI (fun _ j => 0 < j) fun i j => .int (i % j)) := opI fun i j _ _ _ _ _ hc q => by
  have h1 : (0 : Int) < j := hc
  exact mod_int' (by omega) (by rw [Int.fmod_eq_emod_of_nonneg i (by omega)]; exact q)
theorem op_pow : OpR X (binaryOp .Pow) (rI CPow fun i j => .int (i ^ j.toNat)) := opI fun _ _ _ _ _ _ _ hc q => pow_int_small hc.1 hc.2.1 hc.2.2 q
theorem op_shr : OpR X (binaryOp .RShift) (rI (fun _ j => 0 ≤ j) fun i j => .int (i / 2 ^ j.toNat)) := opI fun i j _ _ _ _ _ hc q =>
  rshift_int hc (by rw [Int.fdiv_eq_ediv_of_nonneg i (two_pow_nn _)]; exact q)
theorem op_and : OpR X (binaryOp .BitAnd) (rI0 fun i j => .int (Builtin.bitAnd i j)) := opI0 fun _ _ _ _ _ _ _ q => and_int q
theorem op_xor : OpR X (binaryOp .BitXor) (rI0 fun i j => .int (Builtin.bitXor i j)) := opI0 fun _ _ _ _ _ _ _ q => xor_int q
theorem unI {f : Value → Sem Value} {g : Int → Int}
    (rule : ∀ (i : Int) (t : Tok) (s : Shared) (Q : Value → Shared → Prop) (E : Value → Shared → Prop), Q (.int (g i) s.toks) { s with toks := s.toks + 1 } → wpAny (model X.prog X.w) X.A (f (.int i t)) Q E s) :
    UnR X f (rU fun i => .int (g i)) := by
  intro pins s σ H x v Q I rx h
  obtain ⟨i, rfl, q⟩ := h
  obtain ⟨t, rfl⟩ := rx
  exact rule i t s _ _ ⟨.int (g i), H, I.tok _, ⟨_, rfl⟩, q⟩
theorem un_neg : UnR X (unaryOp .USub) (rU fun i => .int (-i)) := unI fun _ _ _ _ _ q => neg_int q
end
def scal : V → V → Bool
  | .non, .non => true | .non, .int _ => true | .int _, .non => true | .non, .bl _ => true | .bl _, .non => true | .non, .str _ => true | .str _, .non => true
  | .int _, .int _ => true | .bl _, .bl _ => true | .str _, .str _ => true | .byt _, .byt _ => true
  | .int _, .str _ => true | .str _, .int _ => true | .bl _, .str _ => true | .str _, .bl _ => true
  | _, _ => false
def rEq : R2 := fun x y H Q => scal x y = true ∧ Q (.bl (decide (x = y))) H
def rNe : R2 := fun x y H Q => scal x y = true ∧ Q (.bl (!decide (x = y))) H
theorem dec_int {i j : Int} : decide (V.int i = V.int j) = (i == j) := by
  rw [Bool.eq_iff_iff]
  simp
theorem dec_bl {i j : Bool} : decide (V.bl i = V.bl j) = (i == j) := by
  rw [Bool.eq_iff_iff]
  simp
theorem dec_str {i j : Str} : decide (V.str i = V.str j) = (i == j) := by
  rw [Bool.eq_iff_iff]
  simp
theorem dec_byt {i j : Array UInt8} : decide (V.byt i = V.byt j) = (i.toList == j.toList) := by
  rw [Bool.eq_iff_iff]
  cases i
  cases j
  simp
section
variable {X : Cx} {a b c : Expr} {ta tb tc : TE} {pos : Pos}
theorem fin_bl {pins : List (Addr × Obj)} {σ : St} {H : Hp} {s : Shared} {Q : VK} {k k' : Bool} (I : Inv X pins σ H s) (q : Q (.bl k) H) (e : k = k') : EP X pins σ Q (.bool k') s := by
  subst e
  exact ⟨.bl k, H, I, rfl, q⟩
theorem op_eq : OpR X (compareOp .Eq) rEq := by
  intro pins s σ H x y v u Q I rx ry h
  obtain ⟨hs, q⟩ := h
  cases x with
  | non =>
    cases rx
    cases y with
    | non => cases ry; exact PySem.EqNone.eq_none_none (fin_bl I q (by simp))
    | bl j => cases ry; exact PySem.EqNone.eq_none_bool (fin_bl I q (by simp))
    | int j => obtain ⟨t', rfl⟩ := ry; exact PySem.EqNone.eq_none_int (fin_bl I q (by simp))
    | str j => obtain ⟨t', rfl⟩ := ry; exact PySem.EqNone.eq_none_str (fin_bl I q (by simp))
    | _ => exact absurd (show false = true from hs) Bool.false_ne_true
  | bl i =>
    cases rx
    cases y with
    | non => cases ry; exact PySem.EqNone.eq_bool_none (fin_bl I q (by simp))
    | bl j => cases ry; exact eq_bool (fin_bl I q dec_bl)
    | str j => obtain ⟨t', rfl⟩ := ry; exact PySem.EqMixed.eq_bool_str (fin_bl I q (by simp))
    | _ => exact absurd (show false = true from hs) Bool.false_ne_true
  | int i =>
    obtain ⟨t, rfl⟩ := rx
    cases y with
    | non => cases ry; exact PySem.EqNone.eq_int_none (fin_bl I q (by simp))
    | int j => obtain ⟨t', rfl⟩ := ry; exact eq_int (fin_bl I q dec_int)
    | str j => obtain ⟨t', rfl⟩ := ry; exact PySem.EqMixed.eq_int_str (fin_bl I q (by simp))
    | _ => exact absurd (show false = true from hs) Bool.false_ne_true
  | str i =>
    obtain ⟨t, rfl⟩ := rx
    cases y with
    | non => cases ry; exact PySem.EqNone.eq_str_none (fin_bl I q (by simp))
    | bl j => cases ry; exact PySem.EqMixed.eq_str_bool (fin_bl I q (by simp))
    | int j => obtain ⟨t', rfl⟩ := ry; exact PySem.EqMixed.eq_str_int (fin_bl I q (by simp))
    | str j => obtain ⟨t', rfl⟩ := ry; exact eq_str (fin_bl I q dec_str)
    | _ => exact absurd (show false = true from hs) Bool.false_ne_true
  | byt i =>
    obtain ⟨t, rfl⟩ := rx
    cases y with
    | byt j => obtain ⟨t', rfl⟩ := ry; exact PySem.W.eq_bytes (fin_bl I q dec_byt)
    | _ => exact absurd (show false = true from hs) Bool.false_ne_true
  | _ => cases y <;> exact absurd (show false = true from hs) Bool.false_ne_true
theorem op_ne : OpR X (compareOp .NotEq) rNe := by
  intro pins s σ H x y v u Q I rx ry h
  obtain ⟨hs, q⟩ := h
  cases x with
  | non =>
    cases rx
    cases y with
    | non => cases ry; exact PySem.EqNone.ne_none_none (fin_bl I q (by simp))
    | bl j => cases ry; exact PySem.EqNone.ne_none_bool (fin_bl I q (by simp))
    | int j => obtain ⟨t', rfl⟩ := ry; exact PySem.EqNone.ne_none_int (fin_bl I q (by simp))
    | str j => obtain ⟨t', rfl⟩ := ry; exact PySem.EqNone.ne_none_str (fin_bl I q (by simp))
    | _ => exact absurd (show false = true from hs) Bool.false_ne_true
  | bl i =>
    cases rx
    cases y with
    | non => cases ry; exact PySem.EqNone.ne_bool_none (fin_bl I q (by simp))
    | bl j => cases ry; exact ne_bool (fin_bl I q (congrArg not dec_bl))
    | str j => obtain ⟨t', rfl⟩ := ry; exact PySem.EqMixed.ne_bool_str (fin_bl I q (by simp))
    | _ => exact absurd (show false = true from hs) Bool.false_ne_true
  | int i =>
    obtain ⟨t, rfl⟩ := rx
    cases y with
    | non => cases ry; exact PySem.EqNone.ne_int_none (fin_bl I q (by simp))
    | int j => obtain ⟨t', rfl⟩ := ry; exact ne_int (fin_bl I q (congrArg not dec_int))
    | str j => obtain ⟨t', rfl⟩ := ry; exact PySem.EqMixed.ne_int_str (fin_bl I q (by simp))
    | _ => exact absurd (show false = true from hs) Bool.false_ne_true
  | str i =>
    obtain ⟨t, rfl⟩ := rx
    cases y with
    | non => cases ry; exact PySem.EqNone.ne_str_none (fin_bl I q (by simp))
    | bl j => cases ry; exact PySem.EqMixed.ne_str_bool (fin_bl I q (by simp))
    | int j => obtain ⟨t', rfl⟩ := ry; exact PySem.EqMixed.ne_str_int (fin_bl I q (by simp))
    | str j => obtain ⟨t', rfl⟩ := ry; exact ne_str (fin_bl I q (congrArg not dec_str))
    | _ => exact absurd (show false = true from hs) Bool.false_ne_true
  | byt i =>
    obtain ⟨t, rfl⟩ := rx
    cases y with
    | byt j => obtain ⟨t', rfl⟩ := ry; exact PySem.W.ne_bytes (fin_bl I q (congrArg not dec_byt))
    | _ => exact absurd (show false = true from hs) Bool.false_ne_true
  | _ => cases y <;> exact absurd (show false = true from hs) Bool.false_ne_true
theorem op_lt : OpR X (compareOp .Lt) (rI0 fun i j => .bl (decide (i < j))) := opB0 fun _ _ _ _ _ _ _ q => lt_int q
theorem op_le : OpR X (compareOp .LtE) (rI0 fun i j => .bl (decide (i ≤ j))) := opB0 fun _ _ _ _ _ _ _ q => le_int q
theorem op_gt : OpR X (compareOp .Gt) (rI0 fun i j => .bl (decide (j < i))) := opB0 fun _ _ _ _ _ _ _ q => gt_int q
theorem op_ge : OpR X (compareOp .GtE) (rI0 fun i j => .bl (decide (j ≤ i))) := opB0 fun _ _ _ _ _ _ _ q => ge_int q
theorem nomark (b : Expr) {op : CmpOp} (h : op ≠ .In := by decide) (h2 : op ≠ .NotIn := by decide) : behindInMarks op b = false := by
  have e1 : (op == CmpOp.In) = false := by cases op <;> first | rfl | exact absurd rfl h
  have e2 : (op == CmpOp.NotIn) = false := by cases op <;> first | rfl | exact absurd rfl h2
  cases b <;> simp [behindInMarks, e1, e2]
theorem pe_cmpR {op : CmpOp} {r : R2} (ho : OpR X (compareOp op) r) (ha : PE X a ta) (hb : PE X b tb) (hm : behindInMarks op b = false) : PE X (.Compare a [op] [b] pos) (tOp r ta tb) := by
  intro pins s σ H Q I h
  exact wpAny_Compare1 (binT ha hb I h fun v u s2 x y H2 I2 rx ry q => ho pins s2 σ H2 x y v u Q I2 rx ry q) hm
def tTest (t : TE) : TT := fun σ H Q => t σ H fun x H' => ∃ k, x = .bl k ∧ Q k H'
theorem pt_cmpR {op : CmpOp} {r : R2} (ho : OpR X (compareOp op) r) (ha : PE X a ta) (hb : PE X b tb) (hm : behindInMarks op b = false) : PT X (.Compare a [op] [b] pos) (tTest (tOp r ta tb)) := by
  intro pins s σ H Q I h
  refine wpAny_isTrue_Compare1 (thn (ha pins s σ H _ I h) fun v s1 ⟨x, H1, I1, r1, q1⟩ => thn (hb pins s1 σ H1 _ I1 q1) fun u s2 ⟨y, H2, I2, r2, q2⟩ =>
    thn (ho pins s2 σ H2 x y v u _ I2 r1 r2 q2) fun c s3 ⟨z, H3, I3, r3, k, e, q3⟩ => ?_) hm
  subst e
  cases r3
  exact wpAny_truthy_bool ⟨H3, I3, q3⟩
def tChain (r r' : R2) (ta tb tc : TE) : TE := fun σ H Q => ta σ H fun x H1 => tb σ H1 fun y H2 => r x y H2 fun z H3 => ∃ k, z = .bl k ∧
  (if k = true then tc σ H3 fun w' H4 => r' y w' H4 Q else Q (.bl false) H3)
theorem pe_chain {op op' : CmpOp} {r r' : R2} (ho : OpR X (compareOp op) r) (ho' : OpR X (compareOp op') r') (ha : PE X a ta) (hb : PE X b tb) (hc : PE X c tc)
    (hm : lastMarks [op, op'] [b, c] = false := by with_unfolding_all rfl) : PE X (.Compare a [op, op'] [b, c] pos) (tChain r r' ta tb tc) := by
  intro pins s σ H Q I h
  refine Compare_chain (thn (ha pins s σ H _ I h) fun v s1 ⟨x, H1, I1, r1, q1⟩ => chain_link (thn (hb pins s1 σ H1 _ I1 q1) fun u s2 ⟨y, H2, I2, r2, q2⟩ =>
    thn (ho pins s2 σ H2 x y v u _ I2 r1 r2 q2) fun d s3 ⟨z, H3, I3, r3, k, e, q3⟩ => ?_)) hm
  subst e
  cases r3
  refine wpAny_truthy_bool ?_
  cases k with
  | false => exact ite_ff ⟨.bl false, H3, I3, rfl, q3⟩
  | true => exact ite_tt (chain_last (thn (hc pins s3 σ H3 _ I3 q3) fun w' s4 ⟨z', H4, I4, r4, q4⟩ => ho' pins s4 σ H4 y z' u w' Q I4 r2 r4 q4))
theorem pt_chain {op op' : CmpOp} {r r' : R2} (ho : OpR X (compareOp op) r) (ho' : OpR X (compareOp op') r') (ha : PE X a ta) (hb : PE X b tb) (hc : PE X c tc)
    (hm : lastMarks [op, op'] [b, c] = false := by with_unfolding_all rfl) : PT X (.Compare a [op, op'] [b, c] pos) (tTest (tChain r r' ta tb tc)) := by
  intro pins s σ H Q I h
  refine isTrue_chain (thn (ha pins s σ H _ I h) fun v s1 ⟨x, H1, I1, r1, q1⟩ => test_link (thn (hb pins s1 σ H1 _ I1 q1) fun u s2 ⟨y, H2, I2, r2, q2⟩ =>
    thn (ho pins s2 σ H2 x y v u _ I2 r1 r2 q2) fun d s3 ⟨z, H3, I3, r3, k, e, q3⟩ => ?_)) hm
  subst e
  cases r3
  refine wpAny_truthy_bool ?_
  cases k with
  | false =>
    obtain ⟨k', e', q'⟩ := q3
    cases e'
    exact ite_ff ⟨H3, I3, q'⟩
  | true =>
    refine ite_tt (test_last (thn (hc pins s3 σ H3 _ I3 q3) fun w' s4 ⟨z', H4, I4, r4, q4⟩ => thn (ho' pins s4 σ H4 y z' u w' _ I4 r2 r4 q4) fun d' s5 ⟨z2, H5, I5, r5, k2, e2, q5⟩ => ?_))
    subst e2
    cases r5
    exact wpAny_truthy_bool ⟨H5, I5, q5⟩
theorem line63 : (sizeLine : Nat) < 2 ^ 63 := by rw [sizeLine_eq]; decide
theorem vals1 {x : V} {us : List Value} (r : Vals [x] us) : ∃ u, us = [u] ∧ RelV x u := by
  cases r with
  | cons r1 r2 => cases r2; exact ⟨_, rfl, r1⟩
theorem vals2 {x y : V} {us : List Value} (r : Vals [x, y] us) : ∃ u w', us = [u, w'] ∧ RelV x u ∧ RelV y w' := by
  cases r with
  | cons r1 r2 =>
    cases r2 with
    | cons r3 r4 => cases r4; exact ⟨_, _, rfl, r1, r3⟩
theorem call_max2 (hc : X.calm = true) : CallR X (.builtin "max") (fun xs H Q => ∃ i j, xs = [.int i, .int j] ∧ Q (.int (if j > i then j else i)) H) := by
  intro pins s σ H xs us Q I r h
  obtain ⟨i, j, rfl, q⟩ := h
  obtain ⟨u, w', rfl, ⟨t, rfl⟩, ⟨t', rfl⟩⟩ := vals2 r
  refine max_two_ints (I.ok.hd hc) fun h' tk k => ⟨_, H, I.kept k, ?_, q⟩
  by_cases hj : j > i
  · rw [if_pos hj, if_pos hj]; exact ⟨_, rfl⟩
  · rw [if_neg hj, if_neg hj]; exact ⟨_, rfl⟩
theorem call_min2 (hc : X.calm = true) : CallR X (.builtin "min") (fun xs H Q => ∃ i j, xs = [.int i, .int j] ∧ Q (.int (if j < i then j else i)) H) := by
  intro pins s σ H xs us Q I r h
  obtain ⟨i, j, rfl, q⟩ := h
  obtain ⟨u, w', rfl, ⟨t, rfl⟩, ⟨t', rfl⟩⟩ := vals2 r
  refine min_two_ints (I.ok.hd hc) fun h' tk k => ⟨_, H, I.kept k, ?_, q⟩
  by_cases hj : j < i
  · rw [if_pos hj, if_pos hj]; exact ⟨_, rfl⟩
  · rw [if_neg hj, if_neg hj]; exact ⟨_, rfl⟩
end
end L2
namespace L2
open PySem PySem.Spec PyProof.Rows
structure ObjM (h : Heap) (x dx C : Addr) (mA : Str → Option Value) : Prop where
  obj : h.get? x = some (PySem.W.instObj C dx)
  ns : h.Ns1 dx mA
  ne : dx ≠ x
theorem lookIn_ns {h : Heap} {dx : Addr} {mA : Str → Option Value} (n : h.Ns1 dx mA) : ∃ od, h.get? dx = some od ∧ ∀ name, PySem.W.lookIn name od = some (mA name) := by
  obtain ⟨o, es, ep, ho, hd, hk, _, hm⟩ := n
  refine ⟨o, ho, fun name => ?_⟩
  have e := hm name
  unfold nsFind findBy at e
  rw [← Array.find?_toList] at e
  unfold PySem.W.lookIn
  rw [hd]
  dsimp only
  split
  · rename_i y q
    rw [q] at e
    exact congrArg some e
  · rename_i q
    rw [q] at e
    have a : es.toList.any (·.refKey) = false := by
      rw [List.any_eq_false]
      intro y hy
      obtain ⟨z, t, hkey⟩ := hk y (Array.mem_toList_iff.mp hy)
      simp [DictEntry.refKey, hkey]
    have a' : ¬ es.toList.any (·.refKey) = true := by rw [a]; exact Bool.false_ne_true
    rw [if_neg a']
    exact congrArg some e
theorem ObjM.look {h : Heap} {x dx C : Addr} {mA : Str → Option Value} (I : ObjM h x dx C mA) : ∃ od, PySem.W.InstAt h x (PySem.W.instObj C dx) C (some od) ∧ ∀ name, PySem.W.lookIn name od = some (mA name) :=
  let ⟨od, ho, hl⟩ := lookIn_ns I.ns
  ⟨od, ⟨I.obj, rfl, rfl, ho⟩, hl⟩
section
variable {prog : Program} {w : World} {A : Around} {E : Value → Shared → Prop} {s : Shared} {K : PySem.W.Frag} {x dx C f : Addr} {mA : Str → Option Value} {name : Str} {v : Value}
theorem get_map {expr : Bool} {Q : Value → Shared → Prop} (X : K.In s.heap) (I : ObjM s.heap x dx C mA) (hg : PySem.W.plainGet K C name = true) (hh : PySem.W.hasDictIn K C = true)
    (ha : PySem.W.findIn K (.ref C) name = some none) (hv : mA name = some v) (hv' : PySem.W.handedIn v = true) (h : Q v { s with toks := s.toks + 1 }) :
    wpAny (model prog w) A (getAttr (.ref x) name expr) Q E s := by
  obtain ⟨od, J, hl⟩ := I.look
  exact PySem.W.get_value X J (PySem.W.plainGet_of hg).1 (PySem.W.findObj_own hh ha rfl (by rw [hl, hv])) hv' h
theorem get_meth {pl : Sem Bool} {Q : Value × List Value → Shared → Prop} (X : K.In s.heap) (I : ObjM s.heap x dx C mA) (hg : PySem.W.plainGet K C name = true)
    (hf : PySem.W.findIn K (.ref C) name = some (some (.ref f))) (ht : PySem.W.isFn K (.ref f) = true) (hv : mA name = none) (h : Q (.ref f, [.ref x]) s) :
    wpAny (model prog w) A (getMethod (.ref x) name pl) Q E s := by
  obtain ⟨od, J, hl⟩ := I.look
  exact PySem.W.method_fn X J (PySem.W.plainGet_of hg).1 (PySem.W.plainGet_of hg).2 hf (beq_iff_eq.mp ht) (by show (PySem.W.lookIn name od).map (·.isSome) = some false; rw [hl, hv]; rfl) h
theorem set_map {ns : List Str} {Q : Unit → Shared → Prop} (X : K.In s.heap) (I : ObjM s.heap x dx C mA)
    (hs : PySem.W.findIn K (.ref C) "__setattr__" = some (some (.builtin "object.__setattr__"))) (hp : PySem.W.plainOver K C = true) (ht : PySem.W.takerIn K C name = some none) (hh : PySem.W.hasDictIn K C = true)
    (hw : PySem.Within mA ns) (hsz : ns.length ≤ sizeLine)
    (h : ∀ h', ObjM h' x dx C (fun y => if y = name then some v else mA y) → Heap.SameBut dx s.heap h' → Q () { s with heap := h', toks := s.toks + 2 }) :
    wpAny (model prog w) A (setAttr (.ref x) name v) Q E s := by
  obtain ⟨od, J, hl⟩ := I.look
  refine PySem.W.set_plain X J hs (PySem.W.osa_open (s := { s with toks := s.toks + 1 }) (r := none) X J hp ht fun b => ?_)
  obtain ⟨cd, hc, hd'⟩ := PySem.W.any_some hh
  have hx : s.heap.get? x = some ⟨.ref C, some dx, .plain, #[]⟩ := I.obj
  refine wpAny_bind (wpAny_pure (wpAny_bind (wpAny_bind (wpAny_loadPart hx (wpAny_bind (PySem.W.Looks.here (s := { s with toks := s.toks + 1 }) (PySem.W.looks_clsIn X hc) ?_))))))
  rw [hd']
  refine wpAny_pure (a := some dx) (wpAny_bind (wpAny_pure (wpAny_bind ?_)))
  refine wpAny_nsSet1 (s := { s with toks := s.toks + 1 }) I.ns fun h' hn2 hs2 => ?_
  obtain ⟨oD, esD, epD, hoD, hdD, hcD⟩ := hn2.count (PySem.Within.cons name v hw)
  refine wpAny_bind (wpAny_lookBehind hoD (by rw [hdD]; exact pastItsLine_dict (Nat.le_trans hcD (by rw [List.length_cons]; omega))) ?_)
  exact wpAny_pure (h _ ⟨(hs2.2 _ (Ne.symm I.ne)).trans I.obj, hn2, I.ne⟩ hs2)
theorem make_map {R : Result → Shared → Prop} {vs : List Value} {kw : List (Str × Value)} (X : K.In s.heap) (hm : PySem.W.makesIn K C = true)
    (hi : PySem.W.findIn K (.ref C) "__init__" = some (some (.ref f))) (hf : PySem.W.typeIn K (.ref f) = some (.type "function"))
    (h : codeAny (model prog w) (A.under (.builtin "type.__call__" ⟨.ref C :: vs, kw⟩)) (.call (.ref f) ⟨.ref (s.heap.objs.size + 1) :: vs, kw⟩) (PySem.W.InitBack (s.heap.objs.size + 1) R)
      { s with heap := (s.heap.push PySem.W.emptyDict).push (PySem.W.instObj C s.heap.objs.size) }) :
    codeAny (model prog w) A (.call (.ref C) ⟨vs, kw⟩) R s := by
  obtain ⟨hh, g, d, t, os⟩ := s
  exact PySem.W.make_core (PySem.W.makes_of X hm) (PySem.W.looks_findIn X hi) (fun self => PySem.W.bind_fn X self hf) (.inl rfl) h
end
def putF (f : Str) (v : V) : List (Str × V) → List (Str × V)
  | [] => [(f, v)]
  | (g, x) :: r => if g = f then (g, v) :: r else (g, x) :: putF f v r
theorem lookup_putF (f g : Str) (v : V) : ∀ fs : List (Str × V), (putF f v fs).lookup g = if g = f then some v else fs.lookup g
  | [] => by
    show List.lookup g [(f, v)] = _
    by_cases h : g = f
    · have hb : (g == f) = true := beq_iff_eq.mpr h
      simp only [List.lookup, hb, if_pos h]
    · have hb : (g == f) = false := beq_eq_false_iff_ne.mpr h
      simp only [List.lookup, hb, if_neg h]
  | (k, x) :: r => by
    have ih := lookup_putF f g v r
    rw [show putF f v ((k, x) :: r) = (if k = f then (k, v) :: r else (k, x) :: putF f v r) from rfl]
    by_cases hk : k = f
    · rw [if_pos hk]
      by_cases h : g = k
      · have hb : (g == k) = true := beq_iff_eq.mpr h
        simp only [List.lookup, hb, if_pos (h.trans hk)]
      · have hb : (g == k) = false := beq_eq_false_iff_ne.mpr h
        simp only [List.lookup, hb, if_neg (fun e : g = f => h (e.trans hk.symm))]
    · rw [if_neg hk]
      by_cases h : g = k
      · have hb : (g == k) = true := beq_iff_eq.mpr h
        simp only [List.lookup, hb, if_neg (fun e : g = f => hk (h.symm.trans e))]
      · have hb : (g == k) = false := beq_eq_false_iff_ne.mpr h
        simp only [List.lookup, hb]
        exact ih
theorem keys_putF (f : Str) (v : V) : ∀ fs : List (Str × V), f ∈ (putF f v fs).map (·.1) ∧ ∀ g, g ∈ fs.map (·.1) → g ∈ (putF f v fs).map (·.1)
  | [] => ⟨by simp [putF], fun g h => by simp at h⟩
  | (k, x) :: r => by
    obtain ⟨i1, i2⟩ := keys_putF f v r
    rw [show putF f v ((k, x) :: r) = (if k = f then (k, v) :: r else (k, x) :: putF f v r) from rfl]
    by_cases hk : k = f
    · rw [if_pos hk]
      subst hk
      exact ⟨by simp, fun g h => by simpa using h⟩
    · rw [if_neg hk]
      refine ⟨?_, fun g h => ?_⟩
      · rw [List.map_cons]
        exact List.mem_cons_of_mem _ i1
      · rw [List.map_cons] at h ⊢
        rcases List.mem_cons.mp h with e | e
        · exact List.mem_cons.mpr (.inl e)
        · exact List.mem_cons_of_mem _ (i2 g e)
theorem length_putF (f : Str) (v : V) : ∀ fs : List (Str × V), (putF f v fs).length ≤ fs.length + 1
  | [] => by simp [putF]
  | (k, x) :: r => by
    have ih := length_putF f v r
    rw [show putF f v ((k, x) :: r) = (if k = f then (k, v) :: r else (k, x) :: putF f v r) from rfl]
    by_cases hk : k = f
    · rw [if_pos hk, List.length_cons, List.length_cons]; omega
    · rw [if_neg hk, List.length_cons, List.length_cons]; omega
theorem RelO.some_of {v : V} {o : Option Value} (r : RelO (some v) o) : ∃ u, o = some u ∧ RelV v u := by
  cases o with
  | none => exact (show False from r).elim
  | some u => exact ⟨u, rfl, r⟩
theorem RelO.none_of {o : Option Value} (r : RelO none o) : o = none := by
  cases o with
  | none => rfl
  | some u => exact (show False from r).elim
theorem handed_of {v : V} {u : Value} (r : RelV v u) : PySem.W.handedIn u = true := by
  cases v with
  | non => cases (show u = Value.none from r); rfl
  | bl b => cases (show u = Value.bool b from r); rfl
  | int i => obtain ⟨t, e⟩ := (show ∃ t, u = Value.int i t from r); cases e; rfl
  | str x => obtain ⟨t, e⟩ := (show ∃ t, u = Value.str x t from r); cases e; rfl
  | byt b => obtain ⟨t, e⟩ := (show ∃ t, u = Value.bytes b t from r); cases e; rfl
  | flt b => obtain ⟨t, e⟩ := (show ∃ t, u = Value.float b t from r); cases e; rfl
  | ref a => cases (show u = Value.ref a from r); rfl
  | ty n => cases (show u = Value.type n from r); rfl
section
variable {P : Program} {w : World} {H H' : Hp} {h h' : Heap} {a C dx : Addr} {fs fs' : List (Str × V)}
theorem ins_get (hok : HOk P w H h) (e : H a = some (.ins C dx fs)) : ∃ mA, ObjM h a dx C mA ∧ (∀ f, RelO (fs.lookup f) (mA f)) ∧ PySem.Within mA (fs.map (·.1)) ∧ fs.length ≤ 1000 ∧ H dx = some (.own a) := by
  obtain ⟨d, z, ne, ob, mA, n, r, q⟩ := (show ObjOk P w H h a (.ins C dx fs) from hok a _ e)
  exact ⟨mA, ⟨ob, n, ne⟩, r, q, z, d⟩
end
structure Cls (K : PySem.W.Frag) (C : Addr) : Prop where
  pg : PySem.W.plainGet K C Str.empty = true
  hd : PySem.W.hasDictIn K C = true
  po : PySem.W.plainOver K C = true
  sa : PySem.W.findIn K (.ref C) "__setattr__" = some (some (.builtin "object.__setattr__"))
theorem Cls.get {K : PySem.W.Frag} {C : Addr} (c : Cls K C) (f : Str) : PySem.W.plainGet K C f = true := c.pg
def NoAttr (K : PySem.W.Frag) (C : Addr) (f : Str) : Prop := PySem.W.findIn K (.ref C) f = some none
theorem NoAttr.taker {K : PySem.W.Frag} {C : Addr} {f : Str} (n : NoAttr K C f) : PySem.W.takerIn K C f = some none := by
  unfold PySem.W.takerIn
  rw [show PySem.W.findIn K (.ref C) f = some none from n]
  rfl
structure Meth (K : PySem.W.Frag) (C : Addr) (m : Str) (f : Addr) : Prop where
  at_ : PySem.W.findIn K (.ref C) m = some (some (.ref f))
  fn : PySem.W.isFn K (.ref f) = true
  kp : PySem.W.keepIn K (.ref f) = true
section
variable {X : Cx} {pins : List (Addr × Obj)} {σ : St} {H : Hp} {s : Shared} {a C dx : Addr} {fs : List (Str × V)} {f : Str} {v : V} {A : Around} {E : Value → Shared → Prop}
theorem getattr_ok {b : Bool} {Q : Value → Shared → Prop} (I : Inv X pins σ H s) (e : H a = some (.ins C dx fs)) (c : Cls X.K C) (n : NoAttr X.K C f) (l : fs.lookup f = some v)
    (h : ∀ u s', Inv X pins σ H s' → RelV v u → Q u s') : wpAny (model X.prog X.w) A (getAttr (.ref a) f b) Q E s := by
  obtain ⟨mA, O, r, _, _, _⟩ := ins_get I.hok e
  obtain ⟨u, hu, ru⟩ := RelO.some_of (v := v) (o := mA f) (by rw [← l]; exact r f)
  exact get_map I.kIn O (c.get f) c.hd n hu (handed_of ru) (h u _ (I.tok _) ru)
theorem getmeth_ok {m : Str} {g : Addr} {pl : Sem Bool} {Q : Value × List Value → Shared → Prop} (I : Inv X pins σ H s) (e : H a = some (.ins C dx fs)) (c : Cls X.K C) (k : Meth X.K C m g) (l : fs.lookup m = none)
    (h : Q (.ref g, [.ref a]) s) : wpAny (model X.prog X.w) A (getMethod (.ref a) m pl) Q E s := by
  obtain ⟨mA, O, r, _, _, _⟩ := ins_get I.hok e
  have hn : mA m = none := RelO.none_of (by rw [← l]; exact r m)
  exact get_meth I.kIn O (c.get m) k.at_ k.fn hn h
theorem setattr_ok {y : V} {u : Value} {Q : Unit → Shared → Prop} (I : Inv X pins σ H s) (e : H a = some (.ins C dx fs)) (c : Cls X.K C) (n : NoAttr X.K C f) (hl : fs.length < 1000) (ry : RelV y u)
    (h : ∀ s', Inv X pins σ (upd H a (.ins C dx (putF f y fs))) s' → Q () s') : wpAny (model X.prog X.w) A (setAttr (.ref a) f u) Q E s := by
  obtain ⟨mA, O, r, wi, _, ho⟩ := ins_get I.hok e
  have hz : (fs.map (·.1)).length ≤ sizeLine := by rw [List.length_map, sizeLine_eq]; omega
  refine set_map I.kIn O c.sa c.po n.taker c.hd wi hz fun h' O' sb => h _ ?_
  have hd : ∃ o, h'.get? dx = some o := let ⟨o, _, _, e', _⟩ := O'.ns; ⟨o, e'⟩
  refine I.write (x := a) (e := dx) (by rw [e]; exact True.intro) (.inr ho) (fun b q hb z => (sb.2 b hb).trans z) hd ?_
  refine ⟨by rw [upd_ne O.ne]; exact ho, ?_, O.ne, O'.obj, _, O'.ns, fun g => ?_, fun g hg => ?_⟩
  · have := length_putF f y fs; omega
  · show RelO ((putF f y fs).lookup g) (if g = f then some u else mA g)
    rw [lookup_putF]
    by_cases q : g = f
    · rw [if_pos q, if_pos q]; exact ry
    · rw [if_neg q, if_neg q]; exact r g
  · by_cases q : g = f
    · rw [q]; exact (keys_putF f y fs).1
    · refine (keys_putF f y fs).2 g (wi g fun z => hg ?_)
      show (if g = f then some u else mA g) = none
      rw [if_neg q]; exact z
theorem Inv.made (I : Inv X pins σ H s) : Inv X pins σ (upd (upd H s.heap.objs.size (.own (s.heap.objs.size + 1))) (s.heap.objs.size + 1) (.ins C s.heap.objs.size []))
    { s with heap := (s.heap.push PySem.W.emptyDict).push (PySem.W.instObj C s.heap.objs.size) } := by
  have e1 : (s.heap.push PySem.W.emptyDict).get? s.heap.objs.size = some PySem.W.emptyDict := Heap.get?_push_size s.heap rfl
  have e2 : ((s.heap.push PySem.W.emptyDict).push (PySem.W.instObj C s.heap.objs.size)).get? (s.heap.objs.size + 1) = some (PySem.W.instObj C s.heap.objs.size) := by
    have := Heap.get?_push_size (s.heap.push PySem.W.emptyDict) (o := PySem.W.instObj C s.heap.objs.size) rfl
    rwa [Heap.size_push] at this
  have e3 : (s.heap.push PySem.W.emptyDict).Ns s.heap.objs.size (fun _ => none) := ⟨PySem.W.emptyDict, #[], _, e1, rfl, (fun e he => absurd he (by simp)), fun _ => rfl⟩
  have I1 := I.laid (a := s.heap.objs.size) (o := .own (s.heap.objs.size + 1)) (h' := s.heap.push PySem.W.emptyDict) (t' := s.toks) (fun b u q => Heap.get?_push_of_some _ q) (Nat.le_refl _) ⟨_, e1⟩
  refine I1.laid (a := s.heap.objs.size + 1) (o := .ins C s.heap.objs.size []) (t' := s.toks) (fun b u q => Heap.get?_push_of_some _ q) (Nat.le_of_eq (Heap.size_push _ _)) ?_
  have ne : s.heap.objs.size ≠ s.heap.objs.size + 1 := Nat.ne_of_lt (Nat.lt_succ_self _)
  refine ⟨by rw [upd_ne ne, upd_same], Nat.zero_le _, ne, e2, fun _ => none, (Heap.Ns1.of_empty e3).at fun o q => Heap.get?_push_of_some _ q, fun _ => True.intro, fun y hy => absurd rfl hy⟩
theorem attr_of {prog : Program} {w : World} {env : Env} {e : Expr} {f : Str} {pos : Pos} {s : Shared} {Q : Value → Shared → Prop} (hb : attributeBase e f env (eval e env) = eval e env)
    (h : wpAny (model prog w) A (eval e env) (fun o s₁ => wpAny (model prog w) A (getAttr o f true) Q E s₁) E s) : wpAny (model prog w) A (eval (.Attribute e f pos) env) Q E s :=
  Attribute_any_ h (by rw [arm_eval_Attribute, hb])
end
def tFld (K : PySem.W.Frag) (ta : TE) (f : Str) : TE := fun σ H Q => ta σ H fun x H1 => ∃ a C dx fs v, x = .ref a ∧ H1 a = some (.ins C dx fs) ∧ Cls K C ∧ NoAttr K C f ∧ fs.lookup f = some v ∧ Q v H1
def sFld (K : PySem.W.Frag) (ta tv : TE) (f : Str) : TS := fun D σ H => tv σ H fun y H1 => ta σ H1 fun x H2 => ∃ a C dx fs, x = .ref a ∧ H2 a = some (.ins C dx fs) ∧ Cls K C ∧ NoAttr K C f ∧ fs.length < 1000 ∧
  D.nx σ (upd H2 a (.ins C dx (putF f y fs)))
section
variable {X : Cx} {o e value : Expr} {f : Str} {pos pos' tpos : Pos} {ta tv : TE}
theorem pe_fld (he : PE X e ta) (hb : attributeBase e f X.env (eval e X.env) = eval e X.env) : PE X (.Attribute e f pos) (tFld X.K ta f) := by
  intro pins s σ H Q I h
  refine attr_of hb (thn (he pins s σ H _ I h) fun u s1 ⟨x, H1, I1, rx, a, C, dx, fs, v, ex, ea, c, n, l, q⟩ => ?_)
  subst ex
  obtain rfl : u = Value.ref a := rx
  exact getattr_ok I1 ea c n l fun u' s2 I2 ru => ⟨v, H1, I2, ru, q⟩
theorem ps_fld (ha : PE X o ta) (hv : PE X value tv) (hs : swapsWith value (some (.Attribute o f pos')) pos.line X.env = pure false) : PS X (.Assign [.Attribute o f pos'] value pos) (sFld X.K ta tv f) := by
  intro pins s σ H D I h
  refine plainObj_wpAny_Assign_Attribute (thn (hv pins s σ H _ I h) fun u s1 ⟨y, H1, I1, ry, q⟩ => thn (ha pins s1 σ H1 _ I1 q) fun ov s2 ⟨x, H2, I2, rx, a, C, dx, fs, ex, ea, c, n, l, q2⟩ => ?_) hs
  subst ex
  obtain rfl : ov = Value.ref a := rx
  exact setattr_ok I2 ea c n l ry fun s3 I3 => ⟨σ, _, I3, q2⟩
theorem methcall_of {pl : Sem Bool} {m : Str} {apos : Pos} {args : List Expr} {pins : List (Addr × Obj)} {s : Shared} {σ : St} {H : Hp} {Q : Value → Shared → Prop} {te : TE} (he : PE X e te) (I : Inv X pins σ H s)
    (h : te σ H fun x H1 => ∃ a C dx fs g, x = .ref a ∧ H1 a = some (.ins C dx fs) ∧ Cls X.K C ∧ Meth X.K C m g ∧ fs.lookup m = none ∧
      ∀ s1, Inv X pins σ H1 s1 → wpAny (model X.prog X.w) X.A (callWith pos (.ref g) [.ref a] (backTo pos (starEach args X.env)) (backToKw pos (keywordEach [] X.env))) Q X.xe s1)
    (ht : eval (.Call (.Attribute e m apos) args [] pos) X.env = (do
      let ov ← eval e X.env
      standAt apos.atName
      let (f, first) ← holding [ov] (getMethod ov m pl)
      callWith pos f first (backTo pos (starEach args X.env)) (backToKw pos (keywordEach [] X.env)))) :
    wpAny (model X.prog X.w) X.A (eval (.Call (.Attribute e m apos) args [] pos) X.env) Q X.xe s := by
  refine PySem.W.methodCall_KW (pl := pl) (thn (he pins s σ H _ I h) fun u s1 ⟨x, H1, I1, rx, a, C, dx, fs, g, ex, ea, c, k, l, q⟩ => ?_) ht
  subst ex
  obtain rfl : u = Value.ref a := rx
  exact getmeth_ok I1 ea c k l (q s1 I1)
end
section
variable {X : Cx} {pins : List (Addr × Obj)} {σ : St} {H : Hp} {s : Shared} {A : Around} {E : Value → Shared → Prop} {Q : Value → Shared → Prop} {c : Value} {b : Bool}
inductive TyOf (K : PySem.W.Frag) (H : Hp) : V → Value → Prop where
  | non : TyOf K H .non (.type "NoneType")
  | bl (x : Bool) : TyOf K H (.bl x) (.type "bool")
  | int (i : Int) : TyOf K H (.int i) (.type "int")
  | str (x : Str) : TyOf K H (.str x) (.type "str")
  | flt (x : UInt64) : TyOf K H (.flt x) (.type "float")
  | lst {a : Addr} {xs : List V} (e : H a = some (.lst xs)) : TyOf K H (.ref a) (.type "list")
  | frz {a : Addr} {o : Obj} {xs : List V} (e : H a = some (.frz o (.lst xs))) : TyOf K H (.ref a) (.type "list")
  | tup {a : Addr} {xs : List V} (e : H a = some (.tup xs)) : TyOf K H (.ref a) (.type "tuple")
  | dK {a : Addr} {kvs : List (Key × V)} (e : H a = some (.dK kvs)) : TyOf K H (.ref a) (.type "dict")
  | dT {a : Addr} {kvs : List (List Key × V)} (e : H a = some (.dT kvs)) : TyOf K H (.ref a) (.type "dict")
  | ins {a C dx : Addr} {fs : List (Str × V)} (e : H a = some (.ins C dx fs)) (cl : Cls K C) (ha : PySem.W.findIn K (.ref C) "__class__" = some (some (.builtin "object.__class__")))
      (hn : PySem.W.specialIn K (.builtin "object.__class__") "__get__" = some (some (.builtin "getset_descriptor.__get__"))) (htk : PySem.W.takesIn K (.builtin "object.__class__") = some true)
      (hm : PySem.W.mroIn K C (.type "object") = some true) : TyOf K H (.ref a) (.ref C)
theorem isinst_ok {x : V} {u t : Value} (I : Inv X pins σ H s) (rx : RelV x u) (ty : TyOf X.K H x t) (e : PySem.W.kitOne X.K t c = some b) (h : ∀ tk, Q (.bool b) { s with toks := tk }) :
    wpAny (model X.prog X.w) A (call (.builtin "isinstance") [u, c]) Q E s := by
  cases ty with
  | non => cases (show u = Value.none from rx); exact PySem.W.kia_one PySem.W.kitx_none I.kIn True.intro e (fun z => nomatch z) h
  | bl y => cases (show u = Value.bool y from rx); exact PySem.W.kia_one PySem.W.kitx_bool I.kIn True.intro e (fun z => nomatch z) h
  | int i => obtain ⟨t, q⟩ := (show ∃ t, u = Value.int i t from rx); cases q; exact PySem.W.kia_one PySem.W.kitx_int I.kIn True.intro e (fun z => nomatch z) h
  | str y => obtain ⟨t, q⟩ := (show ∃ t, u = Value.str y t from rx); cases q; exact PySem.W.kia_one PySem.W.kitx_str I.kIn True.intro e (fun z => nomatch z) h
  | flt y => obtain ⟨t, q⟩ := (show ∃ t, u = Value.float y t from rx); cases q; exact PySem.W.kia_one PySem.W.kitx_float I.kIn True.intro e (fun z => nomatch z) h
  | @lst a xs ea =>
    cases (show u = Value.ref a from rx)
    obtain ⟨_, _, n, _, h1⟩ := (show ObjOk X.prog X.w H s.heap a (.lst xs) from I.hok a _ ea)
    exact PySem.W.kia_one PySem.W.kitx_list I.kIn ⟨_, h1, rfl⟩ e (fun z => nomatch z) h
  | @frz a ob xs ea =>
    cases (show u = Value.ref a from rx)
    obtain ⟨_, _, _, n, _, h1⟩ := (show ObjOk X.prog X.w H s.heap a (.frz ob (.lst xs)) from I.hok a _ ea)
    exact PySem.W.kia_one PySem.W.kitx_list I.kIn ⟨_, h1, rfl⟩ e (fun z => nomatch z) h
  | @tup a xs ea =>
    cases (show u = Value.ref a from rx)
    obtain ⟨_, _, _, p⟩ := (show ObjOk X.prog X.w H s.heap a (.tup xs) from I.hok a _ ea)
    obtain ⟨o, h1, h2, _⟩ := p
    exact PySem.W.kia_one PySem.W.kitx_tuple I.kIn ⟨o, h1, h2⟩ e (fun z => nomatch z) h
  | @dK a kvs ea =>
    cases (show u = Value.ref a from rx)
    obtain ⟨_, _, vs, _, p⟩ := (show ObjOk X.prog X.w H s.heap a (.dK kvs) from I.hok a _ ea)
    obtain ⟨o, es, ep, h1, h2, _⟩ := p
    exact PySem.W.kia_one PySem.W.kitx_dict I.kIn ⟨o, h1, h2.1⟩ e (fun z => nomatch z) h
  | @dT a kvs ea =>
    cases (show u = Value.ref a from rx)
    obtain ⟨_, _, xs, _, o, es, ep, h1, h2, _⟩ := (show ObjOk X.prog X.w H s.heap a (.dT kvs) from I.hok a _ ea)
    exact PySem.W.kia_one PySem.W.kitx_dict I.kIn ⟨o, h1, h2.1⟩ e (fun z => nomatch z) h
  | @ins a C dx fs ea cl ha hn htk hm =>
    cases (show u = Value.ref a from rx)
    obtain ⟨mA, O, _⟩ := ins_get I.hok ea
    obtain ⟨od, J, _⟩ := O.look
    exact PySem.W.kia_one (PySem.W.kitx_own (cl.get _) cl.hd ha hn htk hm) I.kIn J e (fun z => nomatch z) h
end
end L2
namespace L2
open PySem PySem.Spec PyProof.Rows
structure Room (k : Nat) (A : Around) : Prop where
  hd : A.handled = none
  dp : A.depth + 3 * k + 5 < recursionLimit
  un : A.units + 16 * k + 200 < cLine
theorem Room.mono {j k : Nat} {A : Around} (r : Room k A) (h : j ≤ k) : Room j A := ⟨r.hd, by have := r.dp; omega, by have := r.un; omega⟩
theorem Room.deeper {k : Nat} {A : Around} (r : Room (k + 1) A) (env : Env) : Room k (A.deeper env) :=
  ⟨r.hd, by have := r.dp; show A.depth + 1 + 3 * k + 5 < _; omega, by have := r.un; show A.units + 3 + 16 * k + 200 < _; omega⟩
theorem make_depth {A : Around} {C : Addr} {us : List Value} {kw : List (Str × Value)} : (A.under (.builtin "type.__call__" ⟨.ref C :: us, kw⟩)).depth = A.depth + 1 := by
  first | rfl | simp [Around.under, Code.weight, Code.isCreation, Code.isGuard, Code.isCaller, Code.frames, Code.isFrame, guardIds]
theorem make_units {A : Around} {C : Addr} {us : List Value} {kw : List (Str × Value)} : (A.under (.builtin "type.__call__" ⟨.ref C :: us, kw⟩)).units = A.units + 1 := by
  first | rfl | simp [Around.under, Code.cUnits, Code.frames, Code.isFrame]
theorem Room.make {k : Nat} {A : Around} (r : Room (k + 1) A) (C : Addr) (us : List Value) (kw : List (Str × Value)) : Room k (A.under (.builtin "type.__call__" ⟨.ref C :: us, kw⟩)) :=
  ⟨r.hd, by have := r.dp; rw [make_depth]; omega, by have := r.un; rw [make_units]; omega⟩
theorem Room.depth {k : Nat} {A : Around} (r : Room k A) : A.depth < recursionLimit := by have := r.dp; omega
theorem Room.units {k : Nat} {A : Around} (r : Room k A) : A.units + 64 < cLine := by have := r.un; omega
def tNil : TA := fun _ H Q => Q [] H
def tCons (ta : TE) (tr : TA) : TA := fun σ H Q => ta σ H fun x H1 => tr σ H1 fun xs H2 => Q (x :: xs) H2
section
variable {X : Cx} {e : Expr} {es : List Expr} {te : TE} {t : TA} {pos : Pos}
theorem pa_nil : PA X [] tNil := fun _ _ _ _ H Q I h => Calls.spliced_nil ⟨[], H, I, .nil, h⟩
theorem pa_cons (ha : PE X e te) (hr : PA X es t) (hs : starEach (e :: es) X.env = (false, eval e X.env) :: starEach es X.env := by rfl) : PA X (e :: es) (tCons te t) := by
  intro pos pins s σ H Q I h
  rw [hs]
  show wpAny _ _ (spliced ((false, eval e X.env) :: backTo pos (starEach es X.env))) _ _ s
  refine Calls.spliced_cons (thn (ha pins s σ H _ I h) fun u s1 ⟨x, H1, I1, r1, q1⟩ => ?_)
  exact thn (hr pos pins s1 σ H1 _ I1 q1) fun us s2 ⟨xs, H2, I2, r2, q2⟩ => ⟨x :: xs, H2, I2, .cons r1 r2, q2⟩
def tTup (t : TA) : TE := fun σ H Q => t σ H fun xs H1 => xs.length ≤ sizeLine ∧ ∀ p, H1 p = none → Q (.ref p) (upd H1 p (.tup xs))
def tLst (t : TA) : TE := fun σ H Q => t σ H fun xs H1 => xs.length ≤ sizeLine ∧ ∀ p, H1 p = none → Q (.ref p) (upd H1 p (.lst xs))
theorem pe_tup {x1} (h : PA X es t) : PE X (.Tuple es x1 pos) (tTup t) := by
  intro pins s σ H Q I hq
  refine wpAny_Tuple_spliced (thn (h pos pins s σ H _ I hq) fun us s1 ⟨xs, H1, I1, r, z, q⟩ => ⟨by rw [← r.length]; exact z, ?_⟩)
  have hf : H1 s1.heap.objs.size = none := I1.hok.fresh (Nat.le_refl _)
  refine ⟨.ref s1.heap.objs.size, upd H1 s1.heap.objs.size (.tup xs), I1.laid (t' := s1.toks) (fun b u e => Heap.get?_push_of_some _ e) (Nat.le_refl _) ?_, rfl, q _ hf⟩
  exact ⟨z, us, r, ⟨_, Heap.get?_push_size _ rfl, rfl, _, rfl⟩⟩
theorem pe_lst (h : PA X es t) : PE X (.List es pos) (tLst t) := by
  intro pins s σ H Q I hq
  refine wpAny_List_spliced (thn (h pos pins s σ H _ I hq) fun us s1 ⟨xs, H1, I1, r, z, q⟩ => ⟨by rw [← r.length]; exact z, ?_⟩)
  have hf : H1 s1.heap.objs.size = none := I1.hok.fresh (Nat.le_refl _)
  refine ⟨.ref s1.heap.objs.size, upd H1 s1.heap.objs.size (.lst xs), I1.laid (t' := s1.toks) (fun b u e => Heap.get?_push_of_some _ e) (Nat.le_refl _) ?_, rfl, q _ hf⟩
  exact ⟨z, us, 0, r, Heap.get?_push_size _ rfl⟩
end
abbrev Sp := List V → Hp → VK → XK → Prop
abbrev CXT := List Env → Hp → Shared → XK → Value → Shared → Prop
structure Env0 (P : Program) (w : World) (K : PySem.W.Frag) (mg : Str → Option Value) (base : Heap) (A : Around) (outer : List Env) (s : Shared) (H : Hp) : Prop where
  frames : A.frames = some outer
  mod : Mod K mg base
  bs : ∀ b o, base.get? b = some o → s.heap.get? b = some o ∧ H b = none
  bsz : base.objs.size ≤ s.heap.objs.size
  funs : s.heap.FunFrames base outer
  frf : ∀ b ∈ frs outer, H b = none
  hok : HOk P w H s.heap
  bare : AllBare s.gens
def CE (outer : List Env) (P : Program) (w : World) (H : Hp) (s : Shared) (Q : VK) (u : Value) (s' : Shared) : Prop :=
  ∃ v H', s'.os = s.os ∧ AllBare s'.gens ∧ Un (frs outer) [] H H' s.heap s'.heap ∧ HOk P w H' s'.heap ∧ RelV v u ∧ Q v H'
def CR (CX : CXT) (outer : List Env) (P : Program) (w : World) (H : Hp) (s : Shared) (Q : VK) (E : XK) (r : Result) (s' : Shared) : Prop :=
  match r with
  | .ok (.ret u) => CE outer P w H s Q u s'
  | .ok _ => False
  | .error e => CX outer H s E e s'
structure FnOk (P : Program) (w : World) (K : PySem.W.Frag) (mg : Str → Option Value) (base : Heap) (CX : CXT) (k : Nat) (f : Addr) (fd : FuncData) (ps : List Str) (sp : Sp) : Prop where
  len : ∀ vs H Q E, sp vs H Q E → vs.length = ps.length
  run : ∀ (A : Around) (outer : List Env) (s : Shared) (H : Hp) (args : Args) (us : List Value) (vs : List V) (Q : VK) (E : XK), Room k A → Env0 P w K mg base A outer s H → BindsTo s fd args (ps.zip us) → Vals vs us → sp vs H Q E →
    codeAny (model P w) A (.call (.ref f) args) (CR CX outer P w H s Q E) s
theorem FnOk.mono {P : Program} {w : World} {K : PySem.W.Frag} {mg : Str → Option Value} {base : Heap} {CX : CXT} {j k : Nat} {f : Addr} {fd : FuncData} {ps : List Str} {sp : Sp} (F : FnOk P w K mg base CX j f fd ps sp) (h : j ≤ k) :
    FnOk P w K mg base CX k f fd ps sp := ⟨F.len, fun A outer s H args us vs Q E hr => F.run A outer s H args us vs Q E (hr.mono h)⟩
theorem Env0.make {P : Program} {w : World} {K : PySem.W.Frag} {mg : Str → Option Value} {base : Heap} {A : Around} {outer : List Env} {s : Shared} {H : Hp} (e : Env0 P w K mg base A outer s H) (C : Addr) (us : List Value) (kw : List (Str × Value)) :
    Env0 P w K mg base (A.under (.builtin "type.__call__" ⟨.ref C :: us, kw⟩)) outer s H := ⟨by first | exact e.frames | (simpa [Around.under, Code.envs, Code.isFrame, pushEnvs] using e.frames), e.mod, e.bs, e.bsz, e.funs, e.frf, e.hok, e.bare⟩
section
variable {X : Cx} {pins : List (Addr × Obj)} {σ : St} {H : Hp} {s s' : Shared}
theorem Inv.env0 (I : Inv X pins σ H s) : Env0 X.prog X.w X.K X.mg X.base X.A X.stack s H :=
  ⟨I.ok.frames, I.ok.mod, I.bs, Nat.le_trans I.ok.bsz I.sz, I.stack, I.stkFree, I.hok, I.bare⟩
theorem Inv.after {Q : VK} {u : Value} (I : Inv X pins σ H s) (h : CE X.stack X.prog X.w H s Q u s') : EP X pins σ Q u s' := by
  obtain ⟨v, H', os, bare, un, hok, r, q⟩ := h
  obtain ⟨hh, g, d, t, os'⟩ := s'
  obtain rfl : os' = s.os := os
  exact ⟨v, H', I.call (h' := hh) (g' := g) (d' := d) (t' := t) (ch := []) un hok bare (fun b z => absurd z (by simp)), r, q⟩
end
def tCall (sp : Sp) (dvs : List V) (E : XK) (t : TA) : TE := fun σ H Q => t σ H fun vs H1 => sp (vs ++ dvs) H1 Q E
def tMeth (C : Addr) (m : Str) (sp : Sp) (dvs : List V) (E : XK) (ta : TE) (t : TA) : TE := fun σ H Q => ta σ H fun x H1 => ∃ a dx fs, x = .ref a ∧ H1 a = some (.ins C dx fs) ∧ fs.lookup m = none ∧
  t σ H1 fun vs H2 => sp (x :: (vs ++ dvs)) H2 Q E
def tMake (C : Addr) (sp : Sp) (dvs : List V) (E : XK) (t : TA) : TE := fun σ H Q => t σ H fun vs H1 => ∀ x dx, H1 x = none → H1 dx = none → dx ≠ x →
  sp (.ref x :: (vs ++ dvs)) (upd (upd H1 dx (.own x)) x (.ins C dx [])) (fun v H2 => v = .non ∧ Q (.ref x) H2) E
def Binds (K : PySem.W.Frag) (fd : FuncData) (ps : List Str) (ds : List Value) : Prop :=
  ∀ (s : Shared) (us : List Value), K.In s.heap → (us ++ ds).length = ps.length → BindsTo s fd ⟨us, []⟩ (ps.zip (us ++ ds))
theorem Binds.all {K : PySem.W.Frag} {fd : FuncData} {ps : List Str} (h : ∀ us : List Value, us.length = ps.length → bindArgs fd ⟨us, []⟩ = pure (ps.zip us)) : Binds K fd ps [] := fun s us _ hl => by
  rw [List.append_nil] at hl ⊢
  exact .of_eq (h us hl)
def Passes (CX : CXT) (X : Cx) (E : XK) : Prop := ∀ (pins : List (Addr × Obj)) (σ : St) (H : Hp) (s : Shared) (e : Value) (s' : Shared), Inv X pins σ H s → CX X.stack H s E e s' → X.xe e s'
section
variable {X : Cx} {CX : CXT} {k : Nat} {f C : Addr} {fd : FuncData} {ps : List Str} {sp : Sp} {dvs : List V} {ds : List Value} {E : XK} {x m : Str} {p pos apos : Pos} {e o : Expr} {es : List Expr} {ta : TE} {t : TA}
theorem run_fn {pins : List (Addr × Obj)} {σ : St} {H : Hp} {s : Shared} {Q : VK} {us : List Value} {vs : List V} (F : FnOk X.prog X.w X.K X.mg X.base CX k f fd ps sp) (hr : Room k X.A) (hb : Binds X.K fd ps ds) (hd : Vals dvs ds) (hx : Passes CX X E)
    (I : Inv X pins σ H s) (r : Vals vs us) (h : sp (vs ++ dvs) H Q E) : wpAny (model X.prog X.w) X.A (call (.ref f) us) (EP X pins σ Q) X.xe s := by
  have r2 : Vals (vs ++ dvs) (us ++ ds) := r.append hd
  have hl : (us ++ ds).length = ps.length := by rw [← r2.length]; exact F.len _ _ _ _ h
  refine wpAny_call (codeAny_mono (F.run X.A X.stack s H ⟨us, []⟩ (us ++ ds) (vs ++ dvs) Q E hr I.env0 (hb s us I.kIn hl) r2 h) fun r s' hq => ?_)
  cases r with
  | error e => exact hx pins σ H s e s' I hq
  | ok fl =>
    cases fl with
    | ret u => exact I.after hq
    | next => exact False.elim hq
    | brk => exact False.elim hq
    | cont => exact False.elim hq
theorem pe_call (F : FnOk X.prog X.w X.K X.mg X.base CX k f fd ps sp) (hr : Room k X.A) (hg : Gl X x) (hm : X.mg x = some (.ref f)) (hk : PySem.W.keepIn X.K (.ref f) = true) (hb : Binds X.K fd ps ds) (hd : Vals dvs ds) (hx : Passes CX X E)
    (ha : PA X (e :: es) t) (hdb : (x == ("__debug__" : Str)) = false := by decide) (he : starEach (e :: es) X.env = (false, eval e X.env) :: starEach es X.env := by rfl) (hpl : (backTo pos (starEach es X.env)).any (·.1) = false := by rfl) :
    PE X (.Call (.Name x p) (e :: es) [] pos) (tCall sp dvs E t) := by
  intro pins s σ H Q I h
  refine wpAny_Call_Name_kw (ld_glob I hg hm ?_ hdb)
  refine PySem.W.callWith_K (h₀ := X.base) I.ok.mod.kin hk (thn (ha pos pins s σ H _ I h) fun us s1 ⟨vs, H1, I1, r, q⟩ => ⟨I1.kIn, ?_⟩) he hpl
  exact run_fn F hr hb hd hx I1 r q
theorem pe_meth0 {pl : Sem Bool} (he : PE X o ta) (c : Cls X.K C) (hm : Meth X.K C m f) (F : FnOk X.prog X.w X.K X.mg X.base CX k f fd ps sp) (hr : Room k X.A) (hb : Binds X.K fd ps ds) (hd : Vals dvs ds) (hx : Passes CX X E)
    (ht : eval (.Call (.Attribute o m apos) [] [] pos) X.env = (do
      let ov ← eval o X.env
      standAt apos.atName
      let (f, first) ← holding [ov] (getMethod ov m pl)
      callWith pos f first (backTo pos (starEach [] X.env)) (backToKw pos (keywordEach [] X.env))) := by rfl) :
    PE X (.Call (.Attribute o m apos) [] [] pos) (tMeth C m sp dvs E ta tNil) := by
  intro pins s σ H Q I h
  refine PySem.W.methodCall_KW (pl := pl) (thn (he pins s σ H _ I h) fun u s1 ⟨x, H1, I1, rx, a, dx, fs, ex, ea, l, q⟩ => ?_) ht
  subst ex
  obtain rfl : u = Value.ref a := rx
  refine getmeth_ok I1 ea c hm l ?_
  exact PySem.W.callWith_K0 (first := [.ref a]) I1.kIn hm.kp (run_fn (us := [.ref a]) (vs := [.ref a]) F hr hb hd hx I1 (.cons rfl .nil) q)
structure Mk (K : PySem.W.Frag) (C f : Addr) : Prop where
  makes : PySem.W.makesIn K C = true
  init : PySem.W.findIn K (.ref C) "__init__" = some (some (.ref f))
  fn : PySem.W.isFn K (.ref f) = true
  kp : PySem.W.keepIn K (.ref C) = true
theorem run_make {pins : List (Addr × Obj)} {σ : St} {H : Hp} {s : Shared} {Q : VK} {us : List Value} {vs : List V} (M : Mk X.K C f) (F : FnOk X.prog X.w X.K X.mg X.base CX k f fd ps sp) (hr : Room (k + 1) X.A) (hb : Binds X.K fd ps ds) (hd : Vals dvs ds)
    (hx : Passes CX X E) (I : Inv X pins σ H s) (r : Vals vs us)
    (h : ∀ x dx, H x = none → H dx = none → dx ≠ x → sp (.ref x :: (vs ++ dvs)) (upd (upd H dx (.own x)) x (.ins C dx [])) (fun v H2 => v = .non ∧ Q (.ref x) H2) E) :
    wpAny (model X.prog X.w) X.A (call (.ref C) us) (EP X pins σ Q) X.xe s := by
  have hq := h (s.heap.objs.size + 1) s.heap.objs.size (I.hok.fresh (Nat.le_succ _)) (I.hok.fresh (Nat.le_refl _)) (Nat.ne_of_lt (Nat.lt_succ_self _))
  have I2 := Inv.made (C := C) I
  have r2 : Vals (V.ref (s.heap.objs.size + 1) :: (vs ++ dvs)) (Value.ref (s.heap.objs.size + 1) :: (us ++ ds)) := .cons rfl (r.append hd)
  have hl : (Value.ref (s.heap.objs.size + 1) :: us ++ ds).length = ps.length := by
    have e := r2.length
    rw [F.len _ _ _ _ hq] at e
    exact e.symm
  refine wpAny_call (make_map (f := f) I.kIn M.makes M.init (beq_iff_eq.mp M.fn) (codeAny_mono (F.run _ X.stack _ _ ⟨Value.ref (s.heap.objs.size + 1) :: us, []⟩ (Value.ref (s.heap.objs.size + 1) :: (us ++ ds)) _ _ E (hr.make C us [])
    (I2.env0.make C us []) (hb _ (Value.ref (s.heap.objs.size + 1) :: us) I2.kIn hl) r2 hq) fun r s' hq' => ?_))
  cases r with
  | error e => exact hx pins σ _ _ e s' I2 hq'
  | ok fl =>
    cases fl with
    | ret u =>
      obtain ⟨v, H', I3, rv, ev, q3⟩ := I2.after hq'
      subst ev
      exact ⟨rv, ⟨V.ref (s.heap.objs.size + 1), H', I3, rfl, q3⟩⟩
    | next => exact False.elim hq'
    | brk => exact False.elim hq'
    | cont => exact False.elim hq'
theorem pe_make (M : Mk X.K C f) (F : FnOk X.prog X.w X.K X.mg X.base CX k f fd ps sp) (hr : Room (k + 1) X.A) (hg : Gl X x) (hm : X.mg x = some (.ref C)) (hb : Binds X.K fd ps ds) (hd : Vals dvs ds) (hx : Passes CX X E)
    (ha : PA X (e :: es) t) (hdb : (x == ("__debug__" : Str)) = false := by decide) (he : starEach (e :: es) X.env = (false, eval e X.env) :: starEach es X.env := by rfl) (hpl : (backTo pos (starEach es X.env)).any (·.1) = false := by rfl) :
    PE X (.Call (.Name x p) (e :: es) [] pos) (tMake C sp dvs E t) := by
  intro pins s σ H Q I h
  refine wpAny_Call_Name_kw (ld_glob I hg hm ?_ hdb)
  refine PySem.W.callWith_K (h₀ := X.base) I.ok.mod.kin M.kp (thn (ha pos pins s σ H _ I h) fun us s1 ⟨vs, H1, I1, r, q⟩ => ⟨I1.kIn, ?_⟩) he hpl
  exact run_make M F hr hb hd hx I1 r q
end
def PK (X : Cx) (kws : List Keyword) (t : TA) : Prop :=
  ∀ (pos : Pos) (pins : List (Addr × Obj)) (s : Shared) (σ : St) (H : Hp) (Q : List V → Hp → Prop), Inv X pins σ H s → t σ H Q → wpAny (model X.prog X.w) X.A (evalAll ((backToKw pos (keywordEach kws X.env)).map (·.2))) (AP X pins σ Q) X.xe s
section
variable {X : Cx} {CX : CXT} {k : Nat} {f C : Addr} {fd : FuncData} {ps ks : List Str} {sp : Sp} {E : XK} {x m : Str} {p pos apos kpos : Pos} {e o : Expr} {es : List Expr} {kws : List Keyword} {te ta : TE} {t tk : TA} {nm : Option Str}
theorem pk_nil : PK X [] tNil := fun _ _ _ _ H Q I h => wpAny_evalAll_nil ⟨[], H, I, .nil, h⟩
theorem pk_cons (ha : PE X e te) (hr : PK X kws t) : PK X (⟨nm, e, kpos⟩ :: kws) (tCons te t) := by
  intro pos pins s σ H Q I h
  show wpAny _ _ (evalAll ((do let v ← eval e X.env; standAt pos; pure v) :: (backToKw pos (keywordEach kws X.env)).map (·.2))) _ _ s
  refine wpAny_evalAll_cons (wpAny_bind (thn (ha pins s σ H _ I h) fun u s1 ⟨x, H1, I1, r1, q1⟩ => wpAny_bind (wpAny_standAt (wpAny_pure ?_))))
  exact thn (hr pos pins s1 σ H1 _ I1 q1) fun us s2 ⟨xs, H2, I2, r2, q2⟩ => ⟨x :: xs, H2, I2, .cons r1 r2, q2⟩
variable {g : List Value → List Value → List Value} {gV : List V → List V → List V}
end
structure FnScope (N P : List Str) (sc : Scope) : Prop where
  kind : sc.kind = .function
  co : sc.isCoroutine = false
  gen : sc.isGenerator = false
  nd : N.Nodup
  pre : N.take P.length = P
  par : ∀ x ∈ P, sc.names.lookup x = some .local ∨ sc.names.lookup x = some .cell
  nofree : ∀ y ∈ sc.names, y.2 ≠ .free
theorem bindL_out {kindOf : Str → Option NameKind} {x : Str} : ∀ {binds : List (Str × Value)} {m : Str → Option Value}, (∀ v, (x, v) ∉ binds) → bindL kindOf binds m x = m x
  | [], _, _ => rfl
  | (n, v) :: r, m, h => by
    unfold bindL
    rw [bindL_out fun w hw => h w (List.mem_cons_of_mem _ hw)]
    split
    · have : x ≠ n := by rintro rfl; exact h v List.mem_cons_self
      simp [this]
    · rfl
theorem bindC_out {kindOf : Str → Option NameKind} {x : Str} : ∀ {binds : List (Str × Value)} {m : Str → Option Value}, (∀ v, (x, v) ∉ binds) → bindC kindOf binds m x = m x
  | [], _, _ => rfl
  | (n, v) :: r, m, h => by
    unfold bindC
    rw [bindC_out fun w hw => h w (List.mem_cons_of_mem _ hw)]
    split
    · rfl
    · have : x ≠ n := by rintro rfl; exact h v List.mem_cons_self
      simp [this]
theorem bindL_get {kindOf : Str → Option NameKind} {x : Str} {v : Value} : ∀ {P : List Str} {vs : List Value} {i : Nat} {m : Str → Option Value}, P.Nodup → P[i]? = some x → vs[i]? = some v → kindOf x = some .local →
    bindL kindOf (P.zip vs) m x = some v
  | [], _, _, _, _, h, _, _ => by simp at h
  | _ :: _, [], _, _, _, _, h, _ => by simp at h
  | p :: P, w :: vs, 0, m, nd, h1, h2, hk => by
    simp at h1 h2; subst h1; subst h2
    show bindL kindOf ((p, w) :: P.zip vs) m p = _
    unfold bindL
    rw [bindL_out fun v hv => (List.nodup_cons.mp nd).1 (List.of_mem_zip hv).1, if_pos hk]
    simp
  | p :: P, w :: vs, i + 1, m, nd, h1, h2, hk => by
    show bindL kindOf ((p, w) :: P.zip vs) m x = _
    unfold bindL
    exact bindL_get (i := i) (List.nodup_cons.mp nd).2 (by simpa using h1) (by simpa using h2) hk
theorem bindC_get {kindOf : Str → Option NameKind} {x : Str} {v : Value} : ∀ {P : List Str} {vs : List Value} {i : Nat} {m : Str → Option Value}, P.Nodup → P[i]? = some x → vs[i]? = some v → kindOf x ≠ some .local →
    bindC kindOf (P.zip vs) m x = some v
  | [], _, _, _, _, h, _, _ => by simp at h
  | _ :: _, [], _, _, _, _, h, _ => by simp at h
  | p :: P, w :: vs, 0, m, nd, h1, h2, hk => by
    simp at h1 h2; subst h1; subst h2
    show bindC kindOf ((p, w) :: P.zip vs) m p = _
    unfold bindC
    rw [bindC_out fun v hv => (List.nodup_cons.mp nd).1 (List.of_mem_zip hv).1, if_neg hk]
    simp
  | p :: P, w :: vs, i + 1, m, nd, h1, h2, hk => by
    show bindC kindOf ((p, w) :: P.zip vs) m x = _
    unfold bindC
    exact bindC_get (i := i) (List.nodup_cons.mp nd).2 (by simpa using h1) (by simpa using h2) hk
def start (N : List Str) (vs : List V) : St := vs.map some ++ List.replicate (N.length - vs.length) none
def cxOf (CX : CXT) (P : Program) (w : World) (K : PySem.W.Frag) (mg : Str → Option Value) (base : Heap) (N : List Str) (qual : Str) (scope : Scope) (f : Addr) (cd : Value) (A : Around) (outer : List Env) (s : Shared) (H : Hp) (E : XK) : Cx where
  prog := P
  w := w
  K := K
  mg := mg
  base := base
  A := A.deeper (envOfC qual scope s.heap.objs.size f cd)
  N := N
  s₀ := s
  H₀ := H
  env := envOfC qual scope s.heap.objs.size f cd
  outer := outer
  stack := envOfC qual scope s.heap.objs.size f cd :: outer
  ex := []
  calm := true
  fn := fun _ => true
  pn := []
  xe := fun e s' => wpAny (model P w) (A.deeper (envOfC qual scope s.heap.objs.size f cd)) (leaving (envOfC qual scope s.heap.objs.size f cd) e) (fun _ s'' => CX outer H s E e s'') (fun e' s'' => CX outer H s E e' s'') s'
theorem cell_has {sc : Scope} {n : Nat} {x : Str} (h : sc.names.lookup x = some .cell) : ∃ c, (cellsFrom n sc.names []).lookup x = some c := by
  have q := PySem.W.cellsFrom_some sc.names n [] (.inl h)
  exact Option.isSome_iff_exists.mp q
theorem inv_start {CX : CXT} {P : Program} {w : World} {K : PySem.W.Frag} {mg : Str → Option Value} {base : Heap} {N ps : List Str} {qual : Str} {scope : Scope} {f : Addr} {cd : Value} {A : Around} {outer : List Env} {s s1 : Shared} {H : Hp} {E : XK} {us : List Value} {vs : List V}
    (S : FnScope N ps scope) (hd : A.handled = none) (e0 : Env0 P w K mg base A outer s H) (hl : vs.length = ps.length) (r : Vals vs us)
    (x : InCallC s s.heap.objs.size (bindL (envOfC qual scope s.heap.objs.size f cd).kindOf (ps.zip us) fun _ => none) (cellsFrom (s.heap.objs.size + 1) scope.names []) (bindC (envOfC qual scope s.heap.objs.size f cd).kindOf (ps.zip us) fun _ => none) s1) :
    Inv (cxOf CX P w K mg base N qual scope f cd A outer s H E) [] (start N vs) H s1 := by
  have hpl : ps.length ≤ N.length := by have := congrArg List.length S.pre; rw [List.length_take] at this; omega
  obtain ⟨h1, tk, rfl, hk⟩ := x.done
  have noA : ∀ b : Addr, b ∉ (cxOf CX P w K mg base N qual scope f cd A outer s H E).ex := fun b z => absurd (show b ∈ ([] : List Addr) from z) (by simp)
  refine ⟨⟨e0.mod, S.kind, rfl, rfl, Nat.le_refl _, fun y z c h1 h2 => ?_, fun y hy => ?_, fun y c _ h => ?_, fun _ => hd, Around.frames_deeper e0.frames, .inr ⟨rfl, rfl⟩, fun b z => absurd z (noA b), e0.bs, e0.bsz, fun b _ _ => noA b, fun b z => absurd z (noA b), e0.funs, e0.frf⟩,
    rfl, e0.bare, Un.kept hk, ⟨_, x.toInCall.ns, fun i y v h1 h2 h3 => ?_⟩, fun y c h => ⟨_, x.cell y c h⟩, e0.hok.fresh (Nat.le_refl _), fun y c h => ?_, fun p hp => absurd (show p ∈ ([] : List (Addr × Obj)) from hp) (by simp), e0.hok.kept hk, ?_⟩
  · exact name_of_addr x.apart (PySem.mem_of_lookup h1) (PySem.mem_of_lookup h2)
  · have hy : scope.names.lookup y = some .cell ∨ scope.names.lookup y = some .free := hy
    rcases hy with hy | hy
    · exact cell_has hy
    · exact absurd rfl (S.nofree _ (PySem.mem_of_lookup hy))
  · exact Nat.le_of_lt (x.above y c (PySem.mem_of_lookup h))
  · have hi : i < vs.length := by
      unfold start at h2
      by_cases hi : i < vs.length
      · exact hi
      · rw [List.getElem?_append_right (by simpa using hi)] at h2
        rw [List.getElem?_replicate] at h2
        split at h2 <;> cases h2
    have ha : vs[i]? = some v := by
      unfold start at h2
      rw [List.getElem?_append_left (by simpa using hi), List.getElem?_map] at h2
      cases e : vs[i]? with
      | none => rw [e] at h2; cases h2
      | some a => rw [e] at h2; cases h2; rfl
    obtain ⟨u, hu, rv⟩ := r.get ha
    have hp : ps[i]? = some y := by
      rw [← S.pre, List.getElem?_take_of_lt (by omega)]; exact h1
    have ndP : ps.Nodup := by rw [← S.pre]; exact S.nd.sublist (List.take_sublist _ _)
    refine ⟨u, rv, ?_⟩
    rcases S.par y (List.mem_of_getElem? hp) with k | k
    · exact .inl ⟨k, bindL_get ndP hp hu k⟩
    · obtain ⟨c, e⟩ := cell_has (n := s.heap.objs.size + 1) k
      refine .inr ⟨.inl k, c, e, ?_⟩
      have q := x.cell y c e
      rw [bindC_get ndP hp hu (by show scope.names.lookup y ≠ _; rw [k]; decide)] at q
      exact q
  · exact e0.hok.fresh (Nat.le_of_lt (x.above y c (PySem.mem_of_lookup h)))
  · unfold start
    show _ = N.length
    rw [List.length_append, List.length_map, List.length_replicate]
    omega
theorem fn_of {CX : CXT} {P : Program} {w : World} {K : PySem.W.Frag} {mg : Str → Option Value} {base : Heap} {k : Nat} {f : Addr} {name qual : Str} {params : Arguments} {body : List Stmt} {scope : Scope} {dV kV doc pm cdv ct oc : Value} {an od : Option Addr}
    {osl : Array (Option Value)} {N ps : List Str} {sp : Sp} (lk : K.lookup f = some ⟨oc, od, .func (PySem.W.fnOf name qual params body scope dV kV doc pm an cdv ct), osl⟩) (hcd : PySem.W.codeIn K cdv qual = true) (S : FnScope N ps scope)
    (len : ∀ vs H Q E, sp vs H Q E → vs.length = ps.length)
    (hbody : ∀ (A : Around) (outer : List Env) (s : Shared) (H : Hp) (vs : List V) (Q : VK) (E : XK), Room k (A.deeper (envOfC qual scope s.heap.objs.size f cdv)) → sp vs H Q E →
      ∃ t, PSs (cxOf CX P w K mg base N qual scope f cdv A outer s H E) body t ∧ t { nx := fun _ H' => Q .non H', rt := Q } (start N vs) H) :
    FnOk P w K mg base CX (k + 1) f (PySem.W.fnOf name qual params body scope dV kV doc pm an cdv ct) ps sp := by
  refine ⟨len, fun A outer s H args us vs Q E hr e0 hb r hsp => ?_⟩
  have hl := len _ _ _ _ hsp
  have KX : K.In s.heap := e0.mod.kin.keeps fun b o e => (e0.bs b o e).1
  have lim : s.heap.NoLimit := e0.mod.nolimit.keeps fun b o e => (e0.bs b o e).1
  have hkind : ∀ y ∈ ps.zip us, scope.names.lookup y.1 = some .local ∨ (scope.names.lookup y.1 = some .cell ∧ ((cellsFrom (s.heap.objs.size + 1) scope.names []).lookup y.1).isSome = true) := fun ⟨n, v⟩ hy => by
    rcases S.par n (List.of_mem_zip hy).1 with q | q
    · exact .inl q
    · exact .inr ⟨q, PySem.W.cellsFrom_some _ _ _ (.inl q)⟩
  refine codeAny_call_function hr.depth (KX _ _ lk) rfl S.co S.gen rfl (PySem.W.codeRec_of KX hcd) (hb _ _ _ _ ?_)
  refine wpAny_newFunctionEnv_cells S.kind hkind fun env he s1 x => ?_
  subst he
  refine ⟨lim.keeps x.toInCall.keep, codeAny_func ?_⟩
  obtain ⟨t, ht, hq⟩ := hbody A outer s H vs Q E (hr.deeper _) hsp
  have I : Inv (cxOf CX P w K mg base N qual scope f cdv A outer s H E) [] (start N vs) H s1 := inv_start S hr.hd e0 hl r x
  refine wpAny_mono (ht [] s1 (start N vs) H _ I hq) (fun fl s' hs => ?_) fun e s' hs => hs
  have fin : ∀ {σ' : St} {H' : Hp} {v : V} {u : Value}, Inv (cxOf CX P w K mg base N qual scope f cdv A outer s H E) [] σ' H' s' → RelV v u → Q v H' → CE outer P w H s Q u s' :=
    fun {σ' H' v u} J rv q => ⟨v, H', J.os, J.bare, J.base, J.hok, rv, q⟩
  cases fl with
  | ret u =>
    obtain ⟨v, σ', H', J, rv, q⟩ := hs
    exact fin J rv q
  | next =>
    obtain ⟨σ', H', J, q⟩ := hs
    exact fin (v := V.non) (u := Value.none) J rfl q
  | brk =>
    obtain ⟨_, _, _, q⟩ := hs
    exact False.elim q
  | cont =>
    obtain ⟨_, _, _, q⟩ := hs
    exact False.elim q
end L2
namespace L2
open PySem PySem.Spec PyProof.Rows
section
variable {X : Cx} {x : Str} {p pos : Pos} {e : Expr} {es : List Expr} {t : TA} {id T : String} {r : List V → Hp → VK → Prop}
def tCB (r : List V → Hp → VK → Prop) (t : TA) : TE := fun σ H Q => t σ H fun vs H1 => r vs H1 Q
theorem pe_callB (hc : CallR X (.builtin id) r) (hg : Gl X x) (hm : X.mg x = none) (hv : bootBuiltins x = some (.builtin id)) (ha : PA X (e :: es) t) (hn : x ≠ "__name__" := by decide) (hdb : (x == ("__debug__" : Str)) = false := by decide)
    (he : starEach (e :: es) X.env = (false, eval e X.env) :: starEach es X.env := by rfl) (hpl : (backTo pos (starEach es X.env)).any (·.1) = false := by rfl) : PE X (.Call (.Name x p) (e :: es) [] pos) (tCB r t) := by
  intro pins s σ H Q I h
  refine wpAny_Call_Name_kw (ld_blt I hg hm hv ?_ hn hdb)
  exact PyProof.Rows.callWith_builtin1 (thn (ha pos pins s σ H _ I h) fun us s1 ⟨vs, H1, I1, r1, q1⟩ => hc pins s1 σ H1 vs us Q I1 r1 q1) he hpl
theorem pe_callTy (hc : CallR X (.type T) r) (hg : Gl X x) (hm : X.mg x = none) (hv : bootBuiltins x = some (.type T)) (ha : PA X (e :: es) t) (hn : x ≠ "__name__" := by decide) (hdb : (x == ("__debug__" : Str)) = false := by decide)
    (he : starEach (e :: es) X.env = (false, eval e X.env) :: starEach es X.env := by rfl) (hpl : (backTo pos (starEach es X.env)).any (·.1) = false := by rfl) : PE X (.Call (.Name x p) (e :: es) [] pos) (tCB r t) := by
  intro pins s σ H Q I h
  refine wpAny_Call_Name_kw (ld_blt I hg hm hv ?_ hn hdb)
  exact PyProof.Rows.callWith_type1 (thn (ha pos pins s σ H _ I h) fun us s1 ⟨vs, H1, I1, r1, q1⟩ => hc pins s1 σ H1 vs us Q I1 r1 q1) he hpl
end
end L2
namespace HT
open PySem PyProof.Rows
section
open PySem.SeqAt
open PySem.AutoSeq1 (wpAny_loadPart')
open PySem.MeetsSeq PySem.MeetsSeq2 PySem.MeetsSeq3
end
section
variable {prog : Program} {w : World} {A : Around} {E : Value → Shared → Prop} {s : Shared}
def sIx (n d : Nat) : Option Int → Nat
  | none => d
  | some v => if v < 0 then (v + (n : Int)).toNat else min v.toNat n
theorem sIx_none (n d : Nat) : sIx n d none = d := rfl
theorem sIx_nat (n d k : Nat) : sIx n d (some (k : Int)) = min k n := by
  show (if (k : Int) < 0 then ((k : Int) + (n : Int)).toNat else min (k : Int).toNat n) = min k n
  rw [if_neg (by omega), Int.toNat_natCast]
end
end HT
namespace L2
open PySem PySem.Spec PyProof.Rows
abbrev TO := St → Hp → (Option Int → Hp → Prop) → Prop
def PO (X : Cx) (e : Option Expr) (t : TO) : Prop :=
  ∀ (pins : List (Addr × Obj)) (s : Shared) (σ : St) (H : Hp) (Q : Option Int → Hp → Prop), Inv X pins σ H s → t σ H Q →
    wpAny (model X.prog X.w) X.A (evalPart e X.env) (fun u s' => ∃ o H', Inv X pins σ H' s' ∧ IsPart u o ∧ Q o H') X.xe s
def tNoPart : TO := fun _ H Q => Q none H
def tPart (t : TE) : TO := fun σ H Q => t σ H fun x H1 => ∃ i, x = .int i ∧ Q (some i) H1
section
variable {X : Cx} {e : Expr} {te : TE} {lo hi : Option Expr} {tl th : TO} {pos p2 : Pos}
theorem po_none : PO X none tNoPart := by
  intro pins s σ H Q I h
  rw [evalPart_none]
  exact wpAny_pure ⟨none, H, I, .none, h⟩
theorem po_some (h : PE X e te) : PO X (some e) (tPart te) := by
  intro pins s σ H Q I hw
  rw [evalPart_some]
  refine thn (h pins s σ H _ I hw) fun u s1 ⟨x, H1, I1, r1, q1⟩ => ?_
  obtain ⟨i, rfl, q⟩ := q1
  obtain ⟨t, rfl⟩ := r1
  exact ⟨some i, H1, I1, .int i t, q⟩
def SlR (X : Cx) (r : V → Option Int → Option Int → Hp → VK → Prop) : Prop :=
  ∀ (pins : List (Addr × Obj)) (s : Shared) (σ : St) (H : Hp) (x : V) (v vl vu : Value) (lo hi : Option Int) (sl : Addr) (Q : VK), Inv X pins σ H s → RelV x v → s.heap.IsSliceOf sl vl vu .none → IsPart vl lo → IsPart vu hi → r x lo hi H Q →
    ∃ T id, typeLookup (.type T) "__getitem__" = pure (some (.builtin id)) ∧ s.TypeIs v T ∧ wpAny (model X.prog X.w) X.A (getItem v (.ref sl)) (EP X pins σ Q) X.xe s
def tSl (r : V → Option Int → Option Int → Hp → VK → Prop) (te : TE) (tl th : TO) : TE := fun σ H Q => te σ H fun x H1 => tl σ H1 fun l H2 => th σ H2 fun u H3 => r x l u H3 Q
theorem pe_slice {r : V → Option Int → Option Int → Hp → VK → Prop} (hr : SlR X r) (he : PE X e te) (hl : PO X lo tl) (hu : PO X hi th) : PE X (.Subscript e (.Slice lo hi none p2) pos) (tSl r te tl th) := by
  intro pins s σ H Q I h
  refine Subscript_ (thn (he pins s σ H _ I h) fun v s1 ⟨x, H1, I1, r1, q1⟩ => ?_)
  refine wpAny_Slice (thn (hl pins s1 σ H1 _ I1 q1) fun vl s2 ⟨l, H2, I2, pl, q2⟩ => thn (hu pins s2 σ H2 _ I2 q2) fun vu s3 ⟨u, H3, I3, pu, q3⟩ => ?_)
  rw [evalPart_none]
  refine wpAny_pure ?_
  have I4 : Inv X pins σ H3 { s3 with heap := s3.heap.push { cls := .type "slice", data := .fields #[vl, vu, .none] } } := I3.kept (t' := s3.toks) fun b ob q => Heap.get?_push_of_some _ q
  obtain ⟨T, id, hT, ht, hg⟩ := hr pins { s3 with heap := s3.heap.push { cls := .type "slice", data := .fields #[vl, vu, .none] } } σ H3 x v vl vu l u s3.heap.objs.size Q I4 r1 (Heap.IsSliceOf.new ..) pl pu q3
  show wpAny (model X.prog X.w) X.A (subscriptTail e (.Slice lo hi none p2) v (.ref s3.heap.objs.size)) (EP X pins σ Q) X.xe { s3 with heap := s3.heap.push { cls := .type "slice", data := .fields #[vl, vu, .none] } }
  exact tail_any (ops := [.ref s3.heap.objs.size, v]) ht hT hg (by with_unfolding_all rfl)
def cutV (xs : List V) (lo hi : Option Int) : List V := (xs.drop (HT.sIx xs.length 0 lo)).take (HT.sIx xs.length xs.length hi - HT.sIx xs.length 0 lo)
theorem cutV_length (xs : List V) (lo hi : Option Int) : (cutV xs lo hi).length ≤ xs.length := by
  unfold cutV
  rw [List.length_take, List.length_drop]
  omega
end
end L2
namespace L2
open PySem PySem.Spec PyProof.Rows
def ixN (n : Nat) (i : Int) : Option Nat := if 0 ≤ i then (if i < n then some i.toNat else none) else if -(n : Int) ≤ i then some (i + n).toNat else none
def atI {α : Type} (xs : List α) (i : Int) : Option α := (ixN xs.length i).bind fun j => xs[j]?
theorem ixN_seq {n : Nat} {i : Int} {j : Nat} (h : ixN n i = some j) : seqIndex? i n = some j ∧ j < n ∧ -(n : Int) ≤ i ∧ i < n := by
  unfold ixN at h
  by_cases h0 : 0 ≤ i
  · rw [if_pos h0] at h
    by_cases h1 : i < n
    · rw [if_pos h1] at h
      have e : i.toNat = j := Option.some.inj h
      exact ⟨by rw [seqIndex_of h0 h1, e], by omega, by omega, h1⟩
    · rw [if_neg h1] at h; cases h
  · rw [if_neg h0] at h
    by_cases h1 : -(n : Int) ≤ i
    · rw [if_pos h1] at h
      have e : (i + n).toNat = j := Option.some.inj h
      exact ⟨by rw [seqIndex_neg (by omega) h1, e], by omega, h1, by omega⟩
    · rw [if_neg h1] at h; cases h
theorem atI_get {α : Type} {xs : List α} {i : Int} {v : α} (h : atI xs i = some v) : ∃ j, seqIndex? i xs.length = some j ∧ xs[j]? = some v ∧ j < xs.length ∧ -(xs.length : Int) ≤ i ∧ i < xs.length := by
  unfold atI at h
  cases e : ixN xs.length i with
  | none => rw [e] at h; cases h
  | some j =>
    rw [e] at h
    obtain ⟨h1, h2, h3, h4⟩ := ixN_seq e
    exact ⟨j, h1, h, h2, h3, h4⟩
def PlainIx (b : Expr) : Prop := ∀ o i, subscripted b false o i = operate [o, i] (getItem o i)
def IxR (X : Cx) (r : R2) : Prop :=
  ∀ (value slice : Expr) (pins : List (Addr × Obj)) (s : Shared) (σ : St) (H : Hp) (x y : V) (v u : Value) (Q : VK), Inv X pins σ H s → RelV x v → RelV y u → r x y H Q →
    subscripted slice false v u = operate [v, u] (getItem v u) → wpAny (model X.prog X.w) X.A (subscriptTail value slice v u) (EP X pins σ Q) X.xe s
def MtR (X : Cx) (id : String) (r : V → List V → Hp → VK → Prop) : Prop :=
  ∀ (pins : List (Addr × Obj)) (s : Shared) (σ : St) (H : Hp) (x : V) (xs : List V) (v : Value) (us : List Value) (Q : VK), Inv X pins σ H s → RelV x v → Vals xs us → r x xs H Q →
    wpAny (model X.prog X.w) X.A (call (.builtin id) (v :: us)) (EP X pins σ Q) X.xe s
section
variable {X : Cx} {a b : Expr} {ta tb : TE} {pos : Pos}
theorem pe_ix {r : R2} (hr : IxR X r) (ha : PE X a ta) (hb : PE X b tb) (hs : PlainIx b) : PE X (.Subscript a b pos) (tOp r ta tb) := by
  intro pins s σ H Q I h
  exact Subscript_ (binT ha hb I h fun v u s2 x y H2 I2 rx ry q => hr a b pins s2 σ H2 x y v u Q I2 rx ry q (hs _ _))
def rIxL (K : PySem.W.Frag) : R2 := fun x y H Q => ∃ p xs i v, x = .ref p ∧ y = .int i ∧ SqL K H p xs ∧ atI xs i = some v ∧ Q v H
def rIxT (K : PySem.W.Frag) : R2 := fun x y H Q => ∃ p xs i v, x = .ref p ∧ y = .int i ∧ SqT K H p xs ∧ atI xs i = some v ∧ Q v H
theorem ix_list : IxR X (rIxL X.K) := by
  intro value slice pins s σ H x y v u Q I rx ry h hs
  obtain ⟨p, xs, i, z, rfl, rfl, hq, he, q⟩ := h
  cases rx
  obtain ⟨t, rfl⟩ := ry
  obtain ⟨its, r, pl, hz⟩ := I.list hq
  obtain ⟨j, h1, h2, h3, h4, h5⟩ := atI_get he
  obtain ⟨w, ew, rw'⟩ := r.get h2
  have hl := r.length
  have hn := line63
  have fin : EP X pins σ Q w s := ⟨z, H, I, rw', q⟩
  by_cases h0 : 0 ≤ i
  · have hj : i.toNat = j := by
      rw [seqIndex_of h0 h5] at h1
      exact Option.some.inj h1
    exact item_listR pl.isList h0 (by omega) (by rw [hj]; simpa using ew) fin hs
  · have hj : (i + (its.toArray.size : Int)).toNat = j := by
      rw [seqIndex_neg (by omega) h4] at h1
      rw [List.size_toArray, ← hl]
      exact Option.some.inj h1
    exact subscriptTail_builtinR (x := w) pl.isList.typeIs slot_list_getitem.lookup
      (wpAny_getItem_list_neg (Q := fun r s' => r = w ∧ EP X pins σ Q r s') pl.isList (by omega) (by rw [List.size_toArray] <;> omega) (by omega) (by rw [hj]; simpa using ew) ⟨rfl, fin⟩) hs
theorem ix_tup : IxR X (rIxT X.K) := by
  intro value slice pins s σ H x y v u Q I rx ry h hs
  obtain ⟨p, xs, i, z, rfl, rfl, hq, he, q⟩ := h
  cases rx
  obtain ⟨t, rfl⟩ := ry
  obtain ⟨its, r, pl, hz⟩ := I.tuple hq
  obtain ⟨j, h1, h2, h3, h4, h5⟩ := atI_get he
  obtain ⟨w, ew, rw'⟩ := r.get h2
  have hl := r.length
  have hn := line63
  have fin : EP X pins σ Q w s := ⟨z, H, I, rw', q⟩
  exact subscriptTail_builtinR (x := w) pl.typeIs slot_tuple_getitem.lookup
    (getItem_tuple (j := j) (Q := fun r s' => r = w ∧ EP X pins σ Q r s') pl (by omega) (by omega) (by rw [List.size_toArray, ← hl]; exact h1) (by simpa using ew) ⟨rfl, fin⟩) hs
theorem mapSeq_set (its : List Value) (n j : Nat) (u : Value) : Obj.mapSeq (·.setIfInBounds j u) { cls := .type "list", data := .seq its.toArray n } = { cls := .type "list", data := .seq (its.set j u).toArray n } := by
  simp [Obj.mapSeq]
theorem Inv.lst {pins : List (Addr × Obj)} {σ : St} {H : Hp} {s : Shared} {p : Addr} {xs : List V} (I : Inv X pins σ H s) (h : H p = some (.lst xs)) :
    ∃ (its : List Value) (n : Nat), Vals xs its ∧ s.heap.get? p = some { cls := .type "list", data := .seq its.toArray n } ∧ xs.length ≤ sizeLine := by
  obtain ⟨z, its, n, r, e⟩ := I.hok p _ h
  exact ⟨its, n, r, e, z⟩
theorem Inv.lstUpd {pins : List (Addr × Obj)} {σ : St} {H : Hp} {s : Shared} {p : Addr} {xs ys : List V} {its its' : List Value} {n n' : Nat} {f : Obj → Obj} (I : Inv X pins σ H s) (h : H p = some (.lst xs))
    (ho : s.heap.get? p = some { cls := .type "list", data := .seq its.toArray n }) (hf : f { cls := .type "list", data := .seq its.toArray n } = { cls := .type "list", data := .seq its'.toArray n' }) (r : Vals ys its') (hz : ys.length ≤ sizeLine) (t : Nat) :
    Inv X pins σ (upd H p (.lst ys)) { s with heap := s.heap.update p f, toks := t } := by
  have e : (s.heap.update p f).get? p = some { cls := .type "list", data := .seq its'.toArray n' } := by
    rw [Heap.get?_update_self f ho (by rw [hf] <;> rfl), hf]
  refine I.write (x := p) (e := p) (by rw [h]; trivial) (.inl rfl) (fun b u hb q => (Heap.get?_update_other _ _ (Ne.symm hb)).trans q) ⟨_, e⟩ ?_
  exact ⟨hz, its', n', r, e⟩
def rSetL : V → V → V → Hp → (Hp → Prop) → Prop := fun o i v H Q => ∃ p xs k j, o = .ref p ∧ i = .int k ∧ H p = some (.lst xs) ∧ ixN xs.length k = some j ∧ Q (upd H p (.lst (xs.set j v)))
theorem set_list : PSet X rSetL := by
  intro pins s σ H o i v ov iv u Q I ro ri rv h
  obtain ⟨p, xs, k, j, rfl, rfl, hp, hj, q⟩ := h
  cases ro
  obtain ⟨t, rfl⟩ := ri
  obtain ⟨its, n, r, ho, hz⟩ := I.lst hp
  obtain ⟨h1, h2, h3, h4⟩ := ixN_seq hj
  have hl := r.length
  have hn := line63
  have I' : Inv X pins σ (upd H p (.lst (xs.set j v))) { s with heap := s.heap.update p (Obj.mapSeq (·.setIfInBounds j u)) } :=
    I.lstUpd hp ho (mapSeq_set its n j u) (r.set rv j) (by rw [List.length_set]; exact hz) s.toks
  by_cases h0 : 0 ≤ k
  · have hk : k.toNat = j := by
      rw [seqIndex_of h0 h4] at h1
      exact Option.some.inj h1
    exact PySem.W.ki_setAt ho h0 (by omega) (by rw [List.size_toArray, ← hl]; exact h4) (by rw [hk]; exact ⟨_, I', q⟩)
  · have hk : (k + (its.toArray.size : Int)).toNat = j := by
      rw [seqIndex_neg (by omega) h3] at h1
      rw [List.size_toArray, ← hl]
      exact Option.some.inj h1
    exact PySem.W.ki_setBack ho (by omega) (by rw [List.size_toArray, ← hl]; exact h3) (by omega) (by rw [hk]; exact ⟨_, I', q⟩)
theorem slice_bounds (lo hi : Option Int) (n : Nat) : (sliceBounds lo hi none n).1 = ((HT.sIx n 0 lo : Nat) : Int) ∧ (sliceBounds lo hi none n).2.1 = ((HT.sIx n n hi : Nat) : Int) ∧ (sliceBounds lo hi none n).2.2 = 1 := by
  refine ⟨?_, ?_, rfl⟩
  · cases lo with
    | none => simp [sliceBounds, HT.sIx]
    | some i =>
      simp only [sliceBounds, HT.sIx, Option.getD_none, show (1 : Int) > 0 by decide, if_true]
      by_cases h : i < 0
      · simp only [h, if_true] <;> omega
      · simp only [h, if_false] <;> omega
  · cases hi with
    | none => simp [sliceBounds, HT.sIx]
    | some i =>
      simp only [sliceBounds, HT.sIx, Option.getD_none, show (1 : Int) > 0 by decide, if_true]
      by_cases h : i < 0
      · simp only [h, if_true] <;> omega
      · simp only [h, if_false] <;> omega
theorem slicePick_cut (its : List Value) (lo hi : Option Int) : slicePick its.toArray lo hi none = ((its.drop (HT.sIx its.length 0 lo)).take (HT.sIx its.length its.length hi - HT.sIx its.length 0 lo)).toArray := by
  obtain ⟨h1, h2, h3⟩ := slice_bounds lo hi its.toArray.size
  unfold slicePick
  rw [h1, h2, h3]
  simp only [sliceRange_one, pick_run, List.size_toArray] <;> rfl
def rSlL (K : PySem.W.Frag) : V → Option Int → Option Int → Hp → VK → Prop := fun x lo hi H Q => ∃ a xs, x = .ref a ∧ SqL K H a xs ∧ ∀ p, H p = none → Q (.ref p) (upd H p (.lst (cutV xs lo hi)))
theorem sl_list : SlR X (rSlL X.K) := by
  intro pins s σ H x v vl vu lo hi sl Q I rx hs pl pu h
  obtain ⟨a, xs, rfl, hx, q⟩ := h
  cases rx
  obtain ⟨its, r, ht, hz⟩ := I.list hx
  have hlen := r.length
  refine ⟨"list", _, slot_list_getitem.lookup, ht.isList.typeIs, ?_⟩
  refine wpAny_getItem_list_slice ht.isList hs pl pu .none (by simp) ?_ (by rw [List.size_toArray] <;> omega)
  rw [slicePick_cut, ← hlen]
  refine ⟨.ref s.heap.objs.size, _, I.laid (t' := s.toks) (o := .lst (cutV xs lo hi)) (fun b ob q => Heap.get?_push_of_some _ q) (Nat.le_refl _) ?_, rfl, q _ (I.hok.fresh (Nat.le_refl _))⟩
  exact ⟨Nat.le_trans (cutV_length xs lo hi) hz, _, 0, (r.drop (HT.sIx xs.length 0 lo)).take (HT.sIx xs.length xs.length hi - HT.sIx xs.length 0 lo), Heap.get?_push_size _ rfl⟩
def flatV : V → Bool
  | .non => true
  | .bl _ => true
  | .int _ => true
  | .str _ => true
  | _ => false
def eqV : V → V → Bool
  | .non, .non => true
  | .bl a, .bl b => a == b
  | .bl a, .int b => (if a then 1 else 0) == b
  | .int a, .bl b => a == (if b then 1 else 0)
  | .int a, .int b => a == b
  | .str a, .str b => a == b
  | _, _ => false
theorem call_len_seq : CallR X (.builtin "len") (fun xs H Q => ∃ p ys, xs = [.ref p] ∧ (SqL X.K H p ys ∨ SqT X.K H p ys) ∧ Q (.int ys.length) H) := by
  intro pins s σ H xs us Q I r h
  obtain ⟨p, ys, rfl, hq, q⟩ := h
  obtain ⟨u, rfl, rx⟩ := vals1 r
  cases rx
  have hn := line63
  rcases hq with hq | hq
  · obtain ⟨its, r', pl, hz⟩ := I.list hq
    have hlen := r'.length
    exact Calls.call_len_list pl.isList (by simp only [List.size_toArray] <;> omega) ⟨.int ys.length, H, I.tok _, ⟨s.toks + 1, by rw [List.size_toArray, hlen]⟩, q⟩
  · obtain ⟨its, r', pl, hz⟩ := I.tuple hq
    have hlen := r'.length
    exact len_tuple pl (by simp only [List.size_toArray] <;> omega) ⟨.int ys.length, H, I.tok _, ⟨s.toks + 1, by rw [List.size_toArray, hlen]⟩, q⟩
theorem call_list_of : CallR X (.type "list") (fun xs H Q => ∃ p ys, xs = [.ref p] ∧ (SqL X.K H p ys ∨ SqT X.K H p ys) ∧ ∀ l, H l = none → Q (.ref l) (upd H l (.lst ys))) := by
  intro pins s σ H xs us Q I r h
  obtain ⟨p, ys, rfl, hq, q⟩ := h
  obtain ⟨u, rfl, rx⟩ := vals1 r
  cases rx
  have fin : ∀ (its : List Value), Vals ys its → ys.length ≤ sizeLine → ∀ (h' : Heap) (c' : Nat), (∀ b o', s.heap.get? b = some o' → h'.get? b = some o') →
      h'.get? s.heap.objs.size = some { cls := .type "list", dict := none, data := .seq its.toArray c', slots := #[] } → EP X pins σ Q (.ref s.heap.objs.size) { s with heap := h' } := fun its r' hz h' c' kp e =>
    ⟨.ref s.heap.objs.size, _, I.laid (t' := s.toks) kp (Nat.le_refl _) (show ObjOk X.prog X.w _ h' _ (.lst ys) from ⟨hz, its, c', r', e⟩), rfl, q _ (I.hok.fresh (Nat.le_refl _))⟩
  rcases hq with hq | hq
  · obtain ⟨its, r', pl, hz⟩ := I.list hq
    have hlen := r'.length
    obtain ⟨o, ho, hc, n, hd⟩ := pl.isList
    exact call_list_seq p (.inl rfl) ho hc hd (fun h' c' kp e => fin its r' hz h' c' kp e) (by simp only [List.size_toArray] <;> omega)
  · obtain ⟨its, r', pl, hz⟩ := I.tuple hq
    have hlen := r'.length
    obtain ⟨o, ho, hc, n, hd⟩ := pl
    exact call_list_seq p (.inr rfl) ho hc hd (fun h' c' kp e => fin its r' hz h' c' kp e) (by simp only [List.size_toArray] <;> omega)
def tyV (K : PySem.W.Frag) (T : String) (x : V) (H : Hp) : Prop := match x with
  | .str _ => T = "str"
  | .int _ => T = "int"
  | .ref p => (T = "list" ∧ ∃ xs, SqL K H p xs) ∨ (T = "tuple" ∧ ∃ o, K.lookup p = some o ∧ o.cls = .type "tuple" ∧ o.dict = none) ∨
      (T = "dict" ∧ ((∃ kvs, H p = some (.dK kvs)) ∨ ∃ kvs, H p = some (.dT kvs))) ∨ (T = "set" ∧ ∃ S n, H p = some (.set S n))
  | _ => False
theorem tyV_is {pins : List (Addr × Obj)} {σ : St} {H : Hp} {s : Shared} {T : String} {x : V} {v : Value} (I : Inv X pins σ H s) (r : RelV x v) (ty : tyV X.K T x H) :
    s.TypeIs v T ∧ ∀ a, v = .ref a → ∃ ob, s.heap.get? a = some ob ∧ ob.dict = none := by
  cases x with
  | str z =>
    obtain ⟨t, rfl⟩ := r
    cases (show T = "str" from ty)
    exact ⟨typeIs_str s z t, fun _ e => nomatch e⟩
  | int i =>
    obtain ⟨t, rfl⟩ := r
    cases (show T = "int" from ty)
    exact ⟨typeIs_int s i t, fun _ e => nomatch e⟩
  | ref p =>
    cases r
    rcases ty with ⟨rfl, xs, hq⟩ | ⟨rfl, o, hk, hc, hd⟩ | ⟨rfl, hk⟩ | ⟨rfl, S, n, hk⟩
    · obtain ⟨its, _, pl, _⟩ := I.list hq
      refine ⟨pl.isList.typeIs, fun a e => ?_⟩
      cases e
      obtain ⟨o, n, e, c, hd, _⟩ := pl
      exact ⟨o, e, hd⟩
    · refine ⟨⟨o, I.kIn p o hk, hc⟩, fun a e => ?_⟩
      cases e
      exact ⟨o, I.kIn _ o hk, hd⟩
    · have z : ∃ o, s.heap.get? p = some o ∧ o.ExactDict := by
        rcases hk with ⟨kvs, hk⟩ | ⟨kvs, hk⟩
        · obtain ⟨_, _, _, _, o, _, _, e, ex, _⟩ := I.hok p _ hk
          exact ⟨o, e, ex⟩
        · obtain ⟨_, _, _, _, o, _, _, e, ex, _⟩ := I.hok p _ hk
          exact ⟨o, e, ex⟩
      obtain ⟨o, e, ex⟩ := z
      refine ⟨⟨o, e, ex.1⟩, fun a e2 => ?_⟩
      cases e2
      exact ⟨o, e, ex.2.1⟩
    · obtain ⟨o, _, _, _, e, ex, _⟩ := I.hok p _ hk
      refine ⟨⟨o, e, ex.1⟩, fun a e2 => ?_⟩
      cases e2
      exact ⟨o, e, ex.2.1⟩
  | _ => exact False.elim ty
def tBM (K : PySem.W.Frag) (T : String) (r : V → List V → Hp → VK → Prop) (to : TE) (t : TA) : TE := fun σ H Q => to σ H fun x H1 => tyV K T x H1 ∧ t σ H1 fun xs H2 => r x xs H2 Q
variable {o e : Expr} {es : List Expr} {to : TE} {t : TA} {name : Str} {apos cpos : Pos} {T id : String} {r : V → List V → Hp → VK → Prop}
theorem pe_bm (pa : PlainAttrs T) (slot : Slot T name id) (hty : typeOf (.builtin id) = pure (.type "method_descriptor")) (hm : MtR X id r) (ho : PE X o to) (ha : PA X (e :: es) t)
    (hbase : attributeBase o name X.env (eval o X.env) = eval o X.env := by rfl)
    (hfew : ((backTo cpos (starEach (e :: es) X.env)).all (fun x => !x.1) && (backToKw cpos (keywordEach [] X.env)).all (fun x => x.1.isSome)
      && decide ((e :: es).length + ([] : List Keyword).length + (if ([] : List Keyword).isEmpty then 0 else 1) < 30)) = true := by rfl)
    (hline : (apos.endLine == cpos.line) = true := by rfl) (hs : starEach (e :: es) X.env = (false, eval e X.env) :: starEach es X.env := by rfl) (hplain : (backTo cpos (starEach es X.env)).any (·.1) = false := by rfl) :
    PE X (.Call (.Attribute o name apos) (e :: es) [] cpos) (tBM X.K T r to t) := by
  intro pins s σ H Q I h
  refine wpAny_Call_method_late hbase hfew hline rfl (thn (ho pins s σ H _ I h) fun v s1 ⟨x, H1, I1, r1, ty, q1⟩ => ?_)
  obtain ⟨h1, h2⟩ := tyV_is I1 r1 ty
  refine ⟨T, id, pa, slot, hty, h1, h2, ?_⟩
  have hA := ha cpos pins s1 σ H1 _ I1 q1
  rw [hs] at hA ⊢
  refine Calls.callWith_builtin (by show (false || (backTo cpos (starEach es X.env)).any (·.1)) = false; rw [hplain] <;> rfl) (Calls.evalArgs_plain ?_)
  exact thn hA fun us s2 ⟨vs, H2, I2, r2, q2⟩ => hm pins s2 σ H2 x vs v us Q I2 r1 r2 q2
/- xs.append(e), list.index on a module's tuple .. are MtR facts of 06m -/
end
end L2
namespace L2
open PySem PySem.Spec PyProof.Rows
def MtM (X : Cx) (id : String) (r : V → List V → Hp → VK → Prop) : Prop :=
  ∀ (pins : List (Addr × Obj)) (s : Shared) (σ : St) (H : Hp) (x : V) (xs : List V) (v : Value) (us : List Value) (Q : VK), Inv X pins σ H s → RelV x v → Vals xs us → r x xs H Q →
    wpAny (model X.prog X.w) X.A (call (.builtin id) (v :: us)) (EP X pins σ Q) X.xe s
theorem Vals.one : ∀ {x : V} {us : List Value}, Vals [x] us → ∃ u, us = [u] ∧ RelV x u
  | _, _, .cons r .nil => ⟨_, rfl, r⟩
theorem Vals.eraseIdx : ∀ {xs : List V} {us : List Value} (i : Nat), Vals xs us → Vals (xs.eraseIdx i) (us.eraseIdx i)
  | _, _, _, .nil => .nil
  | _, _, 0, .cons _ t => t
  | _, _, i + 1, .cons r t => .cons r (Vals.eraseIdx i t)
theorem Vals.reverse {xs : List V} {us : List Value} (h : Vals xs us) : Vals xs.reverse us.reverse := by
  induction h with
  | nil => exact .nil
  | cons r t ih => rw [List.reverse_cons, List.reverse_cons]; exact Vals.append ih (.cons r .nil)
theorem len_erase {α : Type} : ∀ (l : List α) (i : Nat), (l.eraseIdx i).length ≤ l.length
  | [], _ => Nat.le_refl _
  | _ :: _, 0 => Nat.le_succ _
  | _ :: r, i + 1 => Nat.succ_le_succ (len_erase r i)
section
variable {X : Cx} {pins : List (Addr × Obj)} {σ : St} {H : Hp} {s : Shared} {l b : Addr} {xs ys zs : List V}
theorem Inv.lset {its its' : List Value} {n : Nat} {f : Array Value → Array Value} {t' : Nat} (I : Inv X pins σ H s) (hH : H l = some (.lst xs))
    (e : s.heap.get? l = some { cls := .type "list", data := .seq its.toArray n }) (hf : f its.toArray = its'.toArray) (hv : Vals ys its') (hz : ys.length ≤ sizeLine) :
    Inv X pins σ (upd H l (.lst ys)) { s with heap := s.heap.update l (Obj.mapSeq f), toks := t' } := by
  have q := PySem.IsL.update e f
  rw [hf] at q
  refine I.write (x := l) (e := l) (by rw [hH]; exact trivial) (.inl rfl) (fun b' u hb hu => (Heap.get?_update_other s.heap (Obj.mapSeq f) (Ne.symm hb)).trans hu) ⟨_, q⟩ ?_
  exact ⟨hz, its', _, hv, q⟩
theorem Inv.lnew {its : List Value} {t' : Nat} (I : Inv X pins σ H s) (hv : Vals ys its) (hz : ys.length ≤ sizeLine) :
    Inv X pins σ (upd H s.heap.objs.size (.lst ys)) { s with heap := s.heap.push { cls := .type "list", data := .seq its.toArray }, toks := t' } :=
  I.laid (fun _ _ q => Heap.get?_push_of_some _ q) (Nat.le_refl _) ⟨hz, its, 0, hv, Heap.get?_push_size _ rfl⟩
theorem Inv.fresh (I : Inv X pins σ H s) : H s.heap.objs.size = none := I.hok.fresh (Nat.le_refl _)
theorem Inv.lstM (I : Inv X pins σ H s) (hH : H l = some (.lst xs)) : xs.length ≤ sizeLine ∧ ∃ (its : List Value) (n : Nat), Vals xs its ∧ xs.length = its.length ∧ s.heap.get? l = some { cls := .type "list", data := .seq its.toArray n } := by
  obtain ⟨z, its, n, r, e⟩ := I.hok l _ hH
  exact ⟨z, its, n, r, r.length, e⟩
theorem notLongL {n : Nat} (h : n ≤ sizeLine) : Builtin.List.listTooLong n = false := by
  unfold Builtin.List.listTooLong
  exact decide_eq_false (by omega)
end
section
variable {X : Cx}
def rAppend : V → List V → Hp → VK → Prop := fun x vs H Q => ∃ l xs y, x = .ref l ∧ vs = [y] ∧ H l = some (.lst xs) ∧ xs.length < sizeLine ∧ Q .non (upd H l (.lst (xs ++ [y])))
theorem mt_append : MtM X "list.append" rAppend := by
  intro pins s σ H x vs v us Q I rx rv h
  obtain ⟨l, xs, y, rfl, rfl, hH, hz, q⟩ := h
  cases rx
  obtain ⟨u, rfl, ru⟩ := rv.one
  obtain ⟨z, its, n, r, hl, e⟩ := I.lstM hH
  refine call_meets F.slot_list_append ⟨_, e, rfl⟩ F.entry_list_append (F.args_list_append_2 _ _) (PySem.list_append l its.toArray n u (by rw [List.size_toArray]; omega)) ⟨e, ?_⟩
  refine ⟨.non, _, I.lset (its' := its ++ [u]) hH e (by simp) (r.append (.cons ru .nil)) ?_, rfl, q⟩
  rw [List.length_append, List.length_singleton]
  omega
def rExtend : V → List V → Hp → VK → Prop := fun x vs H Q => ∃ l b xs zs, x = .ref l ∧ vs = [.ref b] ∧ H l = some (.lst xs) ∧ H b = some (.lst zs) ∧ xs.length + zs.length ≤ sizeLine ∧ Q .non (upd H l (.lst (xs ++ zs)))
theorem mt_extend : MtM X "list.extend" rExtend := by
  intro pins s σ H x vs v us Q I rx rv h
  obtain ⟨l, b, xs, zs, rfl, rfl, hH, hB, hz, q⟩ := h
  cases rx
  obtain ⟨u, rfl, ru⟩ := rv.one
  cases ru
  obtain ⟨z, its, n, r, hl, e⟩ := I.lstM hH
  obtain ⟨z2, its2, n2, r2, hl2, e2⟩ := I.lstM hB
  have hsz : its.toArray.size + its2.toArray.size ≤ sizeLine := by rw [List.size_toArray, List.size_toArray]; omega
  have hlong : ¬ (!its.toArray.isEmpty && Builtin.List.listTooLong (its.toArray.size + its2.toArray.size)) = true := by
    rw [notLongL hsz, Bool.and_false]
    exact Bool.false_ne_true
  refine call_meets F.slot_list_extend ⟨_, e, rfl⟩ F.entry_list_extend (F.args_list_extend_2 _ _)
    (AutoSeq1.list_extend_list_list_0 l its.toArray n b its2.toArray n2 hlong (by rw [List.size_toArray]; omega) (by omega)) ⟨e, e2, ?_⟩
  refine ⟨.non, _, I.lset (its' := its ++ its2) hH e (by simp) (r.append r2) ?_, rfl, q⟩
  rw [List.length_append]
  omega
def rPopAt : V → List V → Hp → VK → Prop := fun x vs H Q => ∃ l xs i k y, x = .ref l ∧ vs = [.int i] ∧ H l = some (.lst xs) ∧ -(2 ^ 63) ≤ i ∧ i < 2 ^ 63 ∧ seqIndex? i xs.length = some k ∧ xs[k]? = some y ∧ Q y (upd H l (.lst (xs.eraseIdx k)))
theorem mt_popAt : MtM X "list.pop" rPopAt := by
  intro pins s σ H x vs v us Q I rx rv h
  obtain ⟨l, xs, i, k, y, rfl, rfl, hH, h1, h2, hk, hy, q⟩ := h
  cases rx
  obtain ⟨u, rfl, ru⟩ := rv.one
  obtain ⟨t, rfl⟩ := ru
  obtain ⟨z, its, n, r, hl, e⟩ := I.lstM hH
  obtain ⟨w, hw, rw'⟩ := r.get hy
  refine call_meets F.slot_list_pop ⟨_, e, rfl⟩ F.entry_list_pop (F.args_list_pop_2 _ _)
    (MeetsSeq.list_pop_at l its.toArray n i t k w (fitsIndex_both h1 h2) (by rw [List.size_toArray, ← hl]; exact hk) (by rw [← Array.getElem?_toList]; exact hw) (by rw [List.size_toArray]; omega)) ⟨e, ?_⟩
  refine ⟨y, _, I.lset (its' := its.eraseIdx k) hH e ?_ (r.eraseIdx k) ?_, rw', q⟩
  · show its.toArray.eraseIdxIfInBounds k = (its.eraseIdx k).toArray
    rw [List.eraseIdxIfInBounds_toArray]
  · have := len_erase xs k
    omega
def rCat : R2 := fun x y H Q => ∃ l b xs zs, x = .ref l ∧ y = .ref b ∧ H l = some (.lst xs) ∧ H b = some (.lst zs) ∧ xs.length + zs.length ≤ sizeLine ∧ ∀ p, H p = none → Q (.ref p) (upd H p (.lst (xs ++ zs)))
theorem op_cat : OpR X (binaryOp .Add) rCat := by
  intro pins s σ H x y v u Q I rx ry h
  obtain ⟨l, b, xs, zs, rfl, rfl, hH, hB, hz, q⟩ := h
  cases rx
  cases ry
  obtain ⟨z, its, n, r, hl, e⟩ := I.lstM hH
  obtain ⟨z2, its2, n2, r2, hl2, e2⟩ := I.lstM hB
  refine PySem.P.add_list e e2 ?_ (by rw [List.size_toArray, List.size_toArray]; omega)
  have ea : its.toArray ++ its2.toArray = (its ++ its2).toArray := by simp
  rw [ea]
  exact ⟨.ref _, _, I.lnew (t' := s.toks) (r.append r2) (by rw [List.length_append]; omega), rfl, q _ I.fresh⟩
end
section
variable {prog : Program} {w : World} {A : Around} {E : Value → Shared → Prop} {s : Shared}
end
section
variable {X : Cx}
end
end L2
namespace Att
open PySem PySem.W PySem.Calls PyProof.Rows
theorem ints_of_wellAll {P : Params} {h : Heap} : ∀ (ns : List Int) (vs : List Value), WellAll P h vs (ns.map WData.int) → IntsAre vs ns := by
  intro ns
  induction ns with
  | nil =>
    intro vs w
    rw [List.map_nil] at w
    cases w
    exact .nil
  | cons n ns ih =>
    intro vs w
    rw [List.map_cons] at w
    cases w with
    | cons a b =>
      cases a
      exact .cons _ _ (ih _ b)
theorem script_of {l : OpenLaw} {n : Nat} (hn : l.most = some n) {P : Params} {h : Heap} {args : List WData} {vals : List Value}
    (hpre : l.row.toRowW.claim.pre args = true) (hwl : WellAll P h vals args) :
    ∃ a vs ns, vals = [Value.ref a] ∧ args = [WData.list (ns.map WData.int)] ∧ h.get? a = some { cls := .type "list", data := .seq vs.toArray } ∧ IntsAre vs ns ∧ ns.length ≤ n := by
  have hsh : WShape.hasAll [] args [.list .int] = true := (pre_splitW hpre).1
  have hc : l.pre.holds [] { args := args } = true := (pre_splitW hpre).2
  obtain ⟨d, r, rfl, h1, h2⟩ := hasAllW_cons hsh
  obtain rfl := hasAllW_nil h2
  obtain ⟨xs, rfl, h3⟩ := hasW_list h1
  obtain ⟨ns, rfl⟩ := items_int h3
  have hlen : ns.length ≤ n := by
    unfold OpenLaw.pre at hc
    have h4 : (WTm.not (.lt (.lit (.int (n : Int))) (.len (.arg 0)))).holds [] { args := [.list (ns.map .int)] } = true := by
      have h4 := (holds_andW hc).1
      rw [hn] at h4
      exact h4
    have h5 := condW_of h4 (w_not (w_lt w_lit (w_len_list (w_arg rfl))))
    rw [List.length_map] at h5
    refine Nat.le_of_not_lt fun q => ?_
    have q' : (n : Int) < ((ns.length : Nat) : Int) := by omega
    first
      | (rw [decide_eq_true q'] at h5; exact absurd h5 (by decide))
      | (simp at h5; omega)
  cases hwl with
  | cons w1 w2 =>
    cases w2
    cases w1 with
    | list ho hall => exact ⟨_, _, ns, rfl, rfl, ho, ints_of_wellAll ns _ hall, hlen⟩
theorem post_true (l : OpenLaw) (args : List WData) : l.row.toRowW.claim.post args (.bool true) args = true :=
  postW_of (r := l.row.toRowW) (X := (true == true))
    (show WShape.has [] (.bool true) .bool = true by first | rfl | decide | simp [WShape.has, WShape.arms, WShape.armsAll])
    (show (WTm.eq .res (.lit (.bool true))).value [] { args := args, res := some (.bool true), after := args } = some (.bool (true == true)) from w_eq_bool (w_res rfl) w_lit) rfl
theorem attach_call {l : OpenLaw} {n : Nat} {q : Program} {loose : List Str} {XP : (Str → Option Value) → Heap → Prop} {YP : World → Heap → Prop} {d : DefRec}
    (hn : l.most = some n) (hdf : d.params.defaults = [])
    (call : ∀ (w : World) (s₀ s₁ : Shared) (mg mb : Str → Option Value) (fa : Addr) (o : Obj) (pm cd doc : Value) (a : Addr) (vs : List Value) (ns : List Int),
      Ground q loose [] XP w s₀ mg mb s₁.heap → YP w s₁.heap →
      s₁.heap.get? fa = some o → o.data = .func (docDef d.name d.params d.body d.scope pm cd doc) → s₁.heap.CodeRec cd d.name → mg d.name = some (.ref fa) →
      s₁.heap.get? a = some { cls := .type "list", data := .seq vs.toArray } → IntsAre vs ns → ns.length ≤ n → s₁.gens = #[] →
      codeAny (model l.prog w) callerA (.call (.ref fa) ⟨[.ref a], []⟩) (fun r s' => r = .ok (.ret (.bool true)) ∧ OldK s₁.heap s'.heap ∧ s'.os = s₁.os ∧ AllBare s'.gens) s₁) :
    WalkO q loose XP YP l.row.toRowW d [] (fun f vs => PySem.call f vs) := by
  intro w s₀ s₁ mg mb G Y fa o pm cd doc dV kV ho hd hcd hD hmg hg args vals as hpre hlay hrd hwl hlo
  obtain rfl : dV = .none := Dflts.none hD hdf
  obtain rfl : kV = .none := Dflts.noKw hD
  obtain ⟨a, vs, ns, rfl, rfl, hobj, hints, hlen⟩ := script_of hn hpre hwl
  refine enter_call (codeAny_mono (call w s₀ s₁ mg mb fa o pm cd doc a vs ns G Y ho (fd_plain hd) hcd hmg hobj hints hlen hg) fun r s' hq => ?_)
  obtain ⟨rfl, h2, h3, h4⟩ := hq
  exact ⟨.inl ⟨.bool true, .bool true, [], rfl, fun _ => rfl, .bool true, post_true l _, fun _ => ⟨List.Pairwise.nil, fun _ hm => (nomatch hm)⟩⟩, h2, h3, h4⟩
section
variable {prog : Program} {w : World} {A : Around} {E : Value → Shared → Prop} {s : Shared} {K : Frag}
def ledger (h : Heap) (L d : Addr) : List (Addr × Obj) := (List.range h.objs.size).filterMap fun a => if a = L ∨ a = d then none else (h.get? a).map fun o => (a, o)
end
end Att
namespace L2
open PySem PySem.Spec PyProof.Rows
theorem vals_ints : ∀ {vs : List Value} {ns : List Int}, IntsAre vs ns → Vals (ns.map V.int) vs
  | _, _, .nil => .nil
  | _, _, .cons n t h => .cons ⟨t, rfl⟩ (vals_ints h)
def Only (H : Hp) : Prop := ∀ b, H b = none ∨ ∃ o xs, H b = some (.frz o (.lst xs))
theorem law_call {P : Program} {w : World} {K : PySem.W.Frag} {mg mb : Str → Option Value} {CX : CXT} {k : Nat} {fa a : Addr} {fd : FuncData} {x : Str} {sp : Sp} {s₁ : Shared} {vs : List Value} {ns : List Int}
    (KX : K.In s₁.heap) (hns : s₁.heap.Ns mainGlobals mg) (hb : s₁.heap.Ns builtinsNs mb) (hbb : ∀ x : Str, x ≠ "__name__" → mb x = bootBuiltins x) (hlim : s₁.heap.NoLimit) (hg : s₁.gens = #[])
    (ha : s₁.heap.get? a = some { cls := .type "list", data := .seq vs.toArray }) (hi : IntsAre vs ns) (hl : ns.length ≤ sizeLine) (hr : Room k callerA)
    (F : ∀ base : Heap, K.In base → base.Ns mainGlobals mg → FnOk P w K mg base CX k fa fd [x] sp) (hbind : ∀ (s : Shared) (u : Value), BindsTo s fd ⟨[u], []⟩ [(x, u)])
    (hsp : ∀ H : Hp, Only H → SqL K H a (ns.map V.int) → sp [.ref a] H (fun v _ => v = .bl true) fun _ _ _ => False)
    (hCX : ∀ H e s', CX [] H s₁ (fun _ _ _ => False) e s' → False) :
    codeAny (model P w) callerA (.call (.ref fa) ⟨[.ref a], []⟩) (fun r s' => r = .ok (.ret (.bool true)) ∧ OldK s₁.heap s'.heap ∧ s'.os = s₁.os ∧ AllBare s'.gens) s₁ := by
  have rv := vals_ints hi
  have lenV := hi.length
  have core : ∀ H : Hp, Only H → SqL K H a (ns.map V.int) → HOk P w H s₁.heap → (∀ b, H b ≠ none → b = a) → (H a ≠ none → K.lookup a = none) →
      codeAny (model P w) callerA (.call (.ref fa) ⟨[.ref a], []⟩) (fun r s' => r = .ok (.ret (.bool true)) ∧ OldK s₁.heap s'.heap ∧ s'.os = s₁.os ∧ AllBare s'.gens) s₁ := by
    intro H hO hS hok hA hK
    have base_of : ∀ {b : Addr} {o : Obj}, s₁.heap.get? b = some o → H b = none → (hidT s₁.heap H).get? b = some o := fun e n => hidT_get e n
    have noA : ∀ {b : Addr} {o : Obj} {es : Array DictEntry} {ep : Nat}, s₁.heap.get? b = some o → o.data = .dict es ep → H b = none := fun {b o es ep} e d => by
      cases q : H b with
      | none => rfl
      | some u =>
        have e' : b = a := hA b (by rw [q]; simp)
        subst e'
        rw [ha] at e; cases e
        have d' : Data.seq vs.toArray _ = Data.dict es ep := d
        cases d'
    have nsK : ∀ {b : Addr} {m : Str → Option Value}, s₁.heap.Ns b m → (hidT s₁.heap H).Ns b m := fun {b m} ⟨o, es, ep, e, d, r⟩ => ⟨o, es, ep, base_of e (noA e d), d, r⟩
    have hKb : K.In (hidT s₁.heap H) := fun b o e => base_of (KX b o e) (by
      cases q : H b with
      | none => rfl
      | some u =>
        have e' : b = a := hA b (by rw [q]; simp)
        subst e'
        rw [hK (by rw [q]; simp)] at e; cases e)
    have hM : Mod K mg (hidT s₁.heap H) := ⟨hKb, nsK hns, ⟨mb, nsK hb, hbb⟩, let ⟨mc, h1, h2⟩ := hlim; ⟨mc, nsK h1, h2⟩⟩
    have e0 : Env0 P w K mg (hidT s₁.heap H) callerA [] s₁ H := ⟨rfl, hM, fun b o e => of_hidT e, Nat.le_of_eq (hidT_size _ _), trivial, fun b hb => absurd (show b ∈ ([] : List Addr) from hb) (by simp), hok, .of_eq hg⟩
    refine codeAny_mono ((F _ hKb (nsK hns)).run callerA [] s₁ H ⟨[.ref a], []⟩ [.ref a] [.ref a] _ _ hr e0 (hbind s₁ (.ref a)) (.cons rfl .nil) (hsp H hO hS)) fun r s' h => ?_
    cases r with
    | error e => exact (hCX H e s' h).elim
    | ok fl =>
      cases fl with
      | next => exact False.elim h
      | brk => exact False.elim h
      | cont => exact False.elim h
      | ret u =>
        obtain ⟨v, H', os, bare, un, hok', r', q⟩ := h
        have q' : v = .bl true := q
        subst q'
        obtain rfl : u = Value.bool true := r'
        refine ⟨rfl, OldK.of_keep fun b o e => ?_, os, bare⟩
        cases q : H b with
        | none => exact un.keep b o e q (by intro z; exact absurd (show b ∈ ([] : List Addr) from z) (by simp)) (by simp)
        | some u =>
          rcases hO b with z | ⟨ob, xs, z⟩
          · rw [q] at z; cases z
          · have z2 := un.frzs b ob _ z
            obtain ⟨e1, _⟩ := hok b _ z
            obtain ⟨e2, _⟩ := hok' b _ z2
            rw [e] at e1; cases e1
            exact e2
  cases hk : K.lookup a with
  | some o =>
    have e := KX a o hk
    rw [ha] at e
    cases e
    refine core (fun _ => none) (fun _ => .inl rfl) (.inr ⟨_, vs.toArray, _, hk, rfl, rfl, rfl, by rw [List.size_toArray, lenV]; exact hl, by simpa using rv⟩) (fun b u z => by have z' : (none : Option HO) = some u := z; cases z') (fun b z => absurd rfl z) fun z => absurd rfl z
  | none =>
    refine core (fun b => if b = a then some (.frz { cls := .type "list", data := .seq vs.toArray } (.lst (ns.map V.int))) else none) (fun b => ?_) (.inl (.inr ⟨{ cls := .type "list", data := .seq vs.toArray }, if_pos rfl⟩)) (fun b u z => ?_) (fun b z => ?_) fun _ => hk
    · by_cases hb : b = a
      · exact .inr ⟨_, _, if_pos hb⟩
      · exact .inl (if_neg hb)
    · by_cases hb : b = a
      · have z' := (if_pos hb).symm.trans z
        cases z'
        subst hb
        exact ⟨ha, by rw [List.length_map]; exact hl, vs, _, rv, ha⟩
      · have z' := (if_neg hb).symm.trans z
        cases z'
    · by_cases hb : b = a
      · exact hb
      · exact absurd (if_neg hb) z
end L2
namespace L2
open PySem PySem.Spec PyProof.Rows
theorem walk_of {l : PySem.W.OpenLaw} {n k : Nat} {q : Program} {loose : List Str} {XP : (Str → Option Value) → Heap → Prop} {YP : World → Heap → Prop} {d : DefRec} {K : Params → PySem.W.Frag} {CX : World → CXT} {sp : World → Sp} {x : Str}
    (hn : l.most = some n) (hn2 : n ≤ sizeLine) (hdf : d.params.defaults = []) (hr : Room k callerA)
    (hY : ∀ (w : World) (h : Heap), YP w h → (K w.params).In h)
    (F : ∀ (w : World) (mg : Str → Option Value) (fa : Addr) (h : Heap), (K w.params).In h → h.Ns mainGlobals mg → mg d.name = some (.ref fa) →
      ∃ fd : FuncData, (∀ (s : Shared) (u : Value), BindsTo s fd ⟨[u], []⟩ [(x, u)]) ∧
        ∀ base : Heap, (K w.params).In base → base.Ns mainGlobals mg → FnOk l.prog w (K w.params) mg base (CX w) k fa fd [x] (sp w))
    (hsp : ∀ (w : World) (H : Hp) (a : Addr) (ns : List Int), ns.length ≤ n → Only H → SqL (K w.params) H a (ns.map V.int) → sp w [.ref a] H (fun v _ => v = .bl true) fun _ _ _ => False)
    (hCX : ∀ (w : World) (H : Hp) (s : Shared) (e : Value) (s' : Shared), CX w [] H s (fun _ _ _ => False) e s' → False) :
    PySem.W.WalkO q loose XP YP l.row.toRowW d [] (fun f vs => PySem.call f vs) := by
  refine Att.attach_call hn hdf fun w s₀ s₁ mg mb fa o pm cd doc a vs ns G Y ho hd hcd hmg hobj hints hlen hg => ?_
  have KX := hY w _ Y
  obtain ⟨fd, hb, hF⟩ := F w mg fa _ KX G.T.g hmg
  exact law_call KX G.T.g G.T.b G.T.builtins G.T.nolimit hg hobj hints (Nat.le_trans hlen hn2) hr hF hb (fun H hO hS => hsp w H a ns hlen hO hS) fun H e s' => hCX w H s₁ e s'
end L2
/- THE LAST THEOREM (shape; LID, My.* are yours):
   My.Adr: a structure of the addresses that your layer names (classes, functions); My.Txt K t: a structure (Prop) of the equations over K;
   My.txt_mk : {K} {implicit addresses ..} (e1 : nsIn K mainGlobals "law" = some (some (.ref f))) (e2 : K.lookup f = some ⟨oc, od, .func (fnOf "law" "law" params body scope dV kV doc pm an cdv ct), sl⟩) (e3 : codeIn K cdv "law" = true) .. : ∃ t, My.Txt K t
set_option maxRecDepth 100000 in
set_option maxHeartbeats 0 in
theorem PySem.Challenge.cw_LID_holds : PySem.Challenge.rw_LID.Holds := by
  w_on; o_law; k_head; (case hw => w_witness2)
  k_fill
  refine L2.walk_of (l := PySem.Challenge.rw_LID) (n := 63) (k := 40) (x := "script") (CX := fun w => ..) (sp := fun _ => My.sp_law) rfl (by decide) rfl ⟨rfl, by decide, by decide⟩ (fun w h Y => PySem.W.kIn_of Y) ?F ?S ?C
  case F =>
    intro w mg fa h KX G hmg
    have T : ∃ t, My.Txt (L2.KOf KX) t := by
      dsimp only [L2.KOf]                          -- K must stand as «<heap const> w.params» for k_is
      refine' My.txt_mk ?e1 ?e2 ?e3 ..
      (case e1 => PySem.W.k_is)                    -- in the order: a name -> its address -> its object -> its parts
      (case e2 => PySem.W.k_is)
      ..
    obtain ⟨t, T⟩ := T
    have e0 := hmg.symm.trans (PySem.W.mg_of KX G T.law)
    cases e0                                       -- fa is the law's own address
    exact ⟨_, fun s u => .of_eq rfl, fun base kb nb => My.law_fn T kb nb⟩     -- if «.of_eq rfl» comes too early: refine' ⟨_, ?b, fun base kb nb => My.law_fn T kb nb⟩; exact fun s u => .of_eq rfl
  case S => exact fun w H a ns hl hO hS => ..
  case C => exact ..
(the tactic k_is has no namespace: write k_is) -/
namespace L2
open PySem PySem.Spec PyProof.Rows
def defArgs (s : Stmt) : Arguments := match s with
  | .FunctionDef _ a _ _ _ _ _ _ _ _ => a
  | _ => { posonlyargs := [], args := [], vararg := none, kwonlyargs := [], kw_defaults := [], kwarg := none, defaults := [] }
def defBody (s : Stmt) : List Stmt := match s with
  | .FunctionDef _ _ b _ _ _ _ _ _ _ => b
  | _ => []
def defScope (s : Stmt) : Scope := match s with
  | .FunctionDef _ _ _ _ _ _ sc _ _ _ => sc
  | _ => { kind := .function, names := [], isGenerator := false, isCoroutine := false }
abbrev CX0 : CXT := fun _ _ _ _ _ _ => False
abbrev E0 : XK := fun _ _ _ => False
theorem pass0 {X : Cx} : Passes CX0 X E0 := fun _ _ _ _ _ _ _ h => h.elim
structure Fun (K : PySem.W.Frag) (x qual : Str) (st : Stmt) (f : Addr) (fd : FuncData) : Prop where
  ex : ∃ (oc : Value) (od : Option Addr) (kV doc pm : Value) (an : Option Addr) (cdv ct : Value) (osl : Array (Option Value)),
    fd = PySem.W.fnOf x qual (defArgs st) (defBody st) (defScope st) .none kV doc pm an cdv ct ∧ K.lookup f = some ⟨oc, od, .func fd, osl⟩ ∧ PySem.W.codeIn K cdv qual = true
  kp : PySem.W.keepIn K (.ref f) = true
section
variable {P : Program} {w : World} {K : PySem.W.Frag} {mg : Str → Option Value} {base : Heap}
theorem Fun.ok {x qual : Str} {st : Stmt} {f : Addr} {fd : FuncData} {N ps : List Str} {k : Nat} {sp : Sp} (F : Fun K x qual st f fd) (S : FnScope N ps (defScope st)) (len : ∀ vs H Q E, sp vs H Q E → vs.length = ps.length)
    (hbody : ∀ (cdv : Value) (A : Around) (outer : List Env) (s : Shared) (H : Hp) (vs : List V) (Q : VK) (E : XK), Room k (A.deeper (envOfC qual (defScope st) s.heap.objs.size f cdv)) → sp vs H Q E →
      ∃ t, PSs (cxOf CX0 P w K mg base N qual (defScope st) f cdv A outer s H E).nox (defBody st) t ∧ t { nx := fun _ H' => Q .non H', rt := Q } (start N vs) H) : FnOk P w K mg base CX0 (k + 1) f fd ps sp := by
  obtain ⟨oc, od, kV, doc, pm, an, cdv, ct, osl, rfl, lk, hcd⟩ := F.ex
  refine fn_of lk hcd S len fun A outer s H vs Q E hr hsp => ?_
  obtain ⟨t, h, q⟩ := hbody cdv A outer s H vs Q E hr hsp
  exact ⟨t, h.nox, q⟩
theorem Fun.binds {x qual : Str} {st : Stmt} {f : Addr} {fd : FuncData} {ps : List Str} (F : Fun K x qual st f fd)
    (h : ∀ (kV doc pm : Value) (an : Option Addr) (cdv ct : Value) (us : List Value), us.length = ps.length → bindArgs (PySem.W.fnOf x qual (defArgs st) (defBody st) (defScope st) .none kV doc pm an cdv ct) ⟨us, []⟩ = pure (ps.zip us)) : Binds K fd ps [] := by
  obtain ⟨oc, od, kV, doc, pm, an, cdv, ct, osl, rfl, lk, hcd⟩ := F.ex
  exact .all (h kV doc pm an cdv ct)
theorem fun_mk {x qual : Str} {st : Stmt} {f : Addr} {oc : Value} {od an : Option Addr} {osl : Array (Option Value)} {kV doc pm cdv ct : Value} (l : K.lookup f = some ⟨oc, od, .func (PySem.W.fnOf x qual (defArgs st) (defBody st) (defScope st) .none kV doc pm an cdv ct), osl⟩)
    (c : PySem.W.codeIn K cdv qual = true) (k : PySem.W.keepIn K (.ref f) = true) : Fun K x qual st f (PySem.W.fnOf x qual (defArgs st) (defBody st) (defScope st) .none kV doc pm an cdv ct) := ⟨⟨oc, od, kV, doc, pm, an, cdv, ct, osl, rfl, l, c⟩, k⟩
end
theorem small1000 {n : Nat} (h : n ≤ 1000) : n < sizeLine := Nat.lt_of_le_of_lt h (by decide)
section
variable {X : Cx}
theorem pv (i : Nat) {x : Str} {pos : Pos} (hN : X.N[i]? = some x := by rfl) (hv : Vis X.env.scope x := by first | exact Or.inl rfl | exact Or.inr (Or.inl rfl) | exact Or.inr (Or.inr rfl)) (hd : (x == ("__debug__" : Str)) = false := by decide)
    (hcd : (x == ("__classdict__" : Str)) = false := by decide) : PE X (.Name x pos) (tVar i) := pe_var hN hv hd hcd
end
def Same (H H' : Hp) : Prop := ∀ b o, H b = some o → H' b = some o
theorem Same.refl (H : Hp) : Same H H := fun _ _ h => h
theorem Same.trans {H H1 H2 : Hp} (a : Same H H1) (b : Same H1 H2) : Same H H2 := fun c o h => b c o (a c o h)
theorem Same.free {H H' : Hp} (e : Same H H') {l : Addr} (h : H' l = Option.none) : H l = Option.none := by
  cases q : H l with
  | none => rfl
  | some o =>
    rw [e l o q] at h
    cases h
theorem Same.seq {K : PySem.W.Frag} {H H' : Hp} {a : Addr} {xs : List V} (e : Same H H') (h : SqL K H a xs) : SqL K H' a xs := by
  rcases h with (h | ⟨o, h⟩) | h
  · exact .inl (.inl (e _ _ h))
  · exact .inl (.inr ⟨o, e _ _ h⟩)
  · exact .inr h
end L2
set_option linter.all false
set_option maxRecDepth 100000
namespace L2
open PySem PySem.Spec PyProof.Rows
section
variable {κ : Type} [DecidableEq κ]
def valV (kvs : List (κ × V)) (k : κ) : Option V := (kvs.find? fun kv => decide (kv.1 = k)).map (·.2)
def putK (kvs : List (κ × V)) (k : κ) (v : V) : List (κ × V) :=
  if (kvs.any fun kv => decide (kv.1 = k)) = true then kvs.map (fun kv => if kv.1 = k then (kv.1, v) else kv) else kvs ++ [(k, v)]
theorem valV_pos {p : κ × V} {r : List (κ × V)} {k : κ} (e : p.1 = k) : valV (p :: r) k = some p.2 := by simp [valV, List.find?_cons, e]
theorem valV_neg {p : κ × V} {r : List (κ × V)} {k : κ} (e : ¬ p.1 = k) : valV (p :: r) k = valV r k := by simp [valV, List.find?_cons, e]
theorem RelO.getD {o : Option V} {u : Option Value} {d : V} {d' : Value} (r : RelO o u) (rd : RelV d d') : RelV (o.getD d) (u.getD d') := by
  cases o with
  | none => cases u with
    | none => exact rd
    | some _ => exact (show False from r).elim
  | some _ => cases u with
    | none => exact (show False from r).elim
    | some _ => exact r
theorem KV.val {kvs : List (κ × V)} {vs : List (κ × Value)} (r : KV kvs vs) (k : κ) : RelO (valV kvs k) (valueAt vs k) := by
  unfold KV at r
  induction r with
  | nil => exact True.intro
  | @cons p q ps qs h t ih =>
    obtain ⟨h1, h2⟩ := h
    by_cases e : p.1 = k
    · have e' : q.1 = k := h1.symm.trans e
      have b : valueAt (q :: qs) k = some q.2 := by simp [valueAt, List.find?_cons, e']
      rw [valV_pos e, b]; exact h2
    · have e' : ¬ q.1 = k := fun z => e (h1.trans z)
      have b : valueAt (q :: qs) k = valueAt qs k := by simp [valueAt, List.find?_cons, e']
      rw [valV_neg e, b]; exact ih
theorem KV.any {kvs : List (κ × V)} {vs : List (κ × Value)} (r : KV kvs vs) (k : κ) : (kvs.any fun kv => decide (kv.1 = k)) = vs.any fun kv => decide (kv.1 = k) := by
  unfold KV at r
  induction r with
  | nil => rfl
  | cons h t ih => rw [List.any_cons, List.any_cons, ih, h.1]
theorem KV.length {kvs : List (κ × V)} {vs : List (κ × Value)} (r : KV kvs vs) : kvs.length = vs.length := Paired.length r
end
abbrev KT (H : Hp) : List (List Key × V) → List (List Key × Addr × Value) → Prop := Paired fun p q => p.1 = q.1 ∧ H q.2.1 = some (.tup (p.1.map kV)) ∧ RelV p.2 q.2.2
theorem KT.val {H : Hp} {kvs : List (List Key × V)} {xs : List (List Key × Addr × Value)} (r : KT H kvs xs) (k : List Key) : RelO (valV kvs k) ((atKey xs k).map (·.2)) := by
  induction r with
  | nil => exact True.intro
  | @cons p q ps qs h t ih =>
    obtain ⟨h1, _, h2⟩ := h
    by_cases e : p.1 = k
    · have e' : q.1 = k := h1.symm.trans e
      have b : atKey (q :: qs) k = some q.2 := by simp [atKey, List.find?_cons, e']
      rw [valV_pos e, b]; exact h2
    · have e' : ¬ q.1 = k := fun z => e (h1.trans z)
      have b : atKey (q :: qs) k = atKey qs k := by simp [atKey, List.find?_cons, e']
      rw [valV_neg e, b]; exact ih
section
variable {P : Program} {w : World} {H : Hp} {h : Heap} {a : Addr}
end
def DGet (H : Hp) (a : Addr) (y : V) (r : Option V) : Prop :=
  (∃ kvs k, Rd H a (.dK kvs) ∧ y = kV k ∧ r = valV kvs k) ∨ ∃ kvs k b, Rd H a (.dT kvs) ∧ y = .ref b ∧ H b = some (.tup (k.map kV)) ∧ r = valV kvs k
def DPut (H : Hp) (a : Addr) (y v : V) (H' : Hp) : Prop :=
  (∃ kvs k, H a = some (.dK kvs) ∧ y = kV k ∧ kvs.length < sizeLine ∧ H' = upd H a (.dK (putK kvs k v))) ∨
  ∃ kvs k b, H a = some (.dT kvs) ∧ y = .ref b ∧ H b = some (.tup (k.map kV)) ∧ kvs.length < sizeLine ∧ H' = upd H a (.dT (putK kvs k v))
theorem DGet.t {H : Hp} {a b : Addr} {kvs : List (List Key × V)} {k : List Key} (e : H a = some (.dT kvs)) (eb : H b = some (.tup (k.map kV))) : DGet H a (.ref b) (valV kvs k) := .inr ⟨kvs, k, b, .inl e, rfl, eb, rfl⟩
theorem DPut.t {H : Hp} {a b : Addr} {kvs : List (List Key × V)} {k : List Key} {v : V} (e : H a = some (.dT kvs)) (eb : H b = some (.tup (k.map kV))) (hl : kvs.length < sizeLine) :
    DPut H a (.ref b) v (upd H a (.dT (putK kvs k v))) := .inr ⟨kvs, k, b, e, rfl, eb, hl, rfl⟩
section
variable {X : Cx} {pins : List (Addr × Obj)} {σ : St} {H : Hp} {s : Shared} {a : Addr} {y v : V} {u r : Value} {o : Option V} {A : Around} {E : Value → Shared → Prop}
end
section
variable {X : Cx} {pins : List (Addr × Obj)} {σ : St} {H : Hp} {s : Shared} {a : Addr} {kvs : List (Key × V)} {k : Key} {u : Value} {A : Around} {E : Value → Shared → Prop}
end
section
variable {X : Cx} {o i e value : Expr} {pos pos' tpos : Pos} {td ty tv : TE}
end
section
variable {X : Cx} {pos : Pos}
end
section
variable {X : Cx} {pins : List (Addr × Obj)} {σ : St} {H : Hp} {s : Shared} {a : Addr} {y d : V} {u r : Value} {o : Option V} {A : Around} {E : Value → Shared → Prop}
end
section
variable {X : Cx} {o e f : Expr} {apos cpos : Pos} {td ty tx : TE}
end
section
variable {X : Cx} {pins : List (Addr × Obj)} {σ : St} {H : Hp} {s : Shared} {a : Addr} {kvs : List (Key × V)} {A : Around} {E : Value → Shared → Prop}
end
section
variable {X : Cx} {pins : List (Addr × Obj)} {σ : St} {H : Hp} {s : Shared} {a : Addr} {y : V} {u : Value} {A : Around} {E : Value → Shared → Prop}
end
end L2
set_option Elab.async false
set_option linter.all false
set_option maxRecDepth 100000
set_option maxHeartbeats 4000000
namespace L2
open PySem PySem.Spec PyProof.Rows
def caps (σ : St) (idx : List Nat) : St := idx.map fun i => (σ[i]?).getD none
def cbase (k : Nat) (idx : List Nat) (σ : St) : St := List.replicate k none ++ caps σ idx
section
variable {prog : Program} {w : World} {A : Around} {R : Result → Shared → Prop} {s : Shared}
end
section
variable {X : Cx} {pins : List (Addr × Obj)} {σ : St} {H : Hp} {s2 : Shared} {scope : Scope} {tn cap : List Str} {idx : List Nat} {fp : List Addr}
def GSet (k : Nat) (g : TG) : Prop := ∀ x σ H Q, g x σ H Q → g x σ H fun σ2 H2 => Q σ2 H2 ∧ σ2.length = σ.length ∧ ∀ j, k ≤ j → σ2[j]? = σ[j]?
end
section
variable {X : Cx} {scope : Scope} {tn cap : List Str} {idx : List Nat}
end
end L2
set_option Elab.async false
set_option linter.all false
set_option maxRecDepth 100000
set_option maxHeartbeats 4000000
namespace L2
open PySem PySem.Spec PyProof.Rows
inductive D where
  | non | bl (b : Bool) | int (i : Int) | str (x : Str) | lst (ds : List D) | tup (ds : List D)
mutual
def Rf (H : Hp) : D → V → List Addr → Prop
  | .non, v, fp => v = .non ∧ fp = []
  | .bl b, v, fp => v = .bl b ∧ fp = []
  | .int i, v, fp => v = .int i ∧ fp = []
  | .str x, v, fp => v = .str x ∧ fp = []
  | .lst ds, v, fp => ∃ a xs fq, v = .ref a ∧ H a = some (.lst xs) ∧ fp = a :: fq ∧ Rfs H ds xs fq
  | .tup ds, v, fp => ∃ a xs, v = .ref a ∧ H a = some (.tup xs) ∧ Rfs H ds xs fp
def Rfs (H : Hp) : List D → List V → List Addr → Prop
  | [], xs, fp => xs = [] ∧ fp = []
  | d :: ds, xs, fp => ∃ x r f1 f2, xs = x :: r ∧ fp = f1 ++ f2 ∧ Rf H d x f1 ∧ Rfs H ds r f2
end
def Rp (H : Hp) (d : D) (v : V) : Prop := ∃ fp, Rf H d v fp
mutual
theorem Rf.mono {H H' : Hp} : ∀ {d : D} {v : V} {fp : List Addr}, Rf H d v fp → (∀ a ∈ fp, ∀ o, H a = some o → H' a = some o) → (∀ a xs, H a = some (.tup xs) → H' a = some (.tup xs)) → Rf H' d v fp
  | .non, _, _, h, _, _ => h
  | .bl _, _, _, h, _, _ => h
  | .int _, _, _, h, _, _ => h
  | .str _, _, _, h, _, _ => h
  | .lst ds, v, fp, h, k, t => by
    obtain ⟨a, xs, fq, e1, e2, e3, h⟩ := h
    subst e3
    exact ⟨a, xs, fq, e1, k a List.mem_cons_self _ e2, rfl, Rfs.mono h (fun b hb => k b (List.mem_cons_of_mem _ hb)) t⟩
  | .tup ds, v, fp, h, k, t => by
    obtain ⟨a, xs, e1, e2, h⟩ := h
    exact ⟨a, xs, e1, t a xs e2, Rfs.mono h k t⟩
theorem Rfs.mono {H H' : Hp} : ∀ {ds : List D} {vs : List V} {fp : List Addr}, Rfs H ds vs fp → (∀ a ∈ fp, ∀ o, H a = some o → H' a = some o) → (∀ a xs, H a = some (.tup xs) → H' a = some (.tup xs)) → Rfs H' ds vs fp
  | [], _, _, h, _, _ => h
  | d :: ds, vs, fp, h, k, t => by
    obtain ⟨x, r, f1, f2, e1, e2, h1, h2⟩ := h
    subst e2
    exact ⟨x, r, f1, f2, e1, rfl, Rf.mono h1 (fun b hb => k b (List.mem_append_left _ hb)) t, Rfs.mono h2 (fun b hb => k b (List.mem_append_right _ hb)) t⟩
end
mutual
theorem Rf.dom {H : Hp} : ∀ {d : D} {v : V} {fp : List Addr}, Rf H d v fp → ∀ a ∈ fp, ∃ xs, H a = some (.lst xs)
  | .non, _, _, h, a, ha => by obtain ⟨_, rfl⟩ := h; nomatch ha
  | .bl _, _, _, h, a, ha => by obtain ⟨_, rfl⟩ := h; nomatch ha
  | .int _, _, _, h, a, ha => by obtain ⟨_, rfl⟩ := h; nomatch ha
  | .str _, _, _, h, a, ha => by obtain ⟨_, rfl⟩ := h; nomatch ha
  | .lst ds, v, fp, h, b, hb => by
    obtain ⟨a, xs, fq, e1, e2, e3, h⟩ := h
    subst e3
    rcases List.mem_cons.mp hb with e | hb
    · subst e; exact ⟨xs, e2⟩
    · exact Rfs.dom h b hb
  | .tup ds, v, fp, h, b, hb => by
    obtain ⟨a, xs, e1, e2, h⟩ := h
    exact Rfs.dom h b hb
theorem Rfs.dom {H : Hp} : ∀ {ds : List D} {vs : List V} {fp : List Addr}, Rfs H ds vs fp → ∀ a ∈ fp, ∃ xs, H a = some (.lst xs)
  | [], _, _, h, a, ha => by obtain ⟨_, rfl⟩ := h; nomatch ha
  | d :: ds, vs, fp, h, b, hb => by
    obtain ⟨x, r, f1, f2, e1, e2, h1, h2⟩ := h
    subst e2
    rcases List.mem_append.mp hb with hb | hb
    · exact Rf.dom h1 b hb
    · exact Rfs.dom h2 b hb
end
theorem Rf.upd {H : Hp} {d : D} {v : V} {fp : List Addr} {l : Addr} {o : HO} (h : Rf H d v fp) (hl : l ∉ fp) (hm : ∀ xs, H l ≠ some (.tup xs)) : Rf (upd H l o) d v fp :=
  h.mono (fun a ha u e => by rw [upd_ne (fun z => hl (by rw [← z]; exact ha))]; exact e) fun a xs e => by rw [upd_ne (fun z => hm xs (by rw [← z]; exact e))]; exact e
theorem Rfs.length {H : Hp} : ∀ {ds : List D} {vs : List V} {fp : List Addr}, Rfs H ds vs fp → vs.length = ds.length
  | [], _, _, h => by obtain ⟨rfl, _⟩ := h; rfl
  | d :: ds, vs, fp, h => by
    obtain ⟨x, r, f1, f2, e1, e2, h1, h2⟩ := h
    subst e1
    rw [List.length_cons, List.length_cons, Rfs.length h2]
theorem Rfs.append {H : Hp} : ∀ {ds es : List D} {vs ws : List V} {fp fq : List Addr}, Rfs H ds vs fp → Rfs H es ws fq → Rfs H (ds ++ es) (vs ++ ws) (fp ++ fq)
  | [], es, vs, ws, fp, fq, h, h' => by obtain ⟨rfl, rfl⟩ := h; exact h'
  | d :: ds, es, vs, ws, fp, fq, h, h' => by
    obtain ⟨x, r, f1, f2, rfl, rfl, h1, h2⟩ := h
    exact ⟨x, r ++ ws, f1, f2 ++ fq, rfl, List.append_assoc .., h1, Rfs.append h2 h'⟩
theorem Rfs.get {H : Hp} : ∀ {ds : List D} {vs : List V} {fp : List Addr} {i : Nat} {d : D}, Rfs H ds vs fp → ds[i]? = some d → ∃ v f, vs[i]? = some v ∧ Rf H d v f ∧ (∀ a ∈ f, a ∈ fp)
  | [], _, _, _, _, _, e => by simp at e
  | d :: ds, vs, fp, 0, d', h, e => by
    obtain ⟨x, r, f1, f2, rfl, rfl, h1, h2⟩ := h
    simp at e; subst e
    exact ⟨x, f1, rfl, h1, fun a ha => List.mem_append_left _ ha⟩
  | d :: ds, vs, fp, i + 1, d', h, e => by
    obtain ⟨x, r, f1, f2, rfl, rfl, h1, h2⟩ := h
    obtain ⟨v, f, e1, h3, k⟩ := Rfs.get (i := i) h2 (by simpa using e)
    exact ⟨v, f, by simpa using e1, h3, fun a ha => List.mem_append_right _ (k a ha)⟩
abbrev dI (xs : List Int) : D := .lst (xs.map D.int)
abbrev dT (t : List (List Int)) : D := .lst (t.map dI)
theorem Rfs.ints {H : Hp} : ∀ {xs : List Int} {vs : List V} {fp : List Addr}, Rfs H (xs.map D.int) vs fp ↔ vs = xs.map V.int ∧ fp = []
  | [], vs, fp => Iff.rfl
  | x :: xs, vs, fp => by
    constructor
    · rintro ⟨y, r, f1, f2, rfl, rfl, ⟨rfl, rfl⟩, h⟩
      obtain ⟨rfl, rfl⟩ := Rfs.ints.mp h
      exact ⟨rfl, rfl⟩
    · rintro ⟨rfl, rfl⟩
      exact ⟨_, _, [], [], rfl, rfl, ⟨rfl, rfl⟩, Rfs.ints.mpr ⟨rfl, rfl⟩⟩
theorem Rf.row {H : Hp} {xs : List Int} {v : V} {fp : List Addr} : Rf H (dI xs) v fp ↔ ∃ a, v = .ref a ∧ H a = some (.lst (xs.map V.int)) ∧ fp = [a] := by
  constructor
  · rintro ⟨a, ys, fq, rfl, e, rfl, h⟩
    obtain ⟨rfl, rfl⟩ := Rfs.ints.mp h
    exact ⟨a, rfl, e, rfl⟩
  · rintro ⟨a, rfl, e, rfl⟩
    exact ⟨a, _, [], rfl, e, rfl, Rfs.ints.mpr ⟨rfl, rfl⟩⟩
theorem Rp.row {H : Hp} {xs : List Int} {v : V} : Rp H (dI xs) v ↔ ∃ a, v = .ref a ∧ H a = some (.lst (xs.map V.int)) := by
  constructor
  · rintro ⟨fp, h⟩
    obtain ⟨a, h1, h2, _⟩ := Rf.row.mp h
    exact ⟨a, h1, h2⟩
  · rintro ⟨a, h1, h2⟩
    exact ⟨[a], Rf.row.mpr ⟨a, h1, h2, rfl⟩⟩
inductive Rows (H : Hp) : List (List Int) → List Addr → Prop where
  | nil : Rows H [] []
  | cons {xs : List Int} {t : List (List Int)} {a : Addr} {as : List Addr} : H a = some (.lst (xs.map V.int)) → Rows H t as → Rows H (xs :: t) (a :: as)
theorem Rows.length {H : Hp} {t : List (List Int)} {as : List Addr} (h : Rows H t as) : as.length = t.length := by
  induction h with
  | nil => rfl
  | cons _ _ ih => rw [List.length_cons, List.length_cons, ih]
theorem Rows.get {H : Hp} {t : List (List Int)} {as : List Addr} (h : Rows H t as) : ∀ {i : Nat} {xs : List Int}, t[i]? = some xs → ∃ a, as[i]? = some a ∧ H a = some (.lst (xs.map V.int)) := by
  induction h with
  | nil => intro i xs e; simp at e
  | cons e _ ih =>
    intro i xs q
    cases i with
    | zero => simp at q; subst q; exact ⟨_, rfl, e⟩
    | succ i =>
      obtain ⟨a, h1, h2⟩ := ih (i := i) (by simpa using q)
      exact ⟨a, by simpa using h1, h2⟩
theorem Rows.mono {H H' : Hp} {t : List (List Int)} {as : List Addr} (h : Rows H t as) (k : ∀ a ∈ as, ∀ o, H a = some o → H' a = some o) : Rows H' t as := by
  induction h with
  | nil => exact .nil
  | cons e _ ih => exact .cons (k _ List.mem_cons_self _ e) (ih fun a ha => k a (List.mem_cons_of_mem _ ha))
end L2
set_option Elab.async false
set_option linter.all false
set_option maxRecDepth 100000
set_option maxHeartbeats 4000000
namespace L2
open PySem PySem.Spec PyProof.Rows
section
variable {X : Cx}
theorem call_isinst : CallR X (.builtin "isinstance") (fun xs H Q => ∃ x n t b, xs = [x, .ty n] ∧ TyOf X.K H x t ∧ PySem.W.kitOne X.K t (.type n) = some b ∧ Q (.bl b) H) := by
  intro pins s σ H xs us Q I r h
  obtain ⟨x, n, t, b, rfl, ty, e, q⟩ := h
  obtain ⟨u, w', rfl, rx, rn⟩ := vals2 r
  obtain rfl : w' = Value.type n := rn
  exact isinst_ok I rx ty e fun tk => ⟨.bl b, H, I.tok _, rfl, q⟩
theorem ints_are : ∀ {xs : List Int} {us : List Value}, Vals (xs.map V.int) us → IntsAre us xs
  | [], us, r => by cases r; exact .nil
  | x :: xs, us, r => by
    cases r with
    | cons r rr =>
      obtain ⟨t, rfl⟩ := r
      exact .cons _ _ (ints_are rr)
theorem call_sum (hc : X.calm = true) : CallR X (.builtin "sum") (fun xs H Q => ∃ (a : Addr) (ns : List Int), xs = [.ref a] ∧ SqL X.K H a (ns.map V.int) ∧ Q (.int ns.sum) H) := by
  intro pins s σ H xs us Q I r h
  obtain ⟨a, ns, rfl, hS, q⟩ := h
  obtain ⟨u, rfl, ru⟩ := vals1 r
  obtain rfl : u = Value.ref a := ru
  obtain ⟨its, rv, pl, hz⟩ := I.list hS
  have hi := ints_are rv
  obtain ⟨xs', e⟩ := hi.allInts.items
  have hl : s.heap.IsList a (intItems xs') := by rw [← e]; exact pl.isList
  refine sum_intListG (I.ok.hd hc) hl fun h' tk t' hk => ⟨.int ns.sum, H, I.kept hk, ⟨t', ?_⟩, q⟩
  have e2 : numsOf its.toArray.toList = ns := hi.numsOf
  rw [e, nums_intItems] at e2
  rw [preSum_eq, List.take_of_length_le (by simp), e2]
end
section
variable {X : Cx}
end
mutual
def D.plain : D → Bool
  | .non => true | .bl _ => false | .int _ => true | .str _ => true
  | .lst ds => D.plains ds | .tup ds => D.plains ds
def D.plains : List D → Bool
  | [] => true
  | d :: ds => D.plain d && D.plains ds
end
mutual
def D.depth : D → Nat
  | .lst ds => D.depths ds + 1 | .tup ds => D.depths ds + 1
  | _ => 0
def D.depths : List D → Nat
  | [] => 0
  | d :: ds => max (D.depth d) (D.depths ds)
end
mutual
def D.eqb : D → D → Bool
  | .non, .non => true
  | .int i, .int j => i == j
  | .str i, .str j => i == j
  | .lst a, .lst b => D.eqbs a b
  | .tup a, .tup b => D.eqbs a b
  | _, _ => false
def D.eqbs : List D → List D → Bool
  | [], [] => true
  | a :: as, b :: bs => D.eqb a b && D.eqbs as bs
  | _, _ => false
end
theorem D.eqbs_iff : ∀ {a b : List D}, D.eqbs a b = (decide (a.length = b.length) && (List.range a.length).all fun i => match a[i]?, b[i]? with | some x, some y => D.eqb x y | _, _ => false)
  | [], [] => rfl
  | [], b :: bs => by simp [D.eqbs]
  | a :: as, [] => by simp [D.eqbs]
  | a :: as, b :: bs => by
    rw [D.eqbs, D.eqbs_iff (a := as) (b := bs), List.length_cons, List.range_succ_eq_map, List.all_cons, List.all_map]
    by_cases h : as.length = bs.length
    · simp [h, Function.comp_def]
    · simp [h]
end L2
set_option Elab.async false
set_option linter.all false
set_option maxRecDepth 100000
set_option maxHeartbeats 4000000
namespace L2
open PySem PySem.Spec PyProof.Rows
open PySem.SeqAt
theorem D.plains_get : ∀ {ds : List D} {i : Nat} {d : D}, D.plains ds = true → ds[i]? = some d → d.plain = true
  | [], i, d, _, e => by simp at e
  | c :: ds, 0, d, h, e => by
    simp at e; subst e
    rw [D.plains, Bool.and_eq_true] at h
    exact h.1
  | c :: ds, i + 1, d, h, e => by
    rw [D.plains, Bool.and_eq_true] at h
    exact D.plains_get (i := i) h.2 (by simpa using e)
theorem D.depths_get : ∀ {ds : List D} {i : Nat} {d : D}, ds[i]? = some d → d.depth ≤ D.depths ds
  | [], i, d, e => by simp at e
  | c :: ds, 0, d, e => by
    simp at e; subst e
    rw [D.depths]
    exact Nat.le_max_left _ _
  | c :: ds, i + 1, d, e => by
    rw [D.depths]
    exact Nat.le_trans (D.depths_get (i := i) (by simpa using e)) (Nat.le_max_right _ _)
theorem D.eqbs_all {a b : List D} (hl : a.length = b.length) (f : Nat → Bool) (h : ∀ i x y, a[i]? = some x → b[i]? = some y → f i = D.eqb x y) : D.eqbs a b = (List.range a.length).all f := by
  rw [D.eqbs_iff, decide_eq_true hl, Bool.true_and, Bool.eq_iff_iff]
  simp only [List.all_eq_true, List.mem_range]
  constructor
  · intro q i hi
    have := q i hi
    rw [List.getElem?_eq_getElem hi, List.getElem?_eq_getElem (show i < b.length by omega)] at this
    rw [h i _ _ (List.getElem?_eq_getElem hi) (List.getElem?_eq_getElem (show i < b.length by omega))]
    exact this
  · intro q i hi
    have := q i hi
    rw [h i _ _ (List.getElem?_eq_getElem hi) (List.getElem?_eq_getElem (show i < b.length by omega))] at this
    rw [List.getElem?_eq_getElem hi, List.getElem?_eq_getElem (show i < b.length by omega)]
    exact this
theorem D.eqbs_len {a b : List D} (hl : a.length ≠ b.length) : D.eqbs a b = false := by
  rw [D.eqbs_iff, decide_eq_false hl, Bool.false_and]
theorem eqb_one {H : Hp} : ∀ (n : Nat) (d e : D) (v : V), d.depth ≤ n → Rp H d v → Rp H e v → d.plain = true → D.eqb d e = true := by
  intro n
  induction n with
  | zero =>
    intro d e v hn hd he hp
    obtain ⟨f, hd⟩ := hd
    obtain ⟨g, he⟩ := he
    cases d with
    | non => obtain ⟨rfl, _⟩ := hd; cases e with
      | non => rfl
      | lst ds => obtain ⟨_, _, _, z, _⟩ := he; cases z
      | tup ds => obtain ⟨_, _, z, _⟩ := he; cases z
      | _ => obtain ⟨z, _⟩ := he; cases z
    | bl b => cases hp
    | int i => obtain ⟨rfl, _⟩ := hd; cases e with
      | int j => obtain ⟨z, _⟩ := he; cases z; simp [D.eqb]
      | lst ds => obtain ⟨_, _, _, z, _⟩ := he; cases z
      | tup ds => obtain ⟨_, _, z, _⟩ := he; cases z
      | _ => obtain ⟨z, _⟩ := he; cases z
    | str i => obtain ⟨rfl, _⟩ := hd; cases e with
      | str j => obtain ⟨z, _⟩ := he; cases z; simp [D.eqb]
      | lst ds => obtain ⟨_, _, _, z, _⟩ := he; cases z
      | tup ds => obtain ⟨_, _, z, _⟩ := he; cases z
      | _ => obtain ⟨z, _⟩ := he; cases z
    | lst ds => rw [D.depth] at hn; omega
    | tup ds => rw [D.depth] at hn; omega
  | succ n ih =>
    intro d e v hn hd he hp
    have go : ∀ (ds es : List D) (xs : List V) (f g : List Addr), D.depths ds ≤ n → Rfs H ds xs f → Rfs H es xs g → D.plains ds = true → D.eqbs ds es = true := by
      intro ds es xs f g hn h1 h2 hp
      have l1 := h1.length
      have l2 := h2.length
      rw [D.eqbs_all (by omega) (fun _ => true) (fun i x y e1 e2 => ?_)]
      · simp
      · obtain ⟨v1, f1, q1, r1, _⟩ := h1.get e1
        obtain ⟨v2, f2, q2, r2, _⟩ := h2.get e2
        rw [q1] at q2; cases q2
        exact (ih x y v1 (Nat.le_trans (D.depths_get e1) hn) ⟨_, r1⟩ ⟨_, r2⟩ (D.plains_get hp e1)).symm
    obtain ⟨f, hd⟩ := hd
    obtain ⟨g, he⟩ := he
    cases d with
    | non => obtain ⟨rfl, _⟩ := hd; cases e with
      | non => rfl
      | lst ds => obtain ⟨_, _, _, z, _⟩ := he; cases z
      | tup ds => obtain ⟨_, _, z, _⟩ := he; cases z
      | _ => obtain ⟨z, _⟩ := he; cases z
    | bl b => cases hp
    | int i => obtain ⟨rfl, _⟩ := hd; cases e with
      | int j => obtain ⟨z, _⟩ := he; cases z; simp [D.eqb]
      | lst ds => obtain ⟨_, _, _, z, _⟩ := he; cases z
      | tup ds => obtain ⟨_, _, z, _⟩ := he; cases z
      | _ => obtain ⟨z, _⟩ := he; cases z
    | str i => obtain ⟨rfl, _⟩ := hd; cases e with
      | str j => obtain ⟨z, _⟩ := he; cases z; simp [D.eqb]
      | lst ds => obtain ⟨_, _, _, z, _⟩ := he; cases z
      | tup ds => obtain ⟨_, _, z, _⟩ := he; cases z
      | _ => obtain ⟨z, _⟩ := he; cases z
    | lst ds =>
      obtain ⟨a, xs, fq, rfl, e1, rfl, hd⟩ := hd
      cases e with
      | lst es =>
        obtain ⟨b, ys, gq, z, e2, rfl, he⟩ := he
        cases z
        rw [e1] at e2; cases e2
        rw [D.eqb]
        exact go ds es xs fq gq (by rw [D.depth] at hn; omega) hd he hp
      | tup es =>
        obtain ⟨b, ys, z, e2, he⟩ := he
        cases z
        rw [e1] at e2; cases e2
      | _ => obtain ⟨z, _⟩ := he; cases z
    | tup ds =>
      obtain ⟨a, xs, rfl, e1, hd⟩ := hd
      cases e with
      | tup es =>
        obtain ⟨b, ys, z, e2, he⟩ := he
        cases z
        rw [e1] at e2; cases e2
        rw [D.eqb]
        exact go ds es xs f g (by rw [D.depth] at hn; omega) hd he hp
      | lst es =>
        obtain ⟨b, ys, gq, z, e2, rfl, he⟩ := he
        cases z
        rw [e1] at e2; cases e2
      | _ => obtain ⟨z, _⟩ := he; cases z
theorem eqAt_D {X : Cx} {pins : List (Addr × Obj)} {σ : St} {H : Hp} {s : Shared} (I : Inv X pins σ H s) : ∀ (n : Nat) (d e : D) (x y : V) (u w : Value) (A : Around), d.depth ≤ n → Rp H d x → Rp H e y → RelV x u → RelV y w → d.plain = true → e.plain = true → A.units + n < cLine →
    EqAt A s u w (D.eqb d e) := by
  intro n
  induction n with
  | zero =>
    intro d e x y u w A hn hd he rx ry pd pe hu
    obtain ⟨f, hd⟩ := hd
    obtain ⟨g, he⟩ := he
    have hu' : A.units < cLine := by omega
    cases d with
    | non =>
      obtain ⟨rfl, _⟩ := hd; obtain rfl : u = .none := rx
      cases e with
      | non => obtain ⟨rfl, _⟩ := he; obtain rfl : w = .none := ry; exact EqAt.same _
      | bl b => cases pe
      | int j => obtain ⟨rfl, _⟩ := he; obtain ⟨t, rfl⟩ := ry; exact EqAt.none_int _ _
      | str j => obtain ⟨rfl, _⟩ := he; obtain ⟨t, rfl⟩ := ry; exact EqAt.none_str _ _
      | lst es => obtain ⟨b, ys, gq, rfl, e2, _, he⟩ := he; obtain rfl : w = .ref b := ry; obtain ⟨_, _, pl, _⟩ := I.list (SqL.of e2); exact EqAt.none_list pl.isList hu'
      | tup es => obtain ⟨b, ys, rfl, e2, he⟩ := he; obtain rfl : w = .ref b := ry; obtain ⟨_, _, pl, _⟩ := I.tuple (SqT.of e2); exact EqAt.none_tuple pl hu'
    | bl b => cases pd
    | int i =>
      obtain ⟨rfl, _⟩ := hd; obtain ⟨t0, rfl⟩ := rx
      cases e with
      | non => obtain ⟨rfl, _⟩ := he; obtain rfl : w = .none := ry; exact EqAt.int_none _ _
      | bl b => cases pe
      | int j => obtain ⟨rfl, _⟩ := he; obtain ⟨t, rfl⟩ := ry; exact EqAt.int_int _ _ _ _
      | str j => obtain ⟨rfl, _⟩ := he; obtain ⟨t, rfl⟩ := ry; exact EqAt.int_str _ _ _ _
      | lst es => obtain ⟨b, ys, gq, rfl, e2, _, he⟩ := he; obtain rfl : w = .ref b := ry; obtain ⟨_, _, pl, _⟩ := I.list (SqL.of e2); exact EqAt.int_list _ _ pl.isList hu'
      | tup es => obtain ⟨b, ys, rfl, e2, he⟩ := he; obtain rfl : w = .ref b := ry; obtain ⟨_, _, pl, _⟩ := I.tuple (SqT.of e2); exact EqAt.int_tuple _ _ pl hu'
    | str i =>
      obtain ⟨rfl, _⟩ := hd; obtain ⟨t0, rfl⟩ := rx
      cases e with
      | non => obtain ⟨rfl, _⟩ := he; obtain rfl : w = .none := ry; exact EqAt.str_none _ _
      | bl b => cases pe
      | int j => obtain ⟨rfl, _⟩ := he; obtain ⟨t, rfl⟩ := ry; exact EqAt.str_int _ _ _ _
      | str j => obtain ⟨rfl, _⟩ := he; obtain ⟨t, rfl⟩ := ry; exact EqAt.str_str _ _ _ _
      | lst es => obtain ⟨b, ys, gq, rfl, e2, _, he⟩ := he; obtain rfl : w = .ref b := ry; obtain ⟨_, _, pl, _⟩ := I.list (SqL.of e2); exact EqAt.str_list _ _ pl.isList hu'
      | tup es => obtain ⟨b, ys, rfl, e2, he⟩ := he; obtain rfl : w = .ref b := ry; obtain ⟨_, _, pl, _⟩ := I.tuple (SqT.of e2); exact EqAt.str_tuple _ _ pl hu'
    | lst ds => rw [D.depth] at hn; omega
    | tup ds => rw [D.depth] at hn; omega
  | succ n ih =>
    intro d e x y u w A hn hd he rx ry pd pe hu
    have hu' : A.units < cLine := by omega
    have ud : A.in1.units + n < cLine := by show A.units + 1 + n < cLine; omega
    cases d with
    | non => exact ih _ _ x y u w A (by simp [D.depth]) hd he rx ry pd pe (by omega)
    | bl b => cases pd
    | int i => exact ih _ _ x y u w A (by simp [D.depth]) hd he rx ry pd pe (by omega)
    | str i => exact ih _ _ x y u w A (by simp [D.depth]) hd he rx ry pd pe (by omega)
    | lst ds =>
      have hd0 := hd
      have he0 := he
      obtain ⟨f, a, xs, fq, rfl, e1, rfl, hd⟩ := hd
      obtain rfl : u = .ref a := rx
      obtain ⟨its, rv, pl, hz⟩ := I.list (SqL.of e1)
      obtain ⟨g, he⟩ := he
      cases e with
      | non => obtain ⟨rfl, _⟩ := he; obtain rfl : w = .none := ry; exact EqAt.list_none pl.isList hu'
      | bl b => cases pe
      | int j => obtain ⟨rfl, _⟩ := he; obtain ⟨t, rfl⟩ := ry; exact EqAt.list_int _ _ pl.isList hu'
      | str j => obtain ⟨rfl, _⟩ := he; obtain ⟨t, rfl⟩ := ry; exact EqAt.list_str _ _ pl.isList hu'
      | tup es => obtain ⟨b, ys, rfl, e2, he⟩ := he; obtain rfl : w = .ref b := ry; obtain ⟨_, _, pl2, _⟩ := I.tuple (SqT.of e2); exact EqAt.list_tuple pl.isList pl2 hu'
      | lst es =>
        obtain ⟨b, ys, gq, rfl, e2, rfl, he⟩ := he
        obtain rfl : w = .ref b := ry
        by_cases hab : a = b
        · subst hab
          rw [eqb_one _ _ _ _ (Nat.le_refl _) hd0 he0 pd]
          exact EqAt.same _
        · obtain ⟨its2, rv2, pl2, hz2⟩ := I.list (SqL.of e2)
          refine EqAt.of_refs hab ?_
          have l1 := rv.length
          have l2 := rv2.length
          have m1 := hd.length
          have m2 := he.length
          by_cases hl : ds.length = es.length
          · have key := RcAt.lists (A := A) (e := fun i => match ds[i]?, es[i]? with | some x, some y => D.eqb x y | _, _ => false) pl.isList pl2.isList (by simp; omega) hu' (fun j h1 h2 => by
              have j1 : j < ds.length := by simp at h1; omega
              have j2 : j < es.length := by omega
              simp only [List.getElem?_eq_getElem j1, List.getElem?_eq_getElem j2]
              obtain ⟨v1, f1, q1, r1, _⟩ := hd.get (List.getElem?_eq_getElem j1)
              obtain ⟨v2, f2, q2, r2, _⟩ := he.get (List.getElem?_eq_getElem j2)
              obtain ⟨u1, p1, t1⟩ := rv.get q1
              obtain ⟨u2, p2, t2⟩ := rv2.get q2
              have i1 : its.toArray[j] = u1 := by
                have := List.getElem?_eq_some_iff.mp p1
                obtain ⟨_, z⟩ := this
                simpa using z
              have i2 : its2.toArray[j] = u2 := by
                have := List.getElem?_eq_some_iff.mp p2
                obtain ⟨_, z⟩ := this
                simpa using z
              rw [i1, i2]
              exact ih _ _ v1 v2 u1 u2 A.in1 (by have := D.depths_get (List.getElem?_eq_getElem j1); rw [D.depth] at hn; omega) ⟨_, r1⟩ ⟨_, r2⟩ t1 t2 (D.plains_get pd (List.getElem?_eq_getElem j1)) (D.plains_get pe (List.getElem?_eq_getElem j2)) ud)
            have e3 : D.eqb (.lst ds) (.lst es) = (List.range its.toArray.size).all fun i => match ds[i]?, es[i]? with | some x, some y => D.eqb x y | _, _ => false := by
              rw [D.eqb, D.eqbs_iff, decide_eq_true hl, Bool.true_and]
              rw [show its.toArray.size = ds.length by simp; omega]
              all_goals rfl
            rw [e3]
            exact key
          · rw [D.eqb, D.eqbs_len hl]
            exact RcAt.lists_lengths pl.isList pl2.isList (by simp; omega) hu'
    | tup ds =>
      have hd0 := hd
      have he0 := he
      obtain ⟨f, a, xs, rfl, e1, hd⟩ := hd
      obtain rfl : u = .ref a := rx
      obtain ⟨its, rv, pl, hz⟩ := I.tuple (SqT.of e1)
      obtain ⟨g, he⟩ := he
      cases e with
      | non => obtain ⟨rfl, _⟩ := he; obtain rfl : w = .none := ry; exact EqAt.tuple_none pl hu'
      | bl b => cases pe
      | int j => obtain ⟨rfl, _⟩ := he; obtain ⟨t, rfl⟩ := ry; exact EqAt.tuple_int _ _ pl hu'
      | str j => obtain ⟨rfl, _⟩ := he; obtain ⟨t, rfl⟩ := ry; exact EqAt.tuple_str _ _ pl hu'
      | lst es => obtain ⟨b, ys, gq, rfl, e2, _, he⟩ := he; obtain rfl : w = .ref b := ry; obtain ⟨_, _, pl2, _⟩ := I.list (SqL.of e2); exact EqAt.tuple_list pl pl2.isList hu'
      | tup es =>
        obtain ⟨b, ys, rfl, e2, he⟩ := he
        obtain rfl : w = .ref b := ry
        by_cases hab : a = b
        · subst hab
          rw [eqb_one _ _ _ _ (Nat.le_refl _) hd0 he0 pd]
          exact EqAt.same _
        · obtain ⟨its2, rv2, pl2, hz2⟩ := I.tuple (SqT.of e2)
          refine EqAt.of_refs hab ?_
          have l1 := rv.length
          have l2 := rv2.length
          have m1 := hd.length
          have m2 := he.length
          have key := RcAt.tuples (A := A) (e := fun i => match ds[i]?, es[i]? with | some x, some y => D.eqb x y | _, _ => false) pl pl2 hu' (fun j h1 h2 => by
              have j1 : j < ds.length := by simp at h1; omega
              have j2 : j < es.length := by simp at h2; omega
              simp only [List.getElem?_eq_getElem j1, List.getElem?_eq_getElem j2]
              obtain ⟨v1, f1, q1, r1, _⟩ := hd.get (List.getElem?_eq_getElem j1)
              obtain ⟨v2, f2, q2, r2, _⟩ := he.get (List.getElem?_eq_getElem j2)
              obtain ⟨u1, p1, t1⟩ := rv.get q1
              obtain ⟨u2, p2, t2⟩ := rv2.get q2
              have i1 : its.toArray[j] = u1 := by
                have := List.getElem?_eq_some_iff.mp p1
                obtain ⟨_, z⟩ := this
                simpa using z
              have i2 : its2.toArray[j] = u2 := by
                have := List.getElem?_eq_some_iff.mp p2
                obtain ⟨_, z⟩ := this
                simpa using z
              rw [i1, i2]
              exact ih _ _ v1 v2 u1 u2 A.in1 (by have := D.depths_get (List.getElem?_eq_getElem j1); rw [D.depth] at hn; omega) ⟨_, r1⟩ ⟨_, r2⟩ t1 t2 (D.plains_get pd (List.getElem?_eq_getElem j1)) (D.plains_get pe (List.getElem?_eq_getElem j2)) ud)
          have e3 : D.eqb (.tup ds) (.tup es) = ((List.range (min its.toArray.size its2.toArray.size)).all (fun i => match ds[i]?, es[i]? with | some x, some y => D.eqb x y | _, _ => false) && its.toArray.size == its2.toArray.size) := by
            rw [D.eqb]
            have z1 : its.toArray.size = ds.length := by simp; omega
            have z2 : its2.toArray.size = es.length := by simp; omega
            rw [z1, z2]
            by_cases hl : ds.length = es.length
            · rw [D.eqbs_iff, decide_eq_true hl, Bool.true_and, hl, Nat.min_self, beq_self_eq_true, Bool.and_true]
              all_goals rfl
            · rw [D.eqbs_len hl]
              have : (ds.length == es.length) = false := beq_eq_false_iff_ne.mpr hl
              rw [this, Bool.and_false]
          rw [e3]
          exact key
def eqAtI (ds es : List D) (i : Nat) : Bool := match ds[i]?, es[i]? with | some x, some y => D.eqb x y | _, _ => false
theorem items_eq {X : Cx} {pins : List (Addr × Obj)} {σ : St} {H : Hp} {s : Shared} (I : Inv X pins σ H s) {A : Around} {ds es : List D} {xs ys : List V} {f g : List Addr} {its its2 : List Value} (hd : Rfs H ds xs f) (he : Rfs H es ys g) (rv : Vals xs its) (rv2 : Vals ys its2)
    (pd : D.plains ds = true) (pe : D.plains es = true) (hu : A.units + 1 + D.depths ds < cLine) : ∀ j (h1 : j < its.toArray.size) (h2 : j < its2.toArray.size), EqAt A.in1 s its.toArray[j] its2.toArray[j] (eqAtI ds es j) := by
  intro j h1 h2
  have l1 := rv.length
  have l2 := rv2.length
  have m1 := hd.length
  have m2 := he.length
  have j1 : j < ds.length := by simp at h1; omega
  have j2 : j < es.length := by simp at h2; omega
  unfold eqAtI
  simp only [List.getElem?_eq_getElem j1, List.getElem?_eq_getElem j2]
  obtain ⟨v1, f1, q1, r1, _⟩ := hd.get (List.getElem?_eq_getElem j1)
  obtain ⟨v2, f2, q2, r2, _⟩ := he.get (List.getElem?_eq_getElem j2)
  obtain ⟨u1, p1, t1⟩ := rv.get q1
  obtain ⟨u2, p2, t2⟩ := rv2.get q2
  have i1 : its.toArray[j] = u1 := by
    obtain ⟨_, z⟩ := List.getElem?_eq_some_iff.mp p1
    simpa using z
  have i2 : its2.toArray[j] = u2 := by
    obtain ⟨_, z⟩ := List.getElem?_eq_some_iff.mp p2
    simpa using z
  rw [i1, i2]
  exact eqAt_D I _ _ _ v1 v2 u1 u2 A.in1 (D.depths_get (List.getElem?_eq_getElem j1)) ⟨_, r1⟩ ⟨_, r2⟩ t1 t2 (D.plains_get pd (List.getElem?_eq_getElem j1)) (D.plains_get pe (List.getElem?_eq_getElem j2)) hu
theorem eqbs_range {ds es : List D} (hl : ds.length = es.length) : D.eqbs ds es = (List.range ds.length).all (eqAtI ds es) := by
  rw [D.eqbs_iff, decide_eq_true hl, Bool.true_and]
  rfl
section
variable {X : Cx}
def rEqD (neg : Bool) : R2 := fun x y H Q => ∃ ds es, Rp H (.lst ds) x ∧ Rp H (.lst es) y ∧ D.plains ds = true ∧ D.plains es = true ∧ D.depths ds ≤ 60 ∧ Q (.bl (if neg then !D.eqbs ds es else D.eqbs ds es)) H
theorem op_eqL (hu : X.A.units + 64 < cLine) : OpR X (compareOp .Eq) (rEqD false) := by
  intro pins s σ H x y v u Q I rx ry h
  obtain ⟨ds, es, ⟨f, a, xs, fq, rfl, e1, rfl, hd⟩, ⟨g, b, ys, gq, rfl, e2, rfl, he⟩, pd, pe, hdp, q⟩ := h
  obtain rfl : v = .ref a := rx
  obtain rfl : u = .ref b := ry
  obtain ⟨its, rv, pl, hz⟩ := I.list (SqL.of e1)
  obtain ⟨its2, rv2, pl2, hz2⟩ := I.list (SqL.of e2)
  have l1 := rv.length
  have l2 := rv2.length
  have m1 := hd.length
  have m2 := he.length
  by_cases hl : ds.length = es.length
  · refine eq_listAt pl.isList pl2.isList (by simp; omega) (by omega) (items_eq I hd he rv rv2 pd pe (by omega)) (fin_bl I q ?_)
    rw [eqbs_range hl, show its.toArray.size = ds.length by simp; omega]
    all_goals rfl
  · refine eq_list_lengthsAt pl.isList pl2.isList (by simp; omega) (by omega) (fin_bl I q ?_)
    rw [D.eqbs_len hl]
    all_goals rfl
end
theorem D.plains_ints : ∀ (xs : List Int), D.plains (xs.map D.int) = true
  | [] => rfl
  | x :: xs => by rw [List.map_cons, D.plains, D.plains_ints xs]; rfl
theorem D.depths_ints : ∀ (xs : List Int), D.depths (xs.map D.int) = 0
  | [] => rfl
  | x :: xs => by rw [List.map_cons, D.depths, D.depths_ints xs]; rfl
theorem D.eqbs_ints : ∀ (xs ys : List Int), D.eqbs (xs.map D.int) (ys.map D.int) = decide (xs = ys)
  | [], [] => rfl
  | [], y :: ys => rfl
  | x :: xs, [] => rfl
  | x :: xs, y :: ys => by
    rw [List.map_cons, List.map_cons, D.eqbs, D.eqbs_ints xs ys, D.eqb]
    by_cases h : x = y
    · subst h; simp
    · have : (x == y) = false := beq_eq_false_iff_ne.mpr h
      simp [this, h]
def CMulB (i j : Int) : Prop := ∃ m n : Nat, i.natAbs < 2 ^ m ∧ j.natAbs < 2 ^ n ∧ m + n ≤ 100000000
def CDivB (i j : Int) : Prop := 0 < j ∧ ∃ m : Nat, j.natAbs < 2 ^ m ∧ m ≤ 9000
section
variable {X : Cx}
theorem op_mulB : OpR X (binaryOp .Mult) (rI CMulB fun i j => .int (i * j)) := opI fun i j _ _ _ _ _ hc q => by
  obtain ⟨m, n, h1, h2, h3⟩ := hc
  exact mul_int q (mulOk_of_bits (intBits_le h1) (intBits_le h2) (by omega))
theorem op_fdivB : OpR X (binaryOp .FloorDiv) (rI CDivB fun i j => .int (i / j)) := opI fun i j _ _ _ _ _ hc q => by
  obtain ⟨h0, m, h1, h2⟩ := hc
  have hj : j.natAbs ≠ 0 := by omega
  refine floordiv_int (by omega) ?_ (.inl (PyProof.noPylong_of_log2 (Nat.lt_of_lt_of_le ((Nat.log2_lt hj).mpr h1) h2)))
  rw [Int.fdiv_eq_ediv_of_nonneg i (by omega)]
  exact q
end
structure FnAt (K : PySem.W.Frag) (mg : Str → Option Value) (x : Str) (st : Stmt) (ps : List Str) (f : Addr) (fd : FuncData) : Prop where
  fn : Fun K x x st f fd
  mg : mg x = some (.ref f)
  bd : Binds K fd ps []
end L2
set_option linter.all false
set_option maxRecDepth 100000
namespace L2
open PySem PySem.Spec PyProof.Rows
section
variable {X : Cx}
def rEqN : V → V → Hp → VK → Prop := fun x y H Q => rEqD false x y H Q ∨ (x = .non ∧ ∃ b ys, y = .ref b ∧ H b = some (.lst ys) ∧ Q (.bl false) H)
theorem op_eqN (hu : X.A.units + 64 < cLine) : OpR X (compareOp .Eq) rEqN := by
  intro pins s σ H x y v u Q I rx ry h
  rcases h with h | ⟨rfl, b, ys, rfl, hb, q⟩
  · exact op_eqL hu pins s σ H x y v u Q I rx ry h
  · obtain rfl : v = .none := rx
    obtain rfl : u = .ref b := ry
    obtain ⟨its, rv, pl, hz⟩ := I.list (SqL.of hb)
    exact SeqAt.RcAt.none_list pl.isList (by omega) _ _ _ _ (fin_bl I q rfl)
end
end L2
set_option Elab.async false
set_option linter.all false
set_option maxRecDepth 100000
set_option maxHeartbeats 4000000
namespace L2
open PySem PySem.Spec PyProof.Rows
theorem small {n : Nat} (h : n ≤ 100000) : n ≤ sizeLine := Nat.le_trans h (by rw [sizeLine_eq]; decide)
section
variable {X : Cx} {K : PySem.W.Frag}
theorem ix_listK (h : X.K = K) : IxR X (rIxL K) := by subst h; exact ix_list
theorem ix_tupK (h : X.K = K) : IxR X (rIxT K) := by subst h; exact ix_tup
theorem pi_listK {tg l : Expr} {tl : TE} (h : X.K = K) (hl : PE X l tl) : PI X tg l (iList K tl) := by subst h; exact pi_list hl
theorem call_lenK (h : X.K = K) : CallR X (.builtin "len") (fun xs H Q => ∃ p ys, xs = [.ref p] ∧ (SqL K H p ys ∨ SqT K H p ys) ∧ Q (.int ys.length) H) := by subst h; exact call_len_seq
theorem call_isinstK (h : X.K = K) : CallR X (.builtin "isinstance") (fun xs H Q => ∃ x n t b, xs = [x, .ty n] ∧ TyOf K H x t ∧ PySem.W.kitOne K t (.type n) = some b ∧ Q (.bl b) H) := by subst h; exact call_isinst
theorem call_sumK (h : X.K = K) (hc : X.calm = true) : CallR X (.builtin "sum") (fun xs H Q => ∃ (a : Addr) (ns : List Int), xs = [.ref a] ∧ SqL K H a (ns.map V.int) ∧ Q (.int ns.sum) H) := by subst h; exact call_sum hc
theorem call_listK (h : X.K = K) : CallR X (.type "list") (fun xs H Q => ∃ p ys, xs = [.ref p] ∧ (SqL K H p ys ∨ SqT K H p ys) ∧ ∀ l, H l = none → Q (.ref l) (upd H l (.lst ys))) := by subst h; exact call_list_of
theorem sl_listK (h : X.K = K) : SlR X (rSlL K) := by subst h; exact sl_list
theorem pg_tupK {es : List Expr} {k : Nat} {t : TGs} {n : Nat} {pos : Pos} (h : X.K = K) (hc : X.calm = true) (ht : PGs X es t)
    (hn : (assignEach es X.env).length = n := by rfl) (hst : (assignEach es X.env).findIdx? (·.1) = none := by rfl) : PG X (.Tuple es k pos) (gTup K n t) := by subst h; exact pg_tup hc ht hn hst
end
structure SameX (H H' : Hp) (bs : List Addr) : Prop where
  keep : ∀ b o, H b = some o → b ∉ bs → H' b = some o
  there : ∀ b ∈ bs, ∃ xs, H' b = some (.lst xs)
theorem SameX.clear {H H' : Hp} {bs : List Addr} {c : Addr} {xs : List V} (s : SameX H H' bs) (hc : c ∈ bs) : SameX H (L2.upd H' c (.lst xs)) bs :=
  ⟨fun b o e hb => by rw [upd_ne (fun z => hb (by rw [z]; exact hc))]; exact s.keep b o e hb, fun b hb => by
    by_cases z : b = c
    · subst z; exact ⟨_, upd_same⟩
    · rw [upd_ne z]; exact s.there b hb⟩
theorem kit_same {K : PySem.W.Frag} {n : String} : PySem.W.kitOne K (.type n) (.type n) = some true := by unfold PySem.W.kitOne; rw [if_pos (beq_self_eq_true _)]
end L2
set_option Elab.async false
set_option linter.all false
set_option maxRecDepth 100000
set_option maxHeartbeats 4000000
namespace L2
open PySem PySem.Spec PyProof.Rows
def CallRK (X : Cx) (f : Value) (ks : List Str) (r : List V → List V → Hp → VK → Prop) : Prop :=
  ∀ (pins : List (Addr × Obj)) (s : Shared) (σ : St) (H : Hp) (xs zs : List V) (us ws : List Value) (Q : VK), Inv X pins σ H s → Vals xs us → Vals zs ws → r xs zs H Q →
    wpAny (model X.prog X.w) X.A (call f us (ks.zip ws)) (EP X pins σ Q) X.xe s
section
variable {X : Cx} {x : Str} {p pos : Pos} {e : Expr} {es : List Expr} {kws : List Keyword} {t tk : TA} {id : String} {ks : List Str} {r : List V → List V → Hp → VK → Prop}
def tCBK (r : List V → List V → Hp → VK → Prop) (t tk : TA) : TE := fun σ H Q => t σ H fun vs H1 => tk σ H1 fun zs H2 => r vs zs H2 Q
theorem pe_callBK (hc : CallRK X (.builtin id) ks r) (hg : Gl X x) (hm : X.mg x = none) (hv : bootBuiltins x = some (.builtin id)) (ha : PA X (e :: es) t) (hkw : PK X kws tk) (hks : (backToKw pos (keywordEach kws X.env)).filterMap (·.1) = ks := by rfl) (hn : x ≠ "__name__" := by decide) (hdb : (x == ("__debug__" : Str)) = false := by decide)
    (he : backTo pos (starEach (e :: es) X.env) = (false, eval e X.env) :: backTo pos (starEach es X.env) := by rfl) (hplain : (backTo pos (starEach (e :: es) X.env)).any (·.1) = false := by rfl) (hall : (backToKw pos (keywordEach kws X.env)).all (·.1.isSome) = true := by rfl)
    (hkn : (backToKw pos (keywordEach kws X.env)).any (·.1.isNone) = false := by rfl) : PE X (.Call (.Name x p) (e :: es) kws pos) (tCBK r t tk) := by
  intro pins s σ H Q I h
  refine wpAny_Call_Name_kw (ld_blt I hg hm hv ?_ hn hdb)
  refine callWith_kw (thn (ha pos pins s σ H _ I h) fun us s1 ⟨vs, H1, I1, r1, q1⟩ => ?_) he hplain hall hkn
  refine thn (hkw pos pins s1 σ H1 _ I1 q1) fun ws s2 ⟨zs, H2, I2, rz, q2⟩ => ?_
  rw [hks]
  exact hc pins s2 σ H2 vs zs us ws Q I2 r1 rz q2
end
section
variable {X : Cx} {K : PySem.W.Frag}
theorem vals_of_ints : ∀ {us : List Value} {ns : List Int}, IntsAre us ns → Vals (ns.map V.int) us
  | _, _, .nil => .nil
  | _, _, .cons n t h => .cons ⟨t, rfl⟩ (vals_of_ints h)
theorem call_sortedRevK (hK : X.K = K) : CallRK X (.builtin "sorted") ["reverse"] (fun xs zs H Q => ∃ (a : Addr) (ns : List Int) (b : Bool), xs = [.ref a] ∧ zs = [.bl b] ∧ SqL K H a (ns.map V.int) ∧ ns.length < 64 ∧
    ∀ (l : Addr) (ms : List Int), H l = none → ms.Perm ns → Ordered b ms → Q (.ref l) (upd H l (.lst (ms.map V.int)))) := by
  subst hK
  intro pins s σ H xs zs us ws Q I r rz h
  obtain ⟨a, ns, b, rfl, rfl, hS, hz, q⟩ := h
  obtain ⟨u, rfl, ru⟩ := vals1 r
  obtain ⟨u2, rfl, ru2⟩ := vals1 rz
  obtain rfl : u = Value.ref a := ru
  obtain rfl : u2 = Value.bool b := ru2
  obtain ⟨its, rv, pl, _⟩ := I.list hS
  have hl := rv.length
  rw [List.length_map] at hl
  refine sorted_ints_rev pl.isList (ints_are rv) (by omega) fun out ms a1 a2 a3 => ?_
  obtain ⟨n, he⟩ := sortedAll_at s.heap its out
  have hn : H (s.heap.objs.size + 1) = none := I.hok.fresh (Nat.le_succ _)
  have hlm := a2.length_eq
  refine ⟨.ref (s.heap.objs.size + 1), _, I.laid (t' := s.toks) (o := .lst (ms.map V.int)) (fun b o e => sortedAll_old e) (Nat.le_succ _) ⟨?_, out.toList, n, vals_of_ints a1, ?_⟩, rfl, q _ ms hn a2 a3⟩
  · rw [List.length_map]; exact small (by omega)
  · exact he
end
section
variable {prog : Program} {w : World} {A : Around} {E : Value → Shared → Prop} {s : Shared}
end
section
variable {X : Cx} {K : PySem.W.Frag} {e : Expr} {te : TE} {p p2 pos pos2 : Pos}
end
end L2
namespace L2
open PySem PySem.Spec PyProof.Rows
def fall (ns : List Int) : List Int := ns.mergeSort fun a b => decide (b ≤ a)
theorem fall_perm (ns : List Int) : (fall ns).Perm ns := List.mergeSort_perm ns _
theorem fall_desc (ns : List Int) : (fall ns).Pairwise (· ≥ ·) := by
  have h := List.pairwise_mergeSort (le := fun a b : Int => decide (b ≤ a)) (fun a b c h1 h2 => by simp only [decide_eq_true_eq] at *; omega) (fun a b => by simp only [Bool.or_eq_true, decide_eq_true_eq]; omega) ns
  exact h.imp fun h => by simpa using h
theorem fall_eq {ms ns : List Int} (hp : ms.Perm ns) (h : ms.Pairwise (· ≥ ·)) : ms = fall ns :=
  (hp.trans (fall_perm ns).symm).eq_of_pairwise (fun x y _ _ h1 h2 => Int.le_antisymm h2 h1) h (fall_desc ns)
theorem fall_length (ns : List Int) : (fall ns).length = ns.length := (fall_perm ns).length_eq
end L2
set_option Elab.async false
set_option linter.all false
set_option maxRecDepth 100000
set_option maxHeartbeats 4000000
namespace L2
open PySem PySem.Spec PyProof.Rows
section
variable {X : Cx} {K : PySem.W.Frag}
end
end L2
namespace L2
open PySem PySem.Spec PyProof.Rows
section
variable {X : Cx} {K : PySem.W.Frag}
end
end L2
namespace L2
open PySem PySem.Spec PyProof.Rows
section
variable {X : Cx}
end
end L2
set_option Elab.async false
set_option linter.all false
set_option maxRecDepth 100000
set_option maxHeartbeats 4000000
namespace L2
open PySem PySem.Spec PyProof.Rows
section
variable {prog : Program} {w : World} {A : Around} {E : Value → Shared → Prop} {s : Shared}
theorem draw_list {it t : Addr} {items : Array Value} (hne : t ≠ it) : ∀ (n i : Nat) (s : Shared) (Q : List Value → Shared → Prop), s.heap.IsListIter it t i → s.heap.IsList t items → i + n ≤ items.size →
    (∀ h', h'.IsListIter it t (i + n) → Heap.SameBut it s.heap h' → Q ((items.toList.drop i).take n) { s with heap := h' }) → wpAny (model prog w) A (draw (.ref it) n) Q E s
  | 0, i, s, Q, hit, _, _, hQ => by
    show wpAny _ _ (pure []) Q E s
    exact wpAny_pure (by simpa using hQ s.heap hit (Heap.SameBut.refl ..))
  | n + 1, i, s, Q, hit, ht, hle, hQ => by
    have hlt : i < items.size := by omega
    show wpAny _ _ (pyNext (.ref it) >>= _) Q E s
    refine wpAny_bind (wpAny_pyNext_list_item hit ht (x := items[i]) (by simp [hlt]) fun h₁ hit₁ hs₁ => ?_)
    have ht₁ : h₁.IsList t items := ht.at fun o e => (hs₁.2 t hne).trans e
    refine wpAny_bind (wpAny_holding (draw_list hne n (i + 1) _ _ hit₁ ht₁ (by omega) fun h₂ hit₂ hs₂ => wpAny_pure ?_))
    have hd : items.toList.drop i = items[i] :: items.toList.drop (i + 1) := by simp [List.drop_eq_getElem_cons, hlt]
    have := hQ h₂ (by rw [show i + (n + 1) = i + 1 + n by omega]; exact hit₂) (hs₁.trans hs₂)
    rw [hd, List.take_succ_cons] at this
    exact this
theorem unpackItems_list {t : Addr} {items : Array Value} {Q : List Value → Shared → Prop} (hh : A.handled = none) (ht : s.heap.IsList t items)
    (hQ : ∀ h', Heap.ExtBut s.heap.objs.size s.heap h' → Q items.toList { s with heap := h' }) : wpAny (model prog w) A (unpackItems (.ref t) items.size none) Q E s := by
  have hlt : t ≠ s.heap.objs.size := by obtain ⟨o, ho, _⟩ := ht; exact Nat.ne_of_lt (Heap.lt_size ho)
  unfold unpackItems
  refine wpAny_bind ?_
  · unfold notIterableAtAll
    refine wpAny_bind (wpAny_specialOf ht.typeIs PySem.F.slot_list_iter.lookup ?_)
    refine wpAny_pure ?_
    simp only [Bool.false_eq_true, if_false]
    refine wpAny_bind (wpAny_holding (wpAny_pyIter_list ht ?_))
    refine wpAny_bind (wpAny_holding (draw_list hlt items.size 0 _ _ ⟨_, Heap.get?_push_size _ rfl, rfl, rfl⟩ (ht.push _) (by omega) fun h₁ hit₁ hs₁ => ?_))
    have hall : List.take items.size (List.drop 0 items.toList) = items.toList := by
      rw [List.drop_zero]; exact List.take_of_length_le (by simp)
    rw [hall]
    rw [if_neg (by simp)]
    have ht₁ : h₁.IsList t items := (ht.push _).at fun o e => (hs₁.2 t hlt).trans e
    refine wpAny_bind (wpAny_holding (wpAny_pyNext_list_end hh hit₁ ht₁ (by simp) fun h₂ he₂ => ?_))
    simp only [Option.isSome_none, Bool.false_eq_true, if_false]
    refine wpAny_pure (hQ h₂ fun b o hb e => he₂ b o hb ((hs₁.2 b hb).trans (Heap.get?_push_of_some _ e)))
theorem assign_Tuple_list {env : Env} {elts : List Expr} {x1} {pos : Pos} {t : Addr} {items : Array Value} {Q : Unit → Shared → Prop} (hh : A.handled = none) (ht : s.heap.IsList t items)
    (hn : (assignEach elts env).length = items.size) (hstar : (assignEach elts env).findIdx? (·.1) = none)
    (h : ∀ h', Heap.ExtBut s.heap.objs.size s.heap h' → wpAny (model prog w) A (assignInOrder ((assignEach elts env).map (·.2)) items.toList) Q E { s with heap := h' }) :
    wpAny (model prog w) A (assign (.Tuple elts x1 pos) env (.ref t)) Q E s := by
  rw [assign_Tuple]
  refine wpAny_bind (wpAny_standAt ?_)
  unfold unpack
  rw [hn, hstar]
  exact wpAny_bind (wpAny_holding (unpackItems_list hh ht h))
end
section
variable {X : Cx} {K : PySem.W.Frag}
def gLst (K : PySem.W.Frag) (n : Nat) (t : TGs) : TG := fun v σ H Q => ∃ a xs, v = .ref a ∧ SqL K H a xs ∧ xs.length = n ∧ t xs σ H Q
theorem pg_lstK {es : List Expr} {k : Nat} {t : TGs} {n : Nat} {pos : Pos} (hK : X.K = K) (hc : X.calm = true) (h : PGs X es t)
    (hn : (assignEach es X.env).length = n := by rfl) (hst : (assignEach es X.env).findIdx? (·.1) = none := by rfl) : PG X (.Tuple es k pos) (gLst K n t) := by
  subst hK
  intro pins s σ H v u Q I r hw
  obtain ⟨a, xs, e1, hq, hl, hw⟩ := hw
  subst e1
  cases r
  obtain ⟨its, rv, ht, hz⟩ := I.list hq
  refine assign_Tuple_list (I.ok.hd hc) ht.isList (by simp [hn, ← hl, rv.length]) hst fun h' hx => ?_
  have I1 : Inv X pins σ H { s with heap := h' } := I.kept (t' := s.toks) fun b o e => hx b o (Nat.ne_of_lt (Heap.lt_size e)) e
  exact h pins _ σ H xs _ Q I1 (by simpa using rv) hw
def GSets (k : Nat) (g : TGs) : Prop := ∀ x σ H Q, g x σ H Q → g x σ H fun σ2 H2 => Q σ2 H2 ∧ σ2.length = σ.length ∧ ∀ j, k ≤ j → σ2[j]? = σ[j]?
theorem GSets.nil {k : Nat} : GSets k gNil := fun x σ H Q q => ⟨q.1, q.2, rfl, fun _ _ => rfl⟩
end
end L2
set_option Elab.async false
set_option linter.all false
set_option maxRecDepth 100000
set_option maxHeartbeats 4000000
namespace L2
open PySem PySem.Spec PyProof.Rows
section
variable {X : Cx}
end
end L2
namespace L2
open PySem PySem.Spec PyProof.Rows
section
variable {X : Cx} {K : PySem.W.Frag}
theorem call_sortedK (hK : X.K = K) : CallR X (.builtin "sorted") (fun xs H Q => ∃ (a : Addr) (ns : List Int), xs = [.ref a] ∧ SqL K H a (ns.map V.int) ∧ ns.length < 64 ∧
    ∀ (l : Addr) (ms : List Int), H l = none → ms.Perm ns → ms.Pairwise (· ≤ ·) → Q (.ref l) (upd H l (.lst (ms.map V.int)))) := by
  subst hK
  intro pins s σ H xs us Q I r h
  obtain ⟨a, ns, rfl, hS, hz, q⟩ := h
  obtain ⟨u, rfl, ru⟩ := vals1 r
  obtain rfl : u = Value.ref a := ru
  obtain ⟨its, rv, pl, _⟩ := I.list hS
  have hl := rv.length
  rw [List.length_map] at hl
  refine sorted_ints pl.isList (ints_are rv) (by omega) fun out ms a1 a2 a3 => ?_
  obtain ⟨n, he⟩ := sortedAll_at s.heap its out
  have hn : H (s.heap.objs.size + 1) = none := I.hok.fresh (Nat.le_succ _)
  have hlm := a2.length_eq
  refine ⟨.ref (s.heap.objs.size + 1), _, I.laid (t' := s.toks) (o := .lst (ms.map V.int)) (fun b o e => sortedAll_old e) (Nat.le_succ _) ⟨?_, out.toList, n, vals_of_ints a1, ?_⟩, rfl, q _ ms hn a2 a3⟩
  · rw [List.length_map]; exact small (by omega)
  · exact he
end
end L2
set_option Elab.async false
set_option linter.all false
set_option maxRecDepth 100000
set_option maxHeartbeats 4000000
namespace L2
open PySem PySem.Spec PyProof.Rows
theorem GSets.cons {i k : Nat} {u : TGs} (h : i < k) (hu : GSets k u) : GSets k (gCons (gName i) u) := fun x σ H Q ⟨v, r, e, q⟩ => ⟨v, r, e, by
  have q2 := hu r (σ.set i (some v)) H Q q
  have e1 : (fun (σ2 : St) (H2 : Hp) => Q σ2 H2 ∧ σ2.length = (σ.set i (some v)).length ∧ ∀ j, k ≤ j → σ2[j]? = (σ.set i (some v))[j]?) = fun σ2 H2 => Q σ2 H2 ∧ σ2.length = σ.length ∧ ∀ j, k ≤ j → σ2[j]? = σ[j]? := by
    funext σ2 H2
    refine propext ⟨fun z => ⟨z.1, by rw [z.2.1, List.length_set], fun j hj => by rw [z.2.2 j hj, List.getElem?_set_ne (by omega)]⟩, fun z => ⟨z.1, by rw [z.2.1, List.length_set], fun j hj => by rw [z.2.2 j hj, List.getElem?_set_ne (by omega)]⟩⟩
  rw [e1] at q2
  exact q2⟩
theorem GSet.tup {K : PySem.W.Frag} {k n : Nat} {u : TGs} (hu : GSets k u) : GSet k (gTup K n u) := fun x σ H Q ⟨a, xs, e, hs, hl, q⟩ => ⟨a, xs, e, hs, hl, hu xs σ H Q q⟩
end L2
set_option linter.all false
set_option maxRecDepth 100000
namespace L2
open PySem PySem.Spec PyProof.Rows
theorem ObjOk.there {P : Program} {w : World} {H : Hp} {h : Heap} {a : Addr} {o : HO} (x : ObjOk P w H h a o) : ∃ ob, h.get? a = some ob := by
  cases o with
  | lst xs => obtain ⟨_, _, _, _, e⟩ := x; exact ⟨_, e⟩
  | tup xs => obtain ⟨_, _, _, ob, e, _⟩ := x; exact ⟨_, e⟩
  | dK kvs => obtain ⟨_, _, _, _, o, _, _, e, _⟩ := x; exact ⟨_, e⟩
  | dT kvs => obtain ⟨_, _, _, _, o, _, _, e, _⟩ := x; exact ⟨_, e⟩
  | set S n => obtain ⟨o, _, _, _, e, _⟩ := x; exact ⟨_, e⟩
  | ins C dx fs => obtain ⟨_, _, _, e, _⟩ := x; exact ⟨_, e⟩
  | own y => exact x
  | xd fs => obtain ⟨_, ⟨_, _, _, e, _⟩, _⟩ := x; exact ⟨_, e⟩
  | rng lo hi => obtain ⟨_, _, _, e⟩ := x; exact ⟨_, e⟩
  | frz ob u => obtain ⟨e, _⟩ := x; exact ⟨_, e⟩
  | tbl ps => exact ⟨_, (show h.get? a = some _ from x)⟩
  | met f y => exact ⟨_, (show h.get? a = some _ from x)⟩
  | ext φ => obtain ⟨_, e, _⟩ := x; exact e
def Fly (h : Heap) (H : Hp) (lo : Heap) (a : Addr) (C : Value) : Prop :=
  (H a = none ∧ lo.get? a = none) ∧ ∃ oe vs a0 T oT ts, h.get? a = some oe ∧ (oe.cls = C ∧ vs[0]? = some a0) ∧ oe.data = .fields vs ∧ vs[1]? = some (.ref T) ∧ T ≠ a ∧ h.get? T = some oT ∧ oT.data = .fields ts ∧ ts[3]? = some .none ∧ H T = none ∧ lo.get? T = none
def FlyN (h : Heap) (H : Hp) (lo : Heap) (a : Addr) (C : Value) : Prop :=
  (H a = none ∧ lo.get? a = none) ∧ ∃ oe vs a0, h.get? a = some oe ∧ (oe.cls = C ∧ vs[0]? = some a0) ∧ oe.data = .fields vs ∧ vs[1]? = some .none
def CXR (P : Program) (w : World) : CXT := fun outer H s E e s' => ∃ (a C : Addr) (H' : Hp), e = .ref a ∧ s'.os = s.os ∧ AllBare s'.gens ∧ Un (frs outer) [] H H' s.heap s'.heap ∧ HOk P w H' s'.heap ∧
  Fly s'.heap H' s.heap a (.ref C) ∧ E (.ref C) none H'
section
variable {P : Program} {w : World} {K : PySem.W.Frag} {mg : Str → Option Value} {base : Heap} {N : List Str} {qual : Str} {scope : Scope} {f : Addr} {cd : Value} {A : Around} {outer : List Env} {s0 : Shared} {H0 : Hp} {E : XK}
variable {pins : List (Addr × Obj)} {σ : St} {H' : Hp} {s' : Shared} {a C : Addr} {h2 : Heap}
theorem left_done {as : List Addr} {a0 : Value} (J : Inv (cxOf (CXR P w) P w K mg base N qual scope f cd A outer s0 H0 E) pins σ H' s')
    (has : ∀ b ∈ as, b ∈ frs (envOfC qual scope s0.heap.objs.size f cd :: outer) ∨ (H' b = none ∧ s0.heap.get? b = none))
    (L : Heap.LeftW (PySem.W.hideAll s'.heap as) (envOfC qual scope s0.heap.objs.size f cd :: outer) a (.ref C) a0 s'.heap h2) (ha : H' a = none ∧ s0.heap.get? a = none) (q : E (.ref C) none H') :
    CXR P w outer H0 s0 E (.ref a) { s' with heap := h2 } := by
  obtain ⟨k1, k2, k3, k4⟩ := L
  have bs : Un (frs outer) [] H0 H' s0.heap s'.heap := J.base
  have keepB : ∀ b o, s'.heap.get? b = some o → b ∉ as → h2.get? b = some o := fun b o e n => k1 b o (PySem.W.hideAll_get _ e n)
  have stf : ∀ b ∈ frs (envOfC qual scope s0.heap.objs.size f cd :: outer), H' b = none := J.stkFree
  have sts : ∀ b ∈ frs (envOfC qual scope s0.heap.objs.size f cd :: outer), b ∈ s0.heap.objs.size :: frs outer := J.stkSub
  have trk : ∀ b u, H' b = some u → b ∉ as := fun b u e z => by
    rcases has b z with z | ⟨z, _⟩
    · rw [stf b z] at e; cases e
    · rw [z] at e; cases e
  have nofld : ∀ b ∈ frs (envOfC qual scope s0.heap.objs.size f cd :: outer), ∃ o, s'.heap.get? b = some o ∧ ∀ vs, o.data ≠ .fields vs := fun b hb => (J.stack.mem hb).2
  refine ⟨a, C, H', rfl, J.os, J.bare, ⟨fun b o e n hb hx => ?_, fun b o e n hb hx => ?_, bs.free, fun b o e hx => ?_, bs.tups, bs.frzs, bs.tbls⟩, fun c o e => ?_, ⟨ha, ?_⟩, q⟩
  · refine keepB b o (bs.keep b o e n hb hx) fun z => ?_
    rcases has b z with z | ⟨_, z⟩
    · rcases List.mem_cons.mp (sts b z) with z | z
      · rw [z] at e; exact absurd (Heap.lt_size e) (Nat.lt_irrefl _)
      · exact hb z
    · rw [z] at e; cases e
  · obtain ⟨sl, e1⟩ := bs.slot b o e n hb hx
    obtain ⟨_, o', e', nf⟩ := J.ok.funs.mem hb
    have e' : s0.heap.get? b = some o' := e'
    rw [e] at e'; cases e'
    obtain ⟨sl2, e2⟩ := k4 b { o with slots := sl } e1 nf
    exact ⟨sl2, e2⟩
  · obtain ⟨o', e1⟩ := bs.there b o e hx
    by_cases z : b ∈ as
    · rcases has b z with z | ⟨_, z⟩
      · obtain ⟨o2, e2, nf⟩ := nofld b z
        obtain ⟨sl, e3⟩ := k4 b o2 e2 nf
        exact ⟨_, e3⟩
      · rw [z] at e; cases e
    · exact ⟨o', keepB b o' e1 z⟩
  · refine (J.hok c o e).stay (fun b u hb q => keepB b u q ?_) (fun _ q => q) fun _ _ q => q
    rcases hb with rfl | hb
    · exact trk _ _ e
    · exact trk _ _ hb
  · obtain ⟨oe, vs, T, oT, ts, g1, g2, g3, g4, g5, g6, g7, g8, g9⟩ := k3
    refine ⟨oe, vs, a0, T, oT, ts, g1, g2, g3, g4, g6, g7, g8, g9, ?_, ?_⟩
    · cases r : H' T with
      | none => rfl
      | some u =>
        obtain ⟨ob, e⟩ := (J.hok T u r).there
        rw [PySem.W.hideAll_get as e (trk T u r)] at g5
        cases g5
    · cases r : s0.heap.get? T with
      | none => rfl
      | some u =>
        obtain ⟨o', e1⟩ := bs.there T u r (fun z => (nomatch z))
        by_cases z : T ∈ as
        · rcases has T z with z | ⟨_, z⟩
          · obtain ⟨_, o2, e2, nf⟩ := k2.mem z
            rw [g7] at e2; cases e2
            exact absurd g8 (nf ts)
          · rw [z] at r; cases r
        · rw [PySem.W.hideAll_get as e1 z] at g5; cases g5
theorem leave_x {H : Hp} {s : Shared} (I : Inv (cxOf (CXR P w) P w K mg base N qual scope f cd A outer s0 H0 E) pins σ H s) (os : s'.os = s.os) (bare : AllBare s'.gens)
    (U : Un (frs (envOfC qual scope s0.heap.objs.size f cd :: outer)) [] H H' s.heap s'.heap) (ok : HOk P w H' s'.heap) (fl : FlyN s'.heap H' s.heap a (.ref C) ∨ Fly s'.heap H' s.heap a (.ref C)) (q : E (.ref C) none H') :
    (cxOf (CXR P w) P w K mg base N qual scope f cd A outer s0 H0 E).xe (.ref a) s' := by
  have J : Inv (cxOf (CXR P w) P w K mg base N qual scope f cd A outer s0 H0 E) pins σ H' s' := I.call' os U ok bare fun b hb => (nomatch hb)
  have up : ∀ b, s.heap.get? b = none → s0.heap.get? b = none := fun b n => by
    cases r : s0.heap.get? b with
    | none => rfl
    | some u =>
      obtain ⟨o', e1⟩ := I.base.there b u r (fun z => (nomatch z))
      rw [n] at e1; cases e1
  have hfr : (A.deeper (envOfC qual scope s0.heap.objs.size f cd)).frames = some (envOfC qual scope s0.heap.objs.size f cd :: outer) := J.ok.frames
  have hst : s'.heap.FunFrames base (envOfC qual scope s0.heap.objs.size f cd :: outer) := J.stack
  have hin : ∀ env ∈ (envOfC qual scope s0.heap.objs.size f cd :: outer), ∀ b, env.frame = some b → b ∈ frs (envOfC qual scope s0.heap.objs.size f cd :: outer) := fun env he b hb => List.mem_filterMap.mpr ⟨env, he, hb⟩
  show wpAny _ _ _ _ _ _
  rcases fl with ⟨⟨na, fa⟩, oe, vs, a0, ge, ⟨gc, g0⟩, gd, g1⟩ | ⟨⟨na, fa⟩, oe, vs, a0, T, oT, ts, ge, gc, gd, g1, g2, g3, g4, g5, nT, fT⟩
  · refine wpAny_leaving_firstW (base := PySem.W.hideAll s'.heap (a :: frs (envOfC qual scope s0.heap.objs.size f cd :: outer))) hfr
      (PySem.W.funFrames_hide hst fun env he b hb => List.mem_cons_of_mem _ (hin env he b hb)) rfl ge (fun b o e => PySem.W.of_hideAll _ e) (PySem.W.hideAll_none _ (List.mem_cons_self ..)) gd g1 g0 fun h2 L => ?_
    rw [gc] at L
    refine left_done J (fun b hb => ?_) L ⟨na, up a fa⟩ q
    rcases List.mem_cons.mp hb with rfl | hb
    · exact .inr ⟨na, up _ fa⟩
    · exact .inl hb
  · refine wpAny_leaving_nextW (a0 := a0) (base := PySem.W.hideAll s'.heap (a :: T :: frs (envOfC qual scope s0.heap.objs.size f cd :: outer))) (cls := .ref C) hfr
      (PySem.W.funFrames_hide hst fun env he b hb => List.mem_cons_of_mem _ (List.mem_cons_of_mem _ (hin env he b hb))) rfl
      ⟨oe, vs, T, oT, ts, ge, gc, gd, g1, PySem.W.hideAll_none _ (List.mem_cons_of_mem _ (List.mem_cons_self ..)), g2, g3, g4, g5⟩ (fun b o e => PySem.W.of_hideAll _ e) (PySem.W.hideAll_none _ (List.mem_cons_self ..)) fun h2 L => ?_
    refine left_done J (fun b hb => ?_) L ⟨na, up a fa⟩ q
    rcases List.mem_cons.mp hb with rfl | hb
    · exact .inr ⟨na, up _ fa⟩
    · rcases List.mem_cons.mp hb with rfl | hb
      · exact .inr ⟨nT, up _ fT⟩
      · exact .inl hb
theorem pass_x : Passes (CXR P w) (cxOf (CXR P w) P w K mg base N qual scope f cd A outer s0 H0 E) E := fun pins σ H s e s' I h => by
  obtain ⟨a, C, H', rfl, os, bare, U, ok, fl, q⟩ := h
  exact leave_x I os bare U ok (.inr fl) q
end
def tRaise (C : Addr) (E : XK) (ta : TA) : TS := fun _ σ H => ta σ H fun vs H1 => vs.length ≤ 1000 ∧ E (.ref C) none H1
def Raises (X : Cx) (C : Addr) (E : XK) : Prop := ∀ (pins : List (Addr × Obj)) (σ : St) (H : Hp) (s : Shared) (h' : Heap) (a : Addr) (us : List Value), Inv X pins σ H s → Heap.MadeExcOf s.heap h' a (.ref C) us → E (.ref C) none H → X.xe (.ref a) { s with heap := h' }
theorem raise_x {P : Program} {w : World} {K : PySem.W.Frag} {mg : Str → Option Value} {base : Heap} {N : List Str} {qual : Str} {scope : Scope} {f : Addr} {cd : Value} {A : Around} {outer : List Env} {s0 : Shared} {H0 : Hp} {E : XK} {C : Addr} :
    Raises (cxOf (CXR P w) P w K mg base N qual scope f cd A outer s0 H0 E) C E := fun pins σ H s h' a us I hx q => by
  obtain ⟨t, ht, _, _⟩ := hx.there
  refine leave_x (s' := { s with heap := h' }) I rfl I.bare (Un.kept hx.keeps) (I.hok.kept hx.keeps) (.inl ⟨⟨?_, hx.new⟩, _, _, _, ht, ⟨rfl, rfl⟩, rfl, rfl⟩) q
  cases r : H a with
  | none => rfl
  | some u =>
    obtain ⟨ob, e⟩ := (I.hok a u r).there
    rw [hx.new] at e; cases e
section
variable {X : Cx} {x : Str} {C : Addr} {bmB : List Value} {B newId initId : String} {E : XK} {e : Expr} {es : List Expr} {ta : TA} {np cpos pos : Pos}
theorem ps_raise (O : OwnCls x C bmB newId X.mg X.base) (FB : ExcBaseFacts B newId initId bmB) (hc : X.calm = true) (hg : Gl X x) (hxe : Raises X C E) (ha : PA X (e :: es) ta) (hdb : (x == ("__debug__" : Str)) = false := by decide)
    (he : starEach (e :: es) X.env = (false, eval e X.env) :: starEach es X.env := by rfl) (hpl : (backTo cpos (starEach es X.env)).any (·.1) = false := by rfl) :
    PS X (.Raise (some (.Call (.Name x np) (e :: es) [] cpos)) none pos) (tRaise C E ta) := by
  intro pins s σ H D I h
  obtain ⟨tl, N, nm, q, bs, hdct, sn, sub, ab, col, dd, k0, k1, k2, k3, k5, mN, hC, hN, hni, T⟩ := O.obj
  refine wpAny_Raise_call_subT (C := C) (nm := nm) (q := q) (N := N) (bs := bs) (bm := tl) (hdct := hdct) (sn := sn) (sub := sub) (ab := ab) (col := col) (dd := dd) (k0 := k0) (k1 := k1) (k2 := k2) (k3 := k3) (k5 := k5)
    FB (mN := mN) (T.hasType FB.hasBase) (I.ok.hd hc) (by rw [he]; show (false || (backTo cpos (starEach es X.env)).any (·.1)) = false; rw [hpl]; rfl) hni (ld_glob I hg O.bound ⟨rfl, ?_⟩ hdb)
  have h1 := ha cpos pins s σ H _ I h
  rw [he] at h1 ⊢
  refine Calls.evalArgs_plain (thn h1 fun us s1 ⟨vs, H1, I1, r, q1, q2⟩ => ?_)
  exact ⟨rfl, by show us.length ≤ _; rw [← r.length]; exact Nat.le_of_lt (small1000 q1), I1.bk _ _ hC, hN.keeps I1.bk, T.keeps I1.bk, fun h' a hx => hxe pins σ H1 s1 h' a us I1 hx q2⟩
end
end L2
set_option linter.all false
set_option maxRecDepth 100000
namespace L2
open PySem PySem.Spec PyProof.Rows
abbrev VB : List Value := [.type "ValueError", .type "Exception", .type "BaseException", .type "object"]
def ExcObj (h : Heap) (C : Addr) (ups : List Addr) : Prop := ∃ N nm q bs hdct sn sub ab col dd k0 k1 k2 k3 k5 mN,
  h.get? C = some (excClassObj nm q C N bs (ups.map Value.ref ++ VB) hdct sn sub ab col dd k0 k1 k2 k3 k5 "ValueError.__new__") ∧ h.Ns N mN ∧ mN "__init__" = none ∧ OwnTail h VB (ups.map Value.ref ++ VB)
theorem ExcObj.keeps {h h' : Heap} {C : Addr} {ups : List Addr} (O : ExcObj h C ups) (hk : ∀ b o, h.get? b = some o → h'.get? b = some o) : ExcObj h' C ups :=
  let ⟨N, nm, q, bs, hdct, sn, sub, ab, col, dd, k0, k1, k2, k3, k5, mN, hC, hN, hni, T⟩ := O
  ⟨N, nm, q, bs, hdct, sn, sub, ab, col, dd, k0, k1, k2, k3, k5, mN, hk _ _ hC, hN.keeps hk, hni, T.keeps hk⟩
theorem ExcObj.own {h : Heap} {C : Addr} {ups : List Addr} {mg : Str → Option Value} {x : Str} (O : ExcObj h C ups) (hm : mg x = some (.ref C)) : OwnCls x C VB "ValueError.__new__" mg h :=
  let ⟨N, nm, q, bs, hdct, sn, sub, ab, col, dd, k0, k1, k2, k3, k5, mN, hC, hN, hni, T⟩ := O
  ⟨hm, _, N, nm, q, bs, hdct, sn, sub, ab, col, dd, k0, k1, k2, k3, k5, mN, hC, hN, hni, T⟩
theorem excMatches_own {M : Model} {A : Around} {E : Value → Shared → Prop} {s : Shared} {C D e : Addr} {ups upD : List Addr} {oe : Obj} {Q : Bool → Shared → Prop} (OC : ExcObj s.heap C ups) (OD : ExcObj s.heap D upD)
    (he : s.heap.get? e = some oe) (hcls : oe.cls = .ref C) (hb : (C :: ups).contains D = true) (hq : Q true s) : wpAny M A (excMatches (.ref e) (.ref D)) Q E s := by
  obtain ⟨h, g, d, t, os⟩ := s
  obtain ⟨N, nm, q, bs, hdct, sn, sub, ab, col, dd, k0, k1, k2, k3, k5, mN, hC, hN, hni, T⟩ := OC
  obtain ⟨N', nm', q', bs', hdct', sn', sub', ab', col', dd', l0, l1, l2, l3, l5, mN', hD, hN', hni', T'⟩ := OD
  have hcB : (Value.ref D :: (upD.map Value.ref ++ VB)).contains (.type "BaseException") = true := by
    rw [List.contains_cons, T'.hasType (b := true) rfl, Bool.or_true]
  have hcC : (Value.ref C :: (ups.map Value.ref ++ VB)).contains (.ref D) = true := by
    rw [List.contains_iff_mem] at hb ⊢
    rcases List.mem_cons.mp hb with rfl | hb
    · exact List.mem_cons_self ..
    · exact List.mem_cons_of_mem _ (List.mem_append_left _ (List.mem_map_of_mem hb))
  have f := tc_notTuple
  unfold excMatches
  repeat (first | (with_reducible refine wpAny_loadPart_at he ?_; rw [hcls]) | with_reducible refine wpAny_loadPart_at hD ?_ | (with_reducible refine wpAny_isSubtype_exc hD ?_; rw [hcB]) | (with_reducible refine wpAny_isSubtype_exc hC ?_; rw [hcC]) | wp_step)
  exact hq
section
variable {X : Cx} {pins : List (Addr × Obj)} {σ : St} {H H' : Hp} {s s' : Shared} {a C : Addr} {a0 : Value} {h : Heap}
theorem inv_flying {T : Addr} (I : Inv X pins σ H s) (os : s'.os = s.os) (bare : AllBare s'.gens) (U : Un (frs X.stack) [] H H' s.heap s'.heap) (ok : HOk X.prog X.w H' s'.heap)
    (na : H' a = none) (fa : s.heap.get? a = none) (nT : H' T = none) (fT : s.heap.get? T = none)
    (hfl : Heap.FlyingW (PySem.W.hideAll s'.heap (a :: T :: frs X.stack)) X.stack a (.ref C) a0 h) (hup : s'.heap.UpToSlots h) :
    ∃ oe, Inv X ((a, oe) :: pins) σ H' { s' with heap := h } ∧ oe.cls = .ref C ∧ h.get? a = some oe := by
  obtain ⟨k1, k2, k3, oe, vs, T', oT, ts, g1, ⟨g2, _⟩, g3, _⟩ := hfl
  have keepB : ∀ b o, s'.heap.get? b = some o → b ≠ a → b ≠ T → b ∉ frs X.stack → h.get? b = some o := fun b o e n1 n2 n3 => k1 b o (PySem.W.hideAll_get _ e fun z => by
    rcases List.mem_cons.mp z with z | z
    · exact n1 z
    · rcases List.mem_cons.mp z with z | z
      · exact n2 z
      · exact n3 z)
  have old : ∀ b o, s.heap.get? b = some o → b ≠ a ∧ b ≠ T := fun b o e => ⟨fun z => (by rw [z, fa] at e; cases e), fun z => (by rw [z, fT] at e; cases e)⟩
  have J : Inv X pins σ H' s' := I.call' os U ok bare fun b hb => (nomatch hb)
  have un : Un (frs X.stack) [] H H' s.heap h := by
    refine ⟨fun b o e n hb hx => keepB b o (U.keep b o e n hb hx) (old b o e).1 (old b o e).2 hb, fun b o e n hb hx => ?_, U.free, fun b o e hx => ?_, U.tups, U.frzs, U.tbls⟩
    · obtain ⟨sl, e1⟩ := U.slot b o e n hb hx
      obtain ⟨_, o', e', nf⟩ := I.stack.mem hb
      rw [e] at e'; cases e'
      obtain ⟨sl2, e2⟩ := hup b { o with slots := sl } e1 nf
      exact ⟨sl2, e2⟩
    · obtain ⟨o', e1⟩ := U.there b o e hx
      by_cases z : b ∈ frs X.stack
      · obtain ⟨_, o2, e2, nf⟩ := J.stack.mem z
        obtain ⟨sl, e3⟩ := hup b o2 e2 nf
        exact ⟨_, e3⟩
      · exact ⟨o', keepB b o' e1 (old b o e).1 (old b o e).2 z⟩
  have trk : ∀ b u, H' b = some u → b ≠ a ∧ b ≠ T ∧ b ∉ frs X.stack := fun b u e => ⟨fun z => (by rw [z, na] at e; cases e), fun z => (by rw [z, nT] at e; cases e), fun z => (by rw [J.stkFree b z] at e; cases e)⟩
  have ok' : HOk X.prog X.w H' h := fun c o e => (ok c o e).stay (fun b u hb q => by
    have t : b ≠ a ∧ b ≠ T ∧ b ∉ frs X.stack := by
      rcases hb with rfl | hb
      · exact trk _ _ e
      · exact trk _ _ hb
    exact keepB b u q t.1 t.2.1 t.2.2) (fun _ q => q) fun _ _ q => q
  have J6 : Inv X pins σ H' { s' with heap := h } := I.call' (s' := { s' with heap := h }) os un ok' bare fun b hb => (nomatch hb)
  refine ⟨oe, J6.pins_of fun p hp => ?_, g2, g1⟩
  rcases List.mem_cons.mp hp with rfl | hp
  · refine ⟨g1, na, fun z => ?_, fun z => ?_, fun v z => by rw [g3] at z; cases z⟩
    · obtain ⟨m, ⟨o, _, _, e, _⟩, _⟩ := I.loc
      have z : a = X.env.locals := z
      rw [← z, fa] at e; cases e
    · have z : a ∈ frs X.stack := by
        rcases I.ok.stk with e | ⟨e, _⟩
        · rw [e]; exact z
        · rw [e]; unfold frs; rw [List.filterMap_cons]
          split
          · exact z
          · exact List.mem_cons_of_mem _ z
      obtain ⟨_, o, e, _⟩ := I.stack.mem z
      rw [fa] at e; cases e
  · exact J6.pin p (List.mem_append_right _ hp)
end
end L2
set_option linter.all false
set_option maxRecDepth 100000
namespace L2
open PySem PySem.Spec PyProof.Rows
abbrev Cx.held (X : Cx) (a : Addr) (oe : Obj) : Cx := { X with A := X.A.mark (some (.ref a)), calm := false, pn := (a, oe) :: X.pn, xe := fun _ _ => False }
section
variable {X : Cx} {pins : List (Addr × Obj)} {σ : St} {H : Hp} {s : Shared} {a : Addr} {oe : Obj}
theorem mark_frames {A : Around} {u : Option Value} : (A.mark u).frames = A.frames := by cases A; rfl
theorem Cx.Ok.held (ok : X.Ok) : (X.held a oe).Ok :=
  ⟨ok.mod, ok.kind, ok.glob, ok.blt, ok.above, ok.inj, ok.has, ok.cab, (fun z => absurd z (by show ¬ (false = true); decide)), mark_frames.trans ok.frames, ok.stk, ok.exf, ok.bs, ok.bsz, ok.noex, ok.exfs, ok.funs, ok.frf⟩
theorem Inv.held (I : Inv X ((a, oe) :: pins) σ H s) : Inv (X.held a oe) pins σ H s :=
  ⟨I.ok.held, I.os, I.bare, I.base, I.loc, I.cell, I.free, I.freeC, fun p hp => I.pin p (by
    have hp : p ∈ ((a, oe) :: X.pn) ++ pins := hp
    simp only [List.cons_append, List.mem_cons, List.mem_append] at hp ⊢
    rcases hp with h | h | h
    · exact .inr (.inl h)
    · exact .inl h
    · exact .inr (.inr h)), I.hok, I.len⟩
theorem Inv.unheld (ok : X.Ok) (I : Inv (X.held a oe) pins σ H s) : Inv X pins σ H s :=
  ⟨ok, I.os, I.bare, I.base, I.loc, I.cell, I.free, I.freeC, fun p hp => I.pin p (List.mem_cons_of_mem _ hp), I.hok, I.len⟩
end
section
variable {X : Cx} {CX : CXT} {k : Nat} {f C D : Addr} {fd : FuncData} {ps : List Str} {sp : Sp} {E : XK} {x y n : Str} {p np cp ep hp pos : Pos} {e : Expr} {es : List Expr} {ta : TA} {b₀ : Stmt} {suite : List Stmt} {i : Nat} {ups upD : List Addr}
theorem run_fnX {XE : Value → Shared → Prop} {pins : List (Addr × Obj)} {σ : St} {H : Hp} {s : Shared} {Q : VK} {us : List Value} {vs : List V} (F : FnOk X.prog X.w X.K X.mg X.base CX k f fd ps sp) (hr : Room k X.A) (hb : Binds X.K fd ps [])
    (I : Inv X pins σ H s) (r : Vals vs us) (h : sp vs H Q E) (hx : ∀ e s', CX X.stack H s E e s' → XE e s') : wpAny (model X.prog X.w) X.A (call (.ref f) us) (EP X pins σ Q) XE s := by
  have hl : (us ++ []).length = ps.length := by rw [List.append_nil, ← r.length]; exact F.len _ _ _ _ h
  have hb' := hb s us I.kIn hl
  rw [List.append_nil] at hb'
  refine wpAny_call (codeAny_mono (F.run X.A X.stack s H ⟨us, []⟩ us vs Q E hr I.env0 hb' r h) fun r s' hq => ?_)
  cases r with
  | error e => exact hx e s' hq
  | ok fl =>
    cases fl with
    | ret u => exact I.after hq
    | next => exact False.elim hq
    | brk => exact False.elim hq
    | cont => exact False.elim hq
end
end L2
set_option linter.all false
set_option maxRecDepth 100000
namespace L2
open PySem PySem.Spec PyProof.Rows
section
variable {X : Cx} {CX : CXT} {k : Nat} {f C D : Addr} {fd : FuncData} {ps : List Str} {sp : Sp} {E : XK} {x y n : Str} {p np cp ep hp pos : Pos} {e : Expr} {es : List Expr} {ta : TA} {b₀ : Stmt} {suite : List Stmt} {i : Nat} {ups upD : List Addr}
end
end L2
set_option linter.all false
set_option maxRecDepth 100000
namespace L2
open PySem PySem.Spec PyProof.Rows
section
variable {X : Cx} {CX : CXT} {k : Nat} {f C D : Addr} {fd : FuncData} {ps : List Str} {sp : Sp} {E : XK} {x y n : Str} {p np cp ep hp pos p2 : Pos} {e b : Expr} {es : List Expr} {ta : TA} {tb : TE} {b₀ : Stmt} {suite : List Stmt} {i : Nat} {ups upD : List Addr} {op : CmpOp} {r : R2}
def tTryEq (C : Addr) (sp : Sp) (ta : TA) (tb : TE) (r : R2) (th : TS) : TS := fun Dn σ H => ta σ H fun vs H1 => sp vs H1 (fun v H2 => tb σ H2 fun u H3 => r v u H3 fun z H4 => Dn.rt z H4) fun cls _ H2 => cls = .ref C ∧ th { nx := fun _ _ => False, rt := Dn.rt } σ H2
theorem ps_tryEq {th : TS} (hst : X.stack = X.env :: X.outer) (hfm : X.env.frame = some X.env.locals) (F : FnOk X.prog X.w X.K X.mg X.base (CXR X.prog X.w) k f fd ps sp) (hr : Room k X.A) (hgf : Gl X y) (hmf : X.mg y = some (.ref f))
    (hkf : PySem.W.keepIn X.K (.ref f) = true) (hb : Binds X.K fd ps []) (ha : PA X.nox (e :: es) ta) (hrh : PE X.nox b tb) (ho : OpR X.nox (compareOp op) r) (OC : ExcObj X.base C ups) (OD : ExcObj X.base D upD) (hmD : X.mg x = some (.ref D)) (hgx : Gl X x) (hcon : (C :: ups).contains D = true)
    (hs : ∀ a oe, oe.cls = .ref C → PSs (X.held a oe) (b₀ :: suite) th) (hm : behindInMarks op b = false)
    (hdx : (x == ("__debug__" : Str)) = false := by decide) (hdy : (y == ("__debug__" : Str)) = false := by decide) (he : starEach (e :: es) X.env = (false, eval e X.env) :: starEach es X.env := by rfl) (hpl : (backTo cp (starEach es X.env)).any (·.1) = false := by rfl) :
    PS X (.Try [.Return (some (.Compare (.Call (.Name y p) (e :: es) [] cp) [op] [b] p2)) ep] [.ExceptHandler (some (.Name x np)) none (b₀ :: suite) hp] [] [] pos) (tTryEq C sp ta tb r th) := by
  intro pins s σ H Dn I h
  refine wpAny_Try_except (wpAny_execs_cons (wpAny_Return_some (wpAny_Compare1 ?_ hm)))
  refine wpAny_Call_Name_kw (ld_glob I hgf hmf ?_ hdy)
  refine PySem.W.callWith_K (h₀ := X.base) I.ok.mod.kin hkf (wpAny_mono (ha cp pins s σ H _ (I.wish _) h) (fun us s1 q1 => ?_) fun _ _ z => z.elim) he hpl
  obtain ⟨vs, H1, I1, rr, q⟩ := q1
  have I1 : Inv X pins σ H1 s1 := I1.unwish
  refine ⟨I1.kIn, wpAny_mono (run_fnX (XE := fun ev s' => CXR X.prog X.w X.stack H1 s1 _ ev s') F hr hb I1 rr q fun _ _ z => z) (fun u s2 z => ?_) fun ev s' z => ?_⟩
  · obtain ⟨v, H2, I2, rv, q2⟩ := z
    refine wpAny_mono (hrh pins s2 σ H2 _ (I2.wish _) q2) (fun u2 s3 q3 => ?_) fun _ _ z => z.elim
    obtain ⟨v2, H3, I3, rv2, q3⟩ := q3
    refine wpAny_mono (ho pins s3 σ H3 v v2 u u2 _ I3 rv rv2 q3) (fun u3 s4 q4 => ?_) fun _ _ z => z.elim
    obtain ⟨v3, H4, I4, rv3, q4⟩ := q4
    exact ⟨v3, σ, H4, I4.unwish, rv3, q4⟩
  obtain ⟨a, C', H', rfl, os, bare, U, ok, fl, qC, q⟩ := z
  cases qC
  obtain ⟨⟨na, fa⟩, oe, ws, a0, T, oT, ts, ge, gc, gd, g1, g2, g3, g4, g5, nT, fT⟩ := fl
  have J : Inv X pins σ H' s' := I1.call' os U ok bare fun b hb => (nomatch hb)
  have hfl : Heap.FlyingW (PySem.W.hideAll s'.heap (a :: T :: frs X.stack)) (X.env :: X.outer) a (.ref C) a0 s'.heap := by
    refine ⟨fun b o e => PySem.W.of_hideAll _ e, PySem.W.hideAll_none _ (List.mem_cons_self ..), ?_, oe, ws, T, oT, ts, ge, gc, gd, g1, PySem.W.hideAll_none _ (List.mem_cons_of_mem _ (List.mem_cons_self ..)), g2, g3, g4, g5⟩
    rw [← hst]
    exact PySem.W.funFrames_hide J.stack fun env he b hb => List.mem_cons_of_mem _ (List.mem_cons_of_mem _ (List.mem_filterMap.mpr ⟨env, he, hb⟩))
  have hfr : X.A.frames = some (X.env :: X.outer) := by rw [← hst]; exact J.ok.frames
  refine wpAny_looks_onW hfr hfm hfl fun h₄ hheld₄ hsm₄ => ?_
  refine wpAny_landsW hheld₄ fun h₅ hfl₅ hsm₅ => ?_
  obtain ⟨oe5, I5, c5, e5⟩ := inv_flying I1 os bare U ok na fa nT fT (by rw [hst] at hfl₅ ⊢; exact hfl₅) (hsm₄.trans hsm₅)
  have I5' : Inv (X.held a oe5) pins σ H' { s' with heap := h₅ } := I5.held
  refine wpAny_handleBy_cons (codeAny_handlers_test (ld_glob (X := X.held a oe5) I5' hgx hmD ?_ hdx)) (by intro q; cases q)
  refine excMatches_own (OC.keeps I5.bk) (OD.keeps I5.bk) e5 c5 hcon ?_
  refine codeAny_handlers_suite ?_
  refine lands_againW hfl₅ fun h₆ hfl₆ hsm₆ => ?_
  obtain ⟨oe6, I6, c6, e6⟩ := inv_flying I1 os bare U ok na fa nT fT (by rw [hst] at hfl₆ ⊢; exact hfl₆) ((hsm₄.trans hsm₅).trans hsm₆)
  have I6' : Inv (X.held a oe6) pins σ H' { s' with heap := h₆ } := I6.held
  refine wpAny_mono (hs a oe6 c6 pins _ _ H' _ I6' q) (fun fl s8 q8 => ?_) fun _ _ z => z.elim
  cases fl with
  | next => obtain ⟨_, _, _, z⟩ := q8; exact False.elim z
  | brk => obtain ⟨_, _, _, z⟩ := q8; exact False.elim z
  | cont => obtain ⟨_, _, _, z⟩ := q8; exact False.elim z
  | ret u =>
    obtain ⟨x8, σ8, H8, I8, r8, q8⟩ := q8
    exact ⟨x8, σ8, H8, I8.unheld J.ok, r8, q8⟩
end
end L2
set_option linter.all false
set_option maxRecDepth 100000
namespace PySem.W
open PySem PySem.Spec PySem.Calls PyProof.Rows
section
variable {prog : Program} {w : World} {A : Around} {E : Value → Shared → Prop} {s : Shared} {K : Frag} {x C : Addr} {ox : Obj}
structure ExcK (K : Frag) (C : Addr) : Prop where
  ga : findIn K (.ref C) "__getattribute__" = some (some (.builtin "BaseException.__getattribute__"))
  ge : findIn K (.ref C) "__getattr__" = some none
  cl : findIn K (.ref C) "__class__" = some (some (.builtin "object.__class__"))
  ob : mroIn K C (.type "object") = some true
  be : mroIn K C (.type "BaseException") = some true
  is : (clsIn K C).isSome = true
end
end PySem.W
namespace L2
open PySem PySem.Spec PyProof.Rows
section
variable {X : Cx} {pins : List (Addr × Obj)} {σ : St} {H : Hp} {s : Shared} {a C : Addr} {oe : Obj} {i : Nat} {n x : Str} {np p cp : Pos} {b : Bool}
end
end L2
set_option linter.all false
set_option maxRecDepth 100000
namespace L2
open PySem PySem.Spec PyProof.Rows
section
variable {X : Cx} {a C : Addr} {oe : Obj}
end
section
variable {P : Program} {w : World} {K : PySem.W.Frag} {mg : Str → Option Value} {base : Heap} {CX : CXT}
theorem Fun.okX {x qual : Str} {st : Stmt} {f : Addr} {fd : FuncData} {N ps : List Str} {k : Nat} {sp : Sp} (F : Fun K x qual st f fd) (S : FnScope N ps (defScope st)) (len : ∀ vs H Q E, sp vs H Q E → vs.length = ps.length)
    (hbody : ∀ (cdv : Value) (A : Around) (outer : List Env) (s : Shared) (H : Hp) (vs : List V) (Q : VK) (E : XK), Room k (A.deeper (envOfC qual (defScope st) s.heap.objs.size f cdv)) → sp vs H Q E →
      ∃ t, PSs (cxOf (CXR P w) P w K mg base N qual (defScope st) f cdv A outer s H E) (defBody st) t ∧ t { nx := fun _ H' => Q .non H', rt := Q } (start N vs) H) : FnOk P w K mg base (CXR P w) (k + 1) f fd ps sp := by
  obtain ⟨oc, od, kV, doc, pm, an, cdv, ct, osl, rfl, lk, hcd⟩ := F.ex
  exact fn_of lk hcd S len fun A outer s H vs Q E hr hsp => hbody cdv A outer s H vs Q E hr hsp
end
theorem ExcObj.of_lookup {K : PySem.W.Frag} {h : Heap} {C : Addr} {ups : List Addr} {mro : List Value} {dd : Option Addr} {nm qn : Str} {bs : List Value} {ns : Addr} {hd : Bool} {sn : List Str} {sub : List Value} {ab : Bool} {col : Option Bool} {k0 k1 k2 k3 k5 : Option Value} (X : K.In h)
    (u : K.lookup C = some ⟨.type "type", dd, .cls ⟨nm, bs, mro, ns, qn, hd, sn, sub, ab, col, false⟩, #[k0, k1, k2, k3, some (.builtin "ValueError.__new__"), k5]⟩) (hm : mro = .ref C :: (ups.map Value.ref ++ VB)) (v : PySem.W.excIn K C VB "ValueError.__new__" = true) : ExcObj h C ups := by
  subst hm
  unfold PySem.W.excIn at v
  rw [u] at v
  simp only [Bool.and_eq_true, beq_iff_eq, Bool.not_eq_true'] at v
  obtain ⟨⟨⟨_, ht⟩, hok⟩, hni⟩ := v
  exact ⟨ns, nm, qn, bs, hd, sn, sub, ab, col, dd, k0, k1, k2, k3, k5, _, X _ _ u, .of_isNs (PySem.W.isNs_of_in X hok), PySem.W.nsMap_none_of_in X hok hni, PySem.W.tail_of_in X ht⟩
end L2
set_option Elab.async false
set_option linter.all false
set_option maxRecDepth 100000
namespace L2
open PySem PySem.Spec PyProof.Rows
structure FunD (K : PySem.W.Frag) (x qual : Str) (st : Stmt) (dv : List Value) (f : Addr) (fd : FuncData) : Prop where
  ex : ∃ (da : Addr) (oc : Value) (od : Option Addr) (kV doc pm : Value) (an : Option Addr) (cdv ct : Value) (osl : Array (Option Value)) (o : Obj) (n : Nat),
    fd = PySem.W.fnOf x qual (defArgs st) (defBody st) (defScope st) (.ref da) kV doc pm an cdv ct ∧ K.lookup f = some ⟨oc, od, .func fd, osl⟩ ∧ PySem.W.codeIn K cdv qual = true ∧ K.lookup da = some o ∧ o.data = .seq dv.toArray n
  kp : PySem.W.keepIn K (.ref f) = true
section
variable {P : Program} {w : World} {K : PySem.W.Frag} {mg : Str → Option Value} {base : Heap} {x qual : Str} {st : Stmt} {dv : List Value} {f : Addr} {fd : FuncData} {N ps : List Str} {k : Nat} {sp : Sp}
theorem FunD.ok (F : FunD K x qual st dv f fd) (S : FnScope N ps (defScope st)) (len : ∀ vs H Q E, sp vs H Q E → vs.length = ps.length)
    (hbody : ∀ (cdv : Value) (A : Around) (outer : List Env) (s : Shared) (H : Hp) (vs : List V) (Q : VK) (E : XK), Room k (A.deeper (envOfC qual (defScope st) s.heap.objs.size f cdv)) → sp vs H Q E →
      ∃ t, PSs (cxOf CX0 P w K mg base N qual (defScope st) f cdv A outer s H E).nox (defBody st) t ∧ t { nx := fun _ H' => Q .non H', rt := Q } (start N vs) H) : FnOk P w K mg base CX0 (k + 1) f fd ps sp := by
  obtain ⟨da, oc, od, kV, doc, pm, an, cdv, ct, osl, o, n, rfl, lk, hcd, _⟩ := F.ex
  refine fn_of lk hcd S len fun A outer s H vs Q E hr hsp => ?_
  obtain ⟨t, h, q⟩ := hbody cdv A outer s H vs Q E hr hsp
  exact ⟨t, h.nox, q⟩
end
end L2
set_option Elab.async false
set_option linter.all false
set_option maxRecDepth 100000
set_option maxHeartbeats 4000000
namespace L3
open PySem L2
inductive D where
  | non | bl (b : Bool) | int (i : Int) | str (x : Str) | lst (ds : List D) | tup (ds : List D) | dic (kvs : List (Key × V)) | dit (kvs : List (List Key × V)) | scr (ns : List Int) | pin (a : Addr) (d : D) | ins (C : Addr) (ns : List Str) (ds : List D)
def Kc (K : PySem.W.Frag) (a : Addr) (xs : List V) : Prop :=
  ∃ (o : Obj) (its : Array Value) (n : Nat), K.lookup a = some o ∧ o.cls = .type "list" ∧ o.dict = none ∧ o.data = .seq its n ∧ its.size ≤ sizeLine ∧ Vals xs its.toList
def Sc (K : PySem.W.Frag) (H : Hp) (a : Addr) (xs : List V) : Prop := (∃ o, H a = some (.frz o (.lst xs))) ∨ Kc K a xs
theorem Sc.seq {K : PySem.W.Frag} {H : Hp} {a : Addr} {xs : List V} (h : Sc K H a xs) : SqL K H a xs := h.elim (fun ⟨o, h⟩ => .inl (.inr ⟨o, h⟩)) .inr
def Im (o : HO) : Prop := (∃ xs, o = .tup xs) ∨ ∃ o' u, o = .frz o' u
section
variable {K : PySem.W.Frag}
mutual
def Rf (K : PySem.W.Frag) (H : Hp) : D → V → List Addr → Prop
  | .non, v, fp => v = .non ∧ fp = []
  | .bl b, v, fp => v = .bl b ∧ fp = []
  | .int i, v, fp => v = .int i ∧ fp = []
  | .str x, v, fp => v = .str x ∧ fp = []
  | .lst ds, v, fp => ∃ a xs fq, v = .ref a ∧ H a = some (.lst xs) ∧ fp = a :: fq ∧ Rfs K H ds xs fq
  | .tup ds, v, fp => ∃ a xs, v = .ref a ∧ H a = some (.tup xs) ∧ Rfs K H ds xs fp
  | .dic kvs, v, fp => ∃ a, v = .ref a ∧ H a = some (.dK kvs) ∧ (∀ p ∈ kvs, flatV p.2 = true) ∧ fp = [a]
  | .dit kvs, v, fp => ∃ a, v = .ref a ∧ H a = some (.dT kvs) ∧ (∀ p ∈ kvs, flatV p.2 = true) ∧ fp = [a]
  | .scr ns, v, fp => ∃ a, v = .ref a ∧ Sc K H a (ns.map V.int) ∧ fp = []
  | .pin a d, v, fp => v = .ref a ∧ Rf K H d v fp
  | .ins C ns ds, v, fp => ∃ a dx xs fq, v = .ref a ∧ H a = some (.ins C dx (ns.zip xs)) ∧ fp = a :: fq ∧ Rfs K H ds xs fq
def Rfs (K : PySem.W.Frag) (H : Hp) : List D → List V → List Addr → Prop
  | [], xs, fp => xs = [] ∧ fp = []
  | d :: ds, xs, fp => ∃ x r f1 f2, xs = x :: r ∧ fp = f1 ++ f2 ∧ Rf K H d x f1 ∧ Rfs K H ds r f2
end
def Rp (K : PySem.W.Frag) (H : Hp) (d : D) (v : V) : Prop := ∃ fp, Rf K H d v fp
def Rps (K : PySem.W.Frag) (H : Hp) (ds : List D) (vs : List V) : Prop := ∃ fp, Rfs K H ds vs fp
mutual
theorem Rf.mono {H H' : Hp} : ∀ {d : D} {v : V} {fp : List Addr}, Rf K H d v fp → (∀ a ∈ fp, ∀ o, H a = some o → H' a = some o) → (∀ a o, H a = some o → Im o → H' a = some o) → Rf K H' d v fp
  | .non, _, _, h, _, _ => h
  | .bl _, _, _, h, _, _ => h
  | .int _, _, _, h, _, _ => h
  | .str _, _, _, h, _, _ => h
  | .lst ds, v, fp, h, k, t => by
    obtain ⟨a, xs, fq, e1, e2, e3, h⟩ := h
    subst e3
    exact ⟨a, xs, fq, e1, k a List.mem_cons_self _ e2, rfl, Rfs.mono h (fun b hb => k b (List.mem_cons_of_mem _ hb)) t⟩
  | .tup ds, v, fp, h, k, t => by
    obtain ⟨a, xs, e1, e2, h⟩ := h
    exact ⟨a, xs, e1, t a _ e2 (.inl ⟨_, rfl⟩), Rfs.mono h k t⟩
  | .dic kvs, v, fp, h, k, t => by
    obtain ⟨a, e1, e2, e3, e4⟩ := h
    subst e4
    exact ⟨a, e1, k a List.mem_cons_self _ e2, e3, rfl⟩
  | .dit kvs, v, fp, h, k, t => by
    obtain ⟨a, e1, e2, e3, e4⟩ := h
    subst e4
    exact ⟨a, e1, k a List.mem_cons_self _ e2, e3, rfl⟩
  | .scr ns, v, fp, h, k, t => by
    obtain ⟨a, e1, e2, e3⟩ := h
    refine ⟨a, e1, ?_, e3⟩
    rcases e2 with ⟨o, e2⟩ | e2
    · exact .inl ⟨o, t a _ e2 (.inr ⟨_, _, rfl⟩)⟩
    · exact .inr e2
  | .pin a d, v, fp, h, k, t => ⟨h.1, Rf.mono h.2 k t⟩
  | .ins C ns ds, v, fp, h, k, t => by
    obtain ⟨a, dx, xs, fq, e1, e2, e3, h⟩ := h
    subst e3
    exact ⟨a, dx, xs, fq, e1, k a List.mem_cons_self _ e2, rfl, Rfs.mono h (fun b hb => k b (List.mem_cons_of_mem _ hb)) t⟩
theorem Rfs.mono {H H' : Hp} : ∀ {ds : List D} {vs : List V} {fp : List Addr}, Rfs K H ds vs fp → (∀ a ∈ fp, ∀ o, H a = some o → H' a = some o) → (∀ a o, H a = some o → Im o → H' a = some o) → Rfs K H' ds vs fp
  | [], _, _, h, _, _ => h
  | d :: ds, vs, fp, h, k, t => by
    obtain ⟨x, r, f1, f2, e1, e2, h1, h2⟩ := h
    subst e2
    exact ⟨x, r, f1, f2, e1, rfl, Rf.mono h1 (fun b hb => k b (List.mem_append_left _ hb)) t, Rfs.mono h2 (fun b hb => k b (List.mem_append_right _ hb)) t⟩
end
theorem Rf.same {H H' : Hp} {d : D} {v : V} {fp : List Addr} (h : Rf K H d v fp) (s : Same H H') : Rf K H' d v fp := h.mono (fun a _ o e => s a o e) fun a o e _ => s a o e
theorem Rfs.same {H H' : Hp} {d : List D} {v : List V} {fp : List Addr} (h : Rfs K H d v fp) (s : Same H H') : Rfs K H' d v fp := h.mono (fun a _ o e => s a o e) fun a o e _ => s a o e
theorem Rp.same {H H' : Hp} {d : D} {v : V} (h : Rp K H d v) (s : Same H H') : Rp K H' d v := let ⟨fp, h⟩ := h; ⟨fp, h.same s⟩
theorem Rps.same {H H' : Hp} {d : List D} {v : List V} (h : Rps K H d v) (s : Same H H') : Rps K H' d v := let ⟨fp, h⟩ := h; ⟨fp, h.same s⟩
mutual
theorem Rf.dom {H : Hp} : ∀ {d : D} {v : V} {fp : List Addr}, Rf K H d v fp → ∀ a ∈ fp, ∃ o, H a = some o ∧ ¬ Im o
  | .non, _, _, h, a, ha => by obtain ⟨_, rfl⟩ := h; nomatch ha
  | .bl _, _, _, h, a, ha => by obtain ⟨_, rfl⟩ := h; nomatch ha
  | .int _, _, _, h, a, ha => by obtain ⟨_, rfl⟩ := h; nomatch ha
  | .str _, _, _, h, a, ha => by obtain ⟨_, rfl⟩ := h; nomatch ha
  | .lst ds, v, fp, h, b, hb => by
    obtain ⟨a, xs, fq, e1, e2, e3, h⟩ := h
    subst e3
    rcases List.mem_cons.mp hb with e | hb
    · subst e; exact ⟨_, e2, fun z => by rcases z with ⟨_, z⟩ | ⟨_, _, z⟩ <;> cases z⟩
    · exact Rfs.dom h b hb
  | .tup ds, v, fp, h, b, hb => by
    obtain ⟨a, xs, e1, e2, h⟩ := h
    exact Rfs.dom h b hb
  | .dic kvs, v, fp, h, b, hb => by
    obtain ⟨a, e1, e2, e3, e4⟩ := h
    subst e4
    cases List.mem_singleton.mp hb
    exact ⟨_, e2, fun z => by rcases z with ⟨_, z⟩ | ⟨_, _, z⟩ <;> cases z⟩
  | .dit kvs, v, fp, h, b, hb => by
    obtain ⟨a, e1, e2, e3, e4⟩ := h
    subst e4
    cases List.mem_singleton.mp hb
    exact ⟨_, e2, fun z => by rcases z with ⟨_, z⟩ | ⟨_, _, z⟩ <;> cases z⟩
  | .scr ns, v, fp, h, b, hb => by
    obtain ⟨a, e1, e2, e3⟩ := h
    subst e3; nomatch hb
  | .pin a d, v, fp, h, b, hb => Rf.dom h.2 b hb
  | .ins C ns ds, v, fp, h, b, hb => by
    obtain ⟨a, dx, xs, fq, e1, e2, e3, h⟩ := h
    subst e3
    rcases List.mem_cons.mp hb with e | hb
    · subst e; exact ⟨_, e2, fun z => by rcases z with ⟨_, z⟩ | ⟨_, _, z⟩ <;> cases z⟩
    · exact Rfs.dom h b hb
theorem Rfs.dom {H : Hp} : ∀ {ds : List D} {vs : List V} {fp : List Addr}, Rfs K H ds vs fp → ∀ a ∈ fp, ∃ o, H a = some o ∧ ¬ Im o
  | [], _, _, h, a, ha => by obtain ⟨_, rfl⟩ := h; nomatch ha
  | d :: ds, vs, fp, h, b, hb => by
    obtain ⟨x, r, f1, f2, e1, e2, h1, h2⟩ := h
    subst e2
    rcases List.mem_append.mp hb with hb | hb
    · exact Rf.dom h1 b hb
    · exact Rfs.dom h2 b hb
end
theorem Rf.upd {H : Hp} {d : D} {v : V} {fp : List Addr} {l : Addr} {o : HO} (h : Rf K H d v fp) (hl : l ∉ fp) (hm : ∀ o, H l = some o → ¬ Im o) : Rf K (upd H l o) d v fp :=
  h.mono (fun a ha u e => by rw [upd_ne (fun z => hl (by rw [← z]; exact ha))]; exact e) fun a o e i => by rw [upd_ne (fun z => hm o (by rw [← z]; exact e) i)]; exact e
theorem Rfs.upd {H : Hp} {d : List D} {v : List V} {fp : List Addr} {l : Addr} {o : HO} (h : Rfs K H d v fp) (hl : l ∉ fp) (hm : ∀ o, H l = some o → ¬ Im o) : Rfs K (upd H l o) d v fp :=
  h.mono (fun a ha u e => by rw [upd_ne (fun z => hl (by rw [← z]; exact ha))]; exact e) fun a o e i => by rw [upd_ne (fun z => hm o (by rw [← z]; exact e) i)]; exact e
theorem Rfs.length {H : Hp} : ∀ {ds : List D} {vs : List V} {fp : List Addr}, Rfs K H ds vs fp → vs.length = ds.length
  | [], _, _, h => by obtain ⟨rfl, _⟩ := h; rfl
  | d :: ds, vs, fp, h => by
    obtain ⟨x, r, f1, f2, e1, e2, h1, h2⟩ := h
    subst e1
    rw [List.length_cons, List.length_cons, Rfs.length h2]
theorem Rfs.append {H : Hp} : ∀ {ds es : List D} {vs ws : List V} {fp fq : List Addr}, Rfs K H ds vs fp → Rfs K H es ws fq → Rfs K H (ds ++ es) (vs ++ ws) (fp ++ fq)
  | [], es, vs, ws, fp, fq, h, h' => by obtain ⟨rfl, rfl⟩ := h; exact h'
  | d :: ds, es, vs, ws, fp, fq, h, h' => by
    obtain ⟨x, r, f1, f2, rfl, rfl, h1, h2⟩ := h
    exact ⟨x, r ++ ws, f1, f2 ++ fq, rfl, List.append_assoc .., h1, Rfs.append h2 h'⟩
theorem Rfs.one {H : Hp} {d : D} {v : V} {fp : List Addr} (h : Rf K H d v fp) : Rfs K H [d] [v] fp := ⟨v, [], fp, [], rfl, (List.append_nil _).symm, h, rfl, rfl⟩
theorem Rfs.get {H : Hp} : ∀ {ds : List D} {vs : List V} {fp : List Addr} {i : Nat} {d : D}, Rfs K H ds vs fp → ds[i]? = some d → ∃ v f, vs[i]? = some v ∧ Rf K H d v f ∧ (∀ a ∈ f, a ∈ fp)
  | [], _, _, _, _, _, e => by simp at e
  | d :: ds, vs, fp, 0, d', h, e => by
    obtain ⟨x, r, f1, f2, rfl, rfl, h1, h2⟩ := h
    simp at e; subst e
    exact ⟨x, f1, rfl, h1, fun a ha => List.mem_append_left _ ha⟩
  | d :: ds, vs, fp, i + 1, d', h, e => by
    obtain ⟨x, r, f1, f2, rfl, rfl, h1, h2⟩ := h
    obtain ⟨v, f, e1, h3, k⟩ := Rfs.get (i := i) h2 (by simpa using e)
    exact ⟨v, f, by simpa using e1, h3, fun a ha => List.mem_append_right _ (k a ha)⟩
theorem Rfs.get' {H : Hp} {ds : List D} {vs : List V} {fp : List Addr} {i : Nat} {v : V} (h : Rfs K H ds vs fp) (e : vs[i]? = some v) : ∃ d f, ds[i]? = some d ∧ Rf K H d v f ∧ (∀ a ∈ f, a ∈ fp) := by
  have hl := h.length
  obtain ⟨hi, _⟩ := List.getElem?_eq_some_iff.mp e
  have hi' : i < ds.length := by omega
  obtain ⟨v', f, e1, h1, k⟩ := h.get (d := ds[i]) (List.getElem?_eq_getElem hi')
  rw [e] at e1; cases e1
  exact ⟨ds[i], f, List.getElem?_eq_getElem hi', h1, k⟩
def D.scal : D → Bool
  | .non => true | .bl _ => true | .int _ => true | .str _ => true | _ => false
def D.toV : D → V
  | .non => .non | .bl b => .bl b | .int i => .int i | .str x => .str x | _ => .non
theorem Rf.scal {H : Hp} {d : D} {v : V} {fp : List Addr} (h : Rf K H d v fp) (s : d.scal = true) : v = d.toV ∧ fp = [] := by
  cases d <;> first | exact h | cases s
theorem Rf.ofScal {H : Hp} {d : D} (s : d.scal = true) : Rf K H d d.toV [] := by
  cases d <;> first | exact ⟨rfl, rfl⟩ | cases s
theorem Rp.int {H : Hp} {i : Int} {v : V} (h : Rp K H (.int i) v) : v = .int i := h.choose_spec.1
theorem Rp.bl {H : Hp} {i : Bool} {v : V} (h : Rp K H (.bl i) v) : v = .bl i := h.choose_spec.1
theorem Rfs.scals {H : Hp} : ∀ {ds : List D} {vs : List V} {fp : List Addr}, Rfs K H ds vs fp → ds.all D.scal = true → vs = ds.map D.toV ∧ fp = []
  | [], vs, fp, h, _ => h
  | d :: ds, vs, fp, h, s => by
    obtain ⟨x, r, f1, f2, rfl, rfl, h1, h2⟩ := h
    simp only [List.all_cons, Bool.and_eq_true] at s
    obtain ⟨rfl, rfl⟩ := h1.scal s.1
    obtain ⟨rfl, rfl⟩ := Rfs.scals h2 s.2
    exact ⟨rfl, rfl⟩
theorem Rfs.ofScals {H : Hp} : ∀ {ds : List D}, ds.all D.scal = true → Rfs K H ds (ds.map D.toV) []
  | [], _ => ⟨rfl, rfl⟩
  | d :: ds, s => by
    simp only [List.all_cons, Bool.and_eq_true] at s
    exact ⟨_, _, [], [], rfl, rfl, Rf.ofScal s.1, Rfs.ofScals s.2⟩
def D.items : D → Option (List D)
  | .lst ds => some ds | .scr ns => some (ns.map D.int) | _ => none
theorem Rfs.ofInts {H : Hp} : ∀ {ns : List Int}, Rfs K H (ns.map D.int) (ns.map V.int) []
  | [] => ⟨rfl, rfl⟩
  | n :: ns => ⟨_, _, [], [], rfl, rfl, ⟨rfl, rfl⟩, Rfs.ofInts⟩
theorem Rf.seq {H : Hp} {d : D} {ds : List D} {v : V} {fp : List Addr} (h : Rf K H d v fp) (e : d.items = some ds) : ∃ a xs fq, v = .ref a ∧ SqL K H a xs ∧ Rfs K H ds xs fq ∧ ∀ b ∈ fq, b ∈ fp := by
  cases d with
  | lst es =>
    cases e
    obtain ⟨a, xs, fq, e1, e2, rfl, h⟩ := h
    exact ⟨a, xs, fq, e1, .inl (.inl e2), h, fun b hb => List.mem_cons_of_mem _ hb⟩
  | scr ns =>
    cases e
    obtain ⟨a, e1, e2, e3⟩ := h
    exact ⟨a, _, [], e1, e2.seq, Rfs.ofInts, fun b hb => nomatch hb⟩
  | _ => cases e
theorem Rp.seq {H : Hp} {d : D} {ds : List D} {v : V} (h : Rp K H d v) (e : d.items = some ds) : ∃ a xs fq, v = .ref a ∧ SqL K H a xs ∧ Rfs K H ds xs fq :=
  let ⟨_, h⟩ := h; let ⟨a, xs, fq, h1, h2, h3, _⟩ := h.seq e; ⟨a, xs, fq, h1, h2, h3⟩
theorem Rp.tup {H : Hp} {ds : List D} {v : V} (h : Rp K H (.tup ds) v) : ∃ a xs fq, v = .ref a ∧ SqT K H a xs ∧ Rfs K H ds xs fq := by
  obtain ⟨fp, a, xs, e1, e2, h⟩ := h
  exact ⟨a, xs, fp, e1, .inl (.inl e2), h⟩
def Mu (H : Hp) (a : Addr) : Prop := (∃ xs, H a = some (.lst xs)) ∨ (∃ kvs, H a = some (.dK kvs)) ∨ (∃ kvs, H a = some (.dT kvs)) ∨ ∃ C dx fs, H a = some (.ins C dx fs)
theorem Mu.same {H H' : Hp} {a : Addr} (h : Mu H a) (s : Same H H') : Mu H' a := by
  rcases h with ⟨x, h⟩ | ⟨x, h⟩ | ⟨x, h⟩ | ⟨C, dx, fs, h⟩
  · exact .inl ⟨x, s _ _ h⟩
  · exact .inr (.inl ⟨x, s _ _ h⟩)
  · exact .inr (.inr (.inl ⟨x, s _ _ h⟩))
  · exact .inr (.inr (.inr ⟨C, dx, fs, s _ _ h⟩))
theorem Mu.some {H : Hp} {a : Addr} (h : Mu H a) : H a ≠ none := by
  rcases h with ⟨x, h⟩ | ⟨x, h⟩ | ⟨x, h⟩ | ⟨C, dx, fs, h⟩ <;> rw [h] <;> intro z <;> cases z
theorem Mu.notup {H : Hp} {a : Addr} (h : Mu H a) : ∀ o, H a = Option.some o → ¬ Im o := by
  rcases h with ⟨x, h⟩ | ⟨x, h⟩ | ⟨x, h⟩ | ⟨C, dx, fs, h⟩ <;> rw [h] <;> intro o e z <;> cases e <;> rcases z with ⟨_, z⟩ | ⟨_, _, z⟩ <;> cases z
theorem Mu.upd {H : Hp} {a l : Addr} {o : HO} (h : Mu H a) (ho : (∃ xs, o = .lst xs) ∨ (∃ xs, o = .dK xs) ∨ (∃ xs, o = .dT xs) ∨ ∃ C dx fs, o = .ins C dx fs) : Mu (upd H l o) a := by
  by_cases e : a = l
  · subst e
    rcases ho with ⟨xs, rfl⟩ | ⟨xs, rfl⟩ | ⟨xs, rfl⟩ | ⟨C, dx, fs, rfl⟩
    · exact .inl ⟨xs, upd_same⟩
    · exact .inr (.inl ⟨xs, upd_same⟩)
    · exact .inr (.inr (.inl ⟨xs, upd_same⟩))
    · exact .inr (.inr (.inr ⟨C, dx, fs, upd_same⟩))
  · unfold Mu
    rw [upd_ne e]
    exact h
abbrev Dl := List (Option D)
structure Ok (K : PySem.W.Frag) (B0 : Hp) (Γ : List Nat) (fps : Nat → List Addr) (δ : Dl) (σ : St) (H : Hp) : Prop where
  len : σ.length = δ.length
  b0 : Same B0 H
  val : ∀ i d, δ[i]? = some (some d) → ∃ v, σ[i]? = some (some v) ∧ Rf K H d v (fps i)
  non : ∀ i, (∀ d, δ[i]? ≠ some (some d)) → fps i = []
  own : ∀ i ∈ Γ, (fps i).Nodup ∧ ∀ a ∈ fps i, B0 a = none ∧ Mu H a
  dj : ∀ i ∈ Γ, ∀ j, j ≠ i → ∀ a ∈ fps i, a ∉ fps j
variable {B0 : Hp} {Γ : List Nat} {fps : Nat → List Addr} {δ : Dl} {σ : St} {H H' : Hp}
theorem Ok.same (o : Ok K B0 Γ fps δ σ H) (s : Same H H') : Ok K B0 Γ fps δ σ H' :=
  ⟨o.len, o.b0.trans s, fun i d e => let ⟨v, h1, h2⟩ := o.val i d e; ⟨v, h1, h2.same s⟩, o.non, fun i hi => ⟨(o.own i hi).1, fun a ha => ⟨((o.own i hi).2 a ha).1, ((o.own i hi).2 a ha).2.same s⟩⟩, o.dj⟩
theorem Ok.sub {Γ' : List Nat} (o : Ok K B0 Γ fps δ σ H) (h : ∀ i ∈ Γ', i ∈ Γ) : Ok K B0 Γ' fps δ σ H :=
  ⟨o.len, o.b0, o.val, o.non, fun i hi => o.own i (h i hi), fun i hi => o.dj i (h i hi)⟩
theorem Ok.dom (o : Ok K B0 Γ fps δ σ H) {i : Nat} {a : Addr} (h : a ∈ fps i) : H a ≠ none := by
  by_cases e : ∃ d, δ[i]? = some (some d)
  · obtain ⟨d, e⟩ := e
    obtain ⟨v, _, r⟩ := o.val i d e
    obtain ⟨u, hu, _⟩ := r.dom a h
    rw [hu]; intro z; cases z
  · rw [o.non i (fun d z => e ⟨d, z⟩)] at h
    nomatch h
structure Nw (H H' : Hp) (fps : Nat → List Addr) (M : List Nat) (fp : List Addr) : Prop where
  nd : fp.Nodup
  mu : ∀ a ∈ fp, Mu H' a
  src : ∀ a ∈ fp, H a = none ∨ ∃ j ∈ M, a ∈ fps j
theorem Nw.nil {M : List Nat} : Nw H H' fps M [] := ⟨List.nodup_nil, fun _ h => (nomatch h), fun _ h => (nomatch h)⟩
theorem Nw.later {H1 : Hp} {M : List Nat} {fp : List Addr} (n : Nw H1 H' fps M fp) (s : Same H H1) : Nw H H' fps M fp :=
  ⟨n.nd, n.mu, fun a ha => (n.src a ha).elim (fun z => .inl (s.free z)) .inr⟩
theorem Nw.same {H1 : Hp} {M : List Nat} {fp : List Addr} (n : Nw H H' fps M fp) (s : Same H' H1) : Nw H H1 fps M fp := ⟨n.nd, fun a ha => (n.mu a ha).same s, n.src⟩
theorem Nw.any {fps' : Nat → List Addr} {fp : List Addr} (n : Nw H H' fps [] fp) : Nw H H' fps' [] fp := ⟨n.nd, n.mu, fun a ha => (n.src a ha).elim .inl fun ⟨_, h, _⟩ => nomatch h⟩
theorem Nw.fresh {fp : List Addr} (n : Nw H H' fps [] fp) : ∀ a ∈ fp, H a = none := fun a ha => (n.src a ha).elim id fun ⟨_, h, _⟩ => nomatch h
def kill (M : List Nat) (δ : Dl) : Dl := M.foldl (fun δ j => δ.set j none) δ
theorem kill_length : ∀ {M : List Nat} {δ : Dl}, (kill M δ).length = δ.length
  | [], _ => rfl
  | j :: M, δ => by rw [kill, List.foldl_cons]; exact (kill_length (M := M)).trans (by simp)
theorem kill_get : ∀ {M : List Nat} {δ : Dl} {i : Nat} {d : D}, (kill M δ)[i]? = some (some d) ↔ i ∉ M ∧ δ[i]? = some (some d)
  | [], _, _, _ => by simp [kill]
  | j :: M, δ, i, d => by
    rw [kill, List.foldl_cons]
    have := kill_get (M := M) (δ := δ.set j none) (i := i) (d := d)
    rw [kill] at this
    rw [this, List.mem_cons]
    by_cases e : i = j
    · subst e
      simp [List.getElem?_set]
    · rw [List.getElem?_set_ne (Ne.symm e)]
      simp [e]
def minus (Γ M : List Nat) : List Nat := Γ.filter fun i => !M.contains i
theorem mem_minus {Γ M : List Nat} {i : Nat} : i ∈ minus Γ M ↔ i ∈ Γ ∧ i ∉ M := by
  unfold minus
  rw [List.mem_filter]
  simp
theorem Ok.kill (o : Ok K B0 Γ fps δ σ H) (M : List Nat) : Ok K B0 (minus Γ M) (fun i => if i ∈ M then [] else fps i) (kill M δ) σ H := by
  refine ⟨by rw [kill_length]; exact o.len, o.b0, fun i d e => ?_, fun i e => ?_, fun i hi => ?_, fun i hi j hj a ha => ?_⟩
  · obtain ⟨h1, h2⟩ := kill_get.mp e
    rw [if_neg h1]
    exact o.val i d h2
  · by_cases h : i ∈ M
    · rw [if_pos h]
    · rw [if_neg h]
      exact o.non i fun d z => e d (kill_get.mpr ⟨h, z⟩)
  · obtain ⟨h1, h2⟩ := mem_minus.mp hi
    rw [if_neg h2]
    exact o.own i h1
  · obtain ⟨h1, h2⟩ := mem_minus.mp hi
    rw [if_neg h2] at ha
    by_cases h : j ∈ M
    · rw [if_pos h]; exact List.not_mem_nil
    · rw [if_neg h]; exact o.dj i h1 j hj a ha
theorem Ok.setMv {M : List Nat} {x : D} {v : V} {fp : List Addr} (o : Ok K B0 Γ fps δ σ H) (i : Nat) (hM : ∀ j ∈ M, j ∈ Γ) (s : Same H H') (r : Rf K H' x v fp) (n : Nw H H' fps M fp) :
    Ok K B0 (i :: minus (minus Γ M) [i]) (fun j => if j = i then (if i < δ.length then fp else []) else if j ∈ M then [] else fps j) ((L3.kill M δ).set i (some x)) (σ.set i (some v)) H' := by
  have ok := (o.kill M).same s
  have sep : ∀ a ∈ fp, ∀ j, j ∉ M → a ∉ fps j := fun a ha j hj z => by
    rcases n.src a ha with e | ⟨k, hk, e⟩
    · exact o.dom z e
    · exact o.dj k (hM k hk) j (fun q => hj (by rw [q]; exact hk)) a e z
  refine ⟨by simp [kill_length, o.len], ok.b0, fun j d e => ?_, fun j e => ?_, fun j hj => ?_, fun j hj k hk a ha => ?_⟩
  · by_cases h : j = i
    · subst h
      rw [List.getElem?_set] at e
      simp only [kill_length] at e
      by_cases hl : j < δ.length
      · simp [hl] at e
        subst e
        refine ⟨v, ?_, ?_⟩
        · rw [List.getElem?_set]; simp [o.len, hl]
        · rw [if_pos rfl, if_pos hl]; exact r
      · simp [hl] at e
    · rw [List.getElem?_set_ne (Ne.symm h)] at e
      rw [List.getElem?_set_ne (Ne.symm h), if_neg h]
      exact ok.val j d e
  · by_cases h : j = i
    · subst h
      rw [if_pos rfl]
      by_cases hl : j < δ.length
      · exact absurd (by rw [List.getElem?_set]; simp [kill_length, hl]) (e x)
      · rw [if_neg hl]
    · rw [if_neg h]
      exact ok.non j fun d z => e d (by rw [List.getElem?_set_ne (Ne.symm h)]; exact z)
  · by_cases h : j = i
    · subst h
      rw [if_pos rfl]
      split
      · refine ⟨n.nd, fun a ha => ⟨?_, n.mu a ha⟩⟩
        rcases n.src a ha with e | ⟨k, hk, e⟩
        · exact o.b0.free e
        · exact ((o.own k (hM k hk)).2 a e).1
      · exact ⟨List.nodup_nil, fun _ z => nomatch z⟩
    · rw [if_neg h]
      rcases List.mem_cons.mp hj with z | hj
      · exact absurd z h
      · exact ok.own j (mem_minus.mp hj).1
  · by_cases h : j = i
    · subst h
      rw [if_pos rfl] at ha
      rw [if_neg hk]
      split at ha
      · by_cases hm : k ∈ M
        · rw [if_pos hm]; exact List.not_mem_nil
        · rw [if_neg hm]; exact sep a ha k hm
      · nomatch ha
    · rcases List.mem_cons.mp hj with z | hj
      · exact absurd z h
      rw [if_neg h] at ha
      have hj' := mem_minus.mp (mem_minus.mp hj).1
      rw [if_neg hj'.2] at ha
      by_cases hki : k = i
      · rw [if_pos hki]
        split
        · exact fun z => sep a z j hj'.2 ha
        · exact List.not_mem_nil
      · rw [if_neg hki]
        split
        · exact List.not_mem_nil
        · exact o.dj j hj'.1 k hk a ha
theorem Ok.setSh {x : D} {v : V} {fp : List Addr} (o : Ok K B0 Γ fps δ σ H) (i : Nat) (s : Same H H') (r : Rf K H' x v fp) (n : ∀ j ∈ Γ, ∀ a ∈ fp, a ∉ fps j) :
    Ok K B0 (minus Γ [i]) (fun j => if j = i then (if i < δ.length then fp else []) else fps j) (δ.set i (some x)) (σ.set i (some v)) H' := by
  have ok := o.same s
  refine ⟨by simp [o.len], ok.b0, fun j d e => ?_, fun j e => ?_, fun j hj => ?_, fun j hj k hk a ha => ?_⟩
  · by_cases h : j = i
    · subst h
      rw [List.getElem?_set] at e
      by_cases hl : j < δ.length
      · simp [hl] at e
        subst e
        refine ⟨v, ?_, ?_⟩
        · rw [List.getElem?_set]; simp [o.len, hl]
        · rw [if_pos rfl, if_pos hl]; exact r
      · simp [hl] at e
    · rw [List.getElem?_set_ne (Ne.symm h)] at e
      rw [List.getElem?_set_ne (Ne.symm h), if_neg h]
      exact ok.val j d e
  · by_cases h : j = i
    · subst h
      rw [if_pos rfl]
      by_cases hl : j < δ.length
      · exact absurd (by rw [List.getElem?_set]; simp [hl]) (e x)
      · rw [if_neg hl]
    · rw [if_neg h]
      exact ok.non j fun d z => e d (by rw [List.getElem?_set_ne (Ne.symm h)]; exact z)
  · obtain ⟨h1, h2⟩ := mem_minus.mp hj
    rw [if_neg (fun z => h2 (by rw [z]; exact List.mem_singleton.mpr rfl))]
    exact ok.own j h1
  · obtain ⟨h1, h2⟩ := mem_minus.mp hj
    rw [if_neg (fun z => h2 (by rw [z]; exact List.mem_singleton.mpr rfl))] at ha
    by_cases hki : k = i
    · rw [if_pos hki]
      split
      · exact fun z => n j h1 a z ha
      · exact List.not_mem_nil
    · rw [if_neg hki]
      exact o.dj j h1 k hk a ha
theorem Ok.rebase (o : Ok K B0 Γ fps δ σ H) : ∃ B1, Same B0 B1 ∧ Ok K B1 Γ fps δ σ H ∧ (∀ a, (∀ j ∈ Γ, a ∉ fps j) → B1 a = H a) := by
  refine ⟨fun a => if (∃ j ∈ Γ, a ∈ fps j) then none else H a, fun b u e => ?_, ⟨o.len, fun b u e => ?_, o.val, o.non, fun i hi => ⟨(o.own i hi).1, fun a ha => ⟨?_, ((o.own i hi).2 a ha).2⟩⟩, o.dj⟩, fun a h => ?_⟩
  · have : ¬ ∃ j ∈ Γ, b ∈ fps j := fun ⟨j, hj, hb⟩ => by
      have := ((o.own j hj).2 b hb).1
      rw [e] at this; cases this
    show (if _ then _ else _) = _
    rw [if_neg this]
    exact o.b0 b u e
  · by_cases z : ∃ j ∈ Γ, b ∈ fps j
    · simp only [if_pos z] at e; cases e
    · simp only [if_neg z] at e; exact e
  · show (if _ then _ else _) = _
    rw [if_pos ⟨i, hi, ha⟩]
  · show (if _ then _ else _) = _
    rw [if_neg (fun ⟨j, hj, z⟩ => h j hj z)]
theorem Ok.base {B1 : Hp} (o : Ok K B1 Γ fps δ σ H) (s : Same B0 B1) : Ok K B0 Γ fps δ σ H :=
  ⟨o.len, s.trans o.b0, o.val, o.non, fun i hi => ⟨(o.own i hi).1, fun a ha => ⟨s.free ((o.own i hi).2 a ha).1, ((o.own i hi).2 a ha).2⟩⟩, o.dj⟩
end
end L3
set_option Elab.async false
set_option linter.all false
set_option maxRecDepth 100000
set_option maxHeartbeats 4000000
namespace L3
open PySem L2
abbrev DK := D → Prop
abbrev DE := Dl → DK → Prop
abbrev DT := Dl → (Bool → Prop) → Prop
abbrev DA := Dl → (List D → Prop) → Prop
structure ER (K : PySem.W.Frag) (Γ : List Nat) (t : TE) (d : DE) : Prop where
  mono : ∀ δ (P P' : DK), (∀ x, P x → P' x) → d δ P → d δ P'
  run : ∀ {B0 fps δ σ H Q}, Ok K B0 Γ fps δ σ H → d δ (fun x => ∀ v H', Same H H' → Rp K H' x v → Q v H') → t σ H Q
structure ES (K : PySem.W.Frag) (Γ : List Nat) (t : TE) (d : DE) : Prop where
  mono : ∀ δ (P P' : DK), (∀ x, P x → P' x) → d δ P → d δ P'
  run : ∀ {B0 fps δ σ H Q}, Ok K B0 Γ fps δ σ H → d δ (fun x => ∀ v H' fp, Same H H' → Rf K H' x v fp → (∀ j ∈ Γ, ∀ a ∈ fp, a ∉ fps j) → Q v H') → t σ H Q
structure EM (K : PySem.W.Frag) (Γ M : List Nat) (t : TE) (d : DE) : Prop where
  mono : ∀ δ (P P' : DK), (∀ x, P x → P' x) → d δ P → d δ P'
  run : ∀ {B0 fps δ σ H Q}, Ok K B0 Γ fps δ σ H → d δ (fun x => ∀ v H' fp, Same H H' → Rf K H' x v fp → Nw H H' fps M fp → Q v H') → t σ H Q
structure TR (K : PySem.W.Frag) (Γ : List Nat) (t : TT) (d : DT) : Prop where
  mono : ∀ δ (P P' : Bool → Prop), (∀ x, P x → P' x) → d δ P → d δ P'
  run : ∀ {B0 fps δ σ H Q}, Ok K B0 Γ fps δ σ H → d δ (fun b => ∀ H', Same H H' → Q b H') → t σ H Q
structure AR (K : PySem.W.Frag) (Γ : List Nat) (t : TA) (d : DA) : Prop where
  mono : ∀ δ (P P' : List D → Prop), (∀ x, P x → P' x) → d δ P → d δ P'
  run : ∀ {B0 fps δ σ H Q}, Ok K B0 Γ fps δ σ H → d δ (fun xs => ∀ vs H', Same H H' → Rps K H' xs vs → Q vs H') → t σ H Q
structure AM (K : PySem.W.Frag) (Γ M : List Nat) (t : TA) (d : DA) : Prop where
  mono : ∀ δ (P P' : List D → Prop), (∀ x, P x → P' x) → d δ P → d δ P'
  run : ∀ {B0 fps δ σ H Q}, Ok K B0 Γ fps δ σ H → d δ (fun xs => ∀ vs H' fp, Same H H' → Rfs K H' xs vs fp → Nw H H' fps M fp → Q vs H') → t σ H Q
section
variable {K : PySem.W.Frag} {Γ M : List Nat} {t ta tb tc : TE} {d da db dc : DE}
theorem EM.es (h : EM K Γ [] t d) : ES K Γ t d := ⟨h.mono, fun o q => h.run o (h.mono _ _ _ (fun x z v H' fp s r n => z v H' fp s r fun j _ a ha y => o.dom y (n.fresh a ha)) q)⟩
theorem ES.er (h : ES K Γ t d) : ER K Γ t d := ⟨h.mono, fun o q => h.run o (h.mono _ _ _ (fun x z v H' fp s r n => z v H' s ⟨fp, r⟩) q)⟩
theorem EM.er (h : EM K Γ M t d) : ER K Γ t d := ⟨h.mono, fun o q => h.run o (h.mono _ _ _ (fun x z v H' fp s r n => z v H' s ⟨fp, r⟩) q)⟩
def vScal (d : DE) (δ : Dl) (P : DK) : Prop := d δ fun x => x.scal = true ∧ P x
theorem ER.scal (h : ER K Γ t d) : EM K Γ [] t (vScal d) := ⟨fun δ P P' k q => h.mono _ _ _ (fun x z => ⟨z.1, k x z.2⟩) q, fun o q => h.run o (h.mono _ _ _ (fun x z v H' s r => by
  obtain ⟨fp, r⟩ := r
  obtain ⟨_, rfl⟩ := r.scal z.1
  exact z.2 v H' [] s r Nw.nil) q)⟩
def vVar (i : Nat) (δ : Dl) (P : DK) : Prop := match δ[i]? with | some (some d) => P d | _ => False
theorem vVar_out {i : Nat} {δ : Dl} {P : DK} (h : vVar i δ P) : ∃ d, δ[i]? = some (some d) ∧ P d := by
  unfold vVar at h
  split at h
  · exact ⟨_, by assumption, h⟩
  · exact h.elim
theorem vVar_mono {i : Nat} : ∀ δ (P P' : DK), (∀ x, P x → P' x) → vVar i δ P → vVar i δ P' := fun δ P P' k h => by
  unfold vVar at h ⊢
  split
  · rename_i e; rw [e] at h; exact k _ h
  · rename_i e; revert h; split
    · rename_i e'; exact absurd e' (e _)
    · exact id
theorem er_var (i : Nat) : ER K Γ (tVar i) (vVar i) := ⟨vVar_mono, fun {B0 fps δ σ H Q} o q => by
  obtain ⟨d, e, q⟩ := vVar_out q
  obtain ⟨v, e1, r⟩ := o.val i d e
  exact ⟨v, e1, q v H (Same.refl H) ⟨_, r⟩⟩⟩
theorem es_var (i : Nat) (h : i ∉ Γ := by decide) : ES K Γ (tVar i) (vVar i) := ⟨vVar_mono, fun {B0 fps δ σ H Q} o q => by
  obtain ⟨d, e, q⟩ := vVar_out q
  obtain ⟨v, e1, r⟩ := o.val i d e
  exact ⟨v, e1, q v H _ (Same.refl H) r fun j hj a ha z => o.dj j hj i (fun y => h (by rw [y]; exact hj)) a z ha⟩⟩
theorem em_var (i : Nat) (h : i ∈ Γ := by decide) : EM K Γ [i] (tVar i) (vVar i) := ⟨vVar_mono, fun {B0 fps δ σ H Q} o q => by
  obtain ⟨d, e, q⟩ := vVar_out q
  obtain ⟨v, e1, r⟩ := o.val i d e
  exact ⟨v, e1, q v H _ (Same.refl H) r ⟨(o.own i h).1, fun a ha => ((o.own i h).2 a ha).2, fun a ha => .inr ⟨i, List.mem_singleton.mpr rfl, ha⟩⟩⟩⟩
def vC (d : D) (_u0 : Dl) (P : DK) : Prop := P d
theorem em_int {i : Int} : EM K Γ [] (tC (.int i)) (vC (.int i)) := ⟨fun _ _ _ k h => k _ h, fun {_ _ _ _ H _} _ q => q _ H [] (Same.refl H) ⟨rfl, rfl⟩ Nw.nil⟩
theorem em_bl {i : Bool} : EM K Γ [] (tC (.bl i)) (vC (.bl i)) := ⟨fun _ _ _ k h => k _ h, fun {_ _ _ _ H _} _ q => q _ H [] (Same.refl H) ⟨rfl, rfl⟩ Nw.nil⟩
theorem em_str {i : Str} : EM K Γ [] (tC (.str i)) (vC (.str i)) := ⟨fun _ _ _ k h => k _ h, fun {_ _ _ _ H _} _ q => q _ H [] (Same.refl H) ⟨rfl, rfl⟩ Nw.nil⟩
theorem em_non : EM K Γ [] (tC .non) (vC .non) := ⟨fun _ _ _ k h => k _ h, fun {_ _ _ _ H _} _ q => q _ H [] (Same.refl H) ⟨rfl, rfl⟩ Nw.nil⟩
abbrev D2 := D → D → DK → Prop
abbrev nf : Nat → List Addr := fun _ => []
structure OpV (K : PySem.W.Frag) (r : R2) (rv : D2) : Prop where
  mono : ∀ x y (P P' : DK), (∀ z, P z → P' z) → rv x y P → rv x y P'
  run : ∀ {H x y v w Q}, Rp K H x v → Rp K H y w → rv x y (fun z => ∀ u H' fp, Same H H' → Rf K H' z u fp → Nw H H' nf [] fp → Q u H') → r v w H Q
def vOp (rv : D2) (da db : DE) (δ : Dl) (P : DK) : Prop := da δ fun x => db δ fun y => rv x y P
theorem em_op {r : R2} {rv : D2} (ho : OpV K r rv) (ha : ER K Γ ta da) (hb : ER K Γ tb db) : EM K Γ [] (tOp r ta tb) (vOp rv da db) :=
  ⟨fun δ P P' k h => ha.mono _ _ _ (fun x z => hb.mono _ _ _ (fun y z => ho.mono x y _ _ k z) z) h,
   fun o q => ha.run o (ha.mono _ _ _ (fun x z v H1 s1 r1 => hb.run (o.same s1) (hb.mono _ _ _ (fun y z w H2 s2 r2 => ho.run (r1.same s2) r2 (ho.mono _ _ _ _ (fun u z u' H' fp s r n => z u' H' fp ((s1.trans s2).trans s) r (n.any.later (s1.trans s2))) z)) z)) q)⟩
abbrev D1 := D → DK → Prop
structure UnV (K : PySem.W.Frag) (r : V → Hp → VK → Prop) (rv : D1) : Prop where
  mono : ∀ x (P P' : DK), (∀ z, P z → P' z) → rv x P → rv x P'
  run : ∀ {H x v Q}, Rp K H x v → rv x (fun z => ∀ u H' fp, Same H H' → Rf K H' z u fp → Nw H H' nf [] fp → Q u H') → r v H Q
def vUn (rv : D1) (da : DE) (δ : Dl) (P : DK) : Prop := da δ fun x => rv x P
theorem em_un {r : V → Hp → VK → Prop} {rv : D1} (ho : UnV K r rv) (ha : ER K Γ ta da) : EM K Γ [] (tUn r ta) (vUn rv da) :=
  ⟨fun δ P P' k h => ha.mono _ _ _ (fun x z => ho.mono x _ _ k z) h,
   fun o q => ha.run o (ha.mono _ _ _ (fun x z v H1 s1 r1 => ho.run r1 (ho.mono _ _ _ (fun u z u' H' fp s r n => z u' H' fp (s1.trans s) r (n.any.later s1)) z)) q)⟩
def vI0 (g : Int → Int → D) (x : D) (y : D) (P : DK) : Prop := match x, y with | .int i, .int j => P (g i j) | _, _ => False
def vI (C : Int → Int → Prop) (g : Int → Int → D) (x : D) (y : D) (P : DK) : Prop := match x, y with | .int i, .int j => C i j ∧ P (g i j) | _, _ => False
def vU (g : Int → D) (x : D) (P : DK) : Prop := match x with | .int i => P (g i) | _ => False
theorem vI0_mono {g : Int → Int → D} : ∀ x y (P P' : DK), (∀ z, P z → P' z) → vI0 g x y P → vI0 g x y P' := fun x y P P' k h => by
  unfold vI0 at h ⊢; revert h; split <;> first | exact k _ | exact id
theorem vI_mono {C : Int → Int → Prop} {g : Int → Int → D} : ∀ x y (P P' : DK), (∀ z, P z → P' z) → vI C g x y P → vI C g x y P' := fun x y P P' k h => by
  unfold vI at h ⊢; revert h; split <;> first | exact fun h => ⟨h.1, k _ h.2⟩ | exact id
theorem vI0_run {f : Int → Int → V} {g : Int → Int → D} (hs : ∀ i j, (g i j).scal = true ∧ (g i j).toV = f i j) : OpV K (rI0 f) (vI0 g) := ⟨vI0_mono, fun {H x y v w Q} r1 r2 h => by
  unfold vI0 at h
  split at h
  · rename_i i j
    refine ⟨i, j, r1.int, r2.int, ?_⟩
    rw [← (hs i j).2]
    exact h _ H [] (Same.refl H) (Rf.ofScal (hs i j).1) Nw.nil
  · exact h.elim⟩
theorem vI_run {C : Int → Int → Prop} {f : Int → Int → V} {g : Int → Int → D} (hs : ∀ i j, (g i j).scal = true ∧ (g i j).toV = f i j) : OpV K (rI C f) (vI C g) := ⟨vI_mono, fun {H x y v w Q} r1 r2 h => by
  unfold vI at h
  split at h
  · rename_i i j
    refine ⟨i, j, r1.int, r2.int, h.1, ?_⟩
    rw [← (hs i j).2]
    exact h.2 _ H [] (Same.refl H) (Rf.ofScal (hs i j).1) Nw.nil
  · exact h.elim⟩
theorem o_int {f : Int → Int → Int} : OpV K (rI0 fun i j => .int (f i j)) (vI0 fun i j => .int (f i j)) := vI0_run fun _ _ => ⟨rfl, rfl⟩
theorem o_bl {f : Int → Int → Bool} : OpV K (rI0 fun i j => .bl (f i j)) (vI0 fun i j => .bl (f i j)) := vI0_run fun _ _ => ⟨rfl, rfl⟩
theorem o_intC {C : Int → Int → Prop} {f : Int → Int → Int} : OpV K (rI C fun i j => .int (f i j)) (vI C fun i j => .int (f i j)) := vI_run fun _ _ => ⟨rfl, rfl⟩
theorem u_int {f : Int → Int} : UnV K (rU fun i => .int (f i)) (vU fun i => .int (f i)) := ⟨fun x P P' k h => by unfold vU at h ⊢; revert h; split <;> first | exact k _ | exact id, fun {H x v Q} r1 h => by
  unfold vU at h
  split at h
  · rename_i i
    exact ⟨i, r1.int, h _ H [] (Same.refl H) ⟨rfl, rfl⟩ Nw.nil⟩
  · exact h.elim⟩
def vEqS (neg : Bool) (x : D) (y : D) (P : DK) : Prop := x.scal = true ∧ y.scal = true ∧ scal x.toV y.toV = true ∧ P (.bl (if neg then !decide (x.toV = y.toV) else decide (x.toV = y.toV)))
theorem vEqS_mono {neg : Bool} : ∀ x y (P P' : DK), (∀ z, P z → P' z) → vEqS neg x y P → vEqS neg x y P' := fun x y P P' k h => ⟨h.1, h.2.1, h.2.2.1, k _ h.2.2.2⟩
theorem o_eq : OpV K rEq (vEqS false) := ⟨vEqS_mono, fun {H x y v w Q} ⟨f1, r1⟩ ⟨f2, r2⟩ h => by
  rw [(r1.scal h.1).1, (r2.scal h.2.1).1]
  exact ⟨h.2.2.1, h.2.2.2 _ H [] (Same.refl H) ⟨rfl, rfl⟩ Nw.nil⟩⟩
theorem o_ne : OpV K rNe (vEqS true) := ⟨vEqS_mono, fun {H x y v w Q} ⟨f1, r1⟩ ⟨f2, r2⟩ h => by
  rw [(r1.scal h.1).1, (r2.scal h.2.1).1]
  exact ⟨h.2.2.1, h.2.2.2 _ H [] (Same.refl H) ⟨rfl, rfl⟩ Nw.nil⟩⟩
theorem vEqS_int {neg : Bool} {i j : Int} {P : DK} : vEqS neg (.int i) (.int j) P ↔ P (.bl (if neg then !decide (i = j) else decide (i = j))) := by
  unfold vEqS
  simp only [D.scal, D.toV, scal, true_and, V.int.injEq]
def vIxL (x : D) (y : D) (P : DK) : Prop := match x.items, y with | some ds, .int i => (match atI ds i with | some d => P d | none => False) | _, _ => False
def vIxT (x : D) (y : D) (P : DK) : Prop := match x, y with | .tup ds, .int i => (match atI ds i with | some d => P d | none => False) | _, _ => False
theorem vIxL_out {x y : D} {P : DK} (h : vIxL x y P) : ∃ ds i d, x.items = some ds ∧ y = .int i ∧ atI ds i = some d ∧ P d := by
  unfold vIxL at h
  split at h
  · split at h
    · exact ⟨_, _, _, by assumption, rfl, by assumption, h⟩
    · exact h.elim
  · exact h.elim
theorem vIxT_out {x y : D} {P : DK} (h : vIxT x y P) : ∃ ds i d, x = .tup ds ∧ y = .int i ∧ atI ds i = some d ∧ P d := by
  unfold vIxT at h
  split at h
  · split at h
    · exact ⟨_, _, _, rfl, rfl, by assumption, h⟩
    · exact h.elim
  · exact h.elim
theorem vIxL_in {x : D} {ds : List D} {i : Int} {d : D} {P : DK} (ex : x.items = some ds) (e : atI ds i = some d) (h : P d) : vIxL x (.int i) P := by unfold vIxL; simp only [ex, e]; exact h
theorem vIxT_in {ds : List D} {i : Int} {d : D} {P : DK} (e : atI ds i = some d) (h : P d) : vIxT (.tup ds) (.int i) P := by unfold vIxT; simp only [e]; exact h
theorem vIxL_mono : ∀ x y (P P' : DK), (∀ z, P z → P' z) → vIxL x y P → vIxL x y P' := fun x y P P' k h => by
  obtain ⟨ds, i, d, ex, rfl, e, h⟩ := vIxL_out h; exact vIxL_in ex e (k _ h)
theorem vIxT_mono : ∀ x y (P P' : DK), (∀ z, P z → P' z) → vIxT x y P → vIxT x y P' := fun x y P P' k h => by
  obtain ⟨ds, i, d, rfl, rfl, e, h⟩ := vIxT_out h; exact vIxT_in e (k _ h)
theorem Rfs.at {H : Hp} {ds : List D} {xs : List V} {fq : List Addr} {i : Int} {d : D} (h : Rfs K H ds xs fq) (e : atI ds i = some d) : ∃ v f, atI xs i = some v ∧ Rf K H d v f ∧ ∀ a ∈ f, a ∈ fq := by
  unfold atI at e ⊢
  rw [h.length]
  cases hj : ixN ds.length i with
  | none => rw [hj] at e; cases e
  | some j => rw [hj] at e; exact h.get e
theorem er_ixL (ha : ER K Γ ta da) (hb : ER K Γ tb db) : ER K Γ (tOp (rIxL K) ta tb) (vOp vIxL da db) :=
  ⟨fun δ P P' k h => ha.mono _ _ _ (fun x z => hb.mono _ _ _ (fun y z => vIxL_mono x y _ _ k z) z) h,
   fun o q => ha.run o (ha.mono _ _ _ (fun x z v H1 s1 r1 => hb.run (o.same s1) (hb.mono _ _ _ (fun y z w H2 s2 r2 => by
    obtain ⟨ds, i, d, ex, rfl, e, z⟩ := vIxL_out z
    obtain ⟨a, xs, fq, rfl, hs, hr⟩ := (r1.same s2).seq ex
    obtain ⟨v, f, e1, r3, _⟩ := hr.at e
    exact ⟨a, xs, i, v, rfl, r2.int, hs, e1, z v H2 (s1.trans s2) ⟨f, r3⟩⟩) z)) q)⟩
theorem es_ixL (ha : ES K Γ ta da) (hb : ER K Γ tb db) : ES K Γ (tOp (rIxL K) ta tb) (vOp vIxL da db) :=
  ⟨fun δ P P' k h => ha.mono _ _ _ (fun x z => hb.mono _ _ _ (fun y z => vIxL_mono x y _ _ k z) z) h,
   fun o q => ha.run o (ha.mono _ _ _ (fun x z v H1 fp s1 r1 n => hb.run (o.same s1) (hb.mono _ _ _ (fun y z w H2 s2 r2 => by
    obtain ⟨ds, i, d, ex, rfl, e, z⟩ := vIxL_out z
    obtain ⟨a, xs, fq, rfl, hs, hr, hin⟩ := (r1.same s2).seq ex
    obtain ⟨v, f, e1, r3, k⟩ := hr.at e
    exact ⟨a, xs, i, v, rfl, r2.int, hs, e1, z v H2 f (s1.trans s2) r3 fun j hj b hb => n j hj b (hin b (k b hb))⟩) z)) q)⟩
theorem es_ixT (ha : ES K Γ ta da) (hb : ER K Γ tb db) : ES K Γ (tOp (rIxT K) ta tb) (vOp vIxT da db) :=
  ⟨fun δ P P' k h => ha.mono _ _ _ (fun x z => hb.mono _ _ _ (fun y z => vIxT_mono x y _ _ k z) z) h,
   fun o q => ha.run o (ha.mono _ _ _ (fun x z v H1 fp s1 r1 n => hb.run (o.same s1) (hb.mono _ _ _ (fun y z w H2 s2 r2 => by
    obtain ⟨ds, i, d, rfl, rfl, e, z⟩ := vIxT_out z
    obtain ⟨a, xs, rfl, hs, hr⟩ := r1.same s2
    obtain ⟨v, f, e1, r3, k⟩ := hr.at e
    exact ⟨a, xs, i, v, rfl, r2.int, .inl (.inl hs), e1, z v H2 f (s1.trans s2) r3 fun j hj b hb => n j hj b (k b hb)⟩) z)) q)⟩
def asB (x : D) (P : Bool → Prop) : Prop := match x with | .bl k => P k | _ => False
def vTest (d : DE) (δ : Dl) (P : Bool → Prop) : Prop := d δ fun x => asB x P
theorem vb_out {x : D} {P : Bool → Prop} (h : asB x P) : ∃ k, x = .bl k ∧ P k := by
  unfold asB at h
  split at h
  · exact ⟨_, rfl, h⟩
  · exact h.elim
theorem vb_in {x : D} {P P' : Bool → Prop} (k : ∀ b, P b → P' b) (h : asB x P) : asB x P' := by
  obtain ⟨b, rfl, h⟩ := vb_out h; exact k b h
theorem tr_test (h : ER K Γ t d) : TR K Γ (tTest t) (vTest d) := ⟨fun δ P P' k q => h.mono _ _ _ (fun x z => vb_in k z) q, fun o q => h.run o (h.mono _ _ _ (fun x z v H' s r => by
  obtain ⟨b, rfl, z⟩ := vb_out z; exact ⟨b, r.bl, z H' s⟩) q)⟩
theorem tr_b (h : ER K Γ t d) : TR K Γ (tB t) (vTest d) := ⟨fun δ P P' k q => h.mono _ _ _ (fun x z => vb_in k z) q, fun o q => h.run o (h.mono _ _ _ (fun x z v H' s r => by
  obtain ⟨b, rfl, z⟩ := vb_out z; exact ⟨b, r.bl, z H' s⟩) q)⟩
def vAnd (c e : DT) (δ : Dl) (P : Bool → Prop) : Prop := c δ fun k => if k = true then e δ P else P false
def vOr (c e : DT) (δ : Dl) (P : Bool → Prop) : Prop := c δ fun k => if k = true then P true else e δ P
def vNot (c : DT) (δ : Dl) (P : Bool → Prop) : Prop := c δ fun k => P (!k)
theorem ite_imp {b : Bool} {A B A' B' : Prop} (h1 : A → A') (h2 : B → B') (h : if b = true then A else B) : if b = true then A' else B' := by
  cases b
  · exact h2 h
  · exact h1 h
theorem tr_and {u1 u2 : TT} {c e : DT} (h1 : TR K Γ u1 c) (h2 : TR K Γ u2 e) : TR K Γ (tAnd u1 u2) (vAnd c e) :=
  ⟨fun δ P P' k q => h1.mono _ _ _ (fun b z => ite_imp (h2.mono _ _ _ k) (k _) z) q,
   fun o q => h1.run o (h1.mono _ _ _ (fun b z H' s => ite_imp (fun z => h2.run (o.same s) (h2.mono _ _ _ (fun b z H2 s2 => z H2 (s.trans s2)) z)) (fun z => z H' s) z) q)⟩
theorem tr_or {u1 u2 : TT} {c e : DT} (h1 : TR K Γ u1 c) (h2 : TR K Γ u2 e) : TR K Γ (tOr u1 u2) (vOr c e) :=
  ⟨fun δ P P' k q => h1.mono _ _ _ (fun b z => ite_imp (k _) (h2.mono _ _ _ k) z) q,
   fun o q => h1.run o (h1.mono _ _ _ (fun b z H' s => ite_imp (fun z => z H' s) (fun z => h2.run (o.same s) (h2.mono _ _ _ (fun b z H2 s2 => z H2 (s.trans s2)) z)) z) q)⟩
theorem tr_not {u1 : TT} {c : DT} (h1 : TR K Γ u1 c) : TR K Γ (tNot u1) (vNot c) :=
  ⟨fun δ P P' k q => h1.mono _ _ _ (fun b z => k _ z) q, fun o q => h1.run o (h1.mono _ _ _ (fun b z H' s => z H' s) q)⟩
def vAndV (da db : DE) (δ : Dl) (P : DK) : Prop := vTest da δ fun k => if k = true then db δ P else P (.bl false)
def vOrV (da db : DE) (δ : Dl) (P : DK) : Prop := vTest da δ fun k => if k = true then P (.bl true) else db δ P
def vNotV (da : DE) (δ : Dl) (P : DK) : Prop := vTest da δ fun k => P (.bl (!k))
def vIf (c : DT) (da db : DE) (δ : Dl) (P : DK) : Prop := c δ fun k => if k = true then da δ P else db δ P
def vChain (r r' : D2) (da db dc : DE) (δ : Dl) (P : DK) : Prop := da δ fun x => db δ fun y => r x y fun z => asB z fun k => if k = true then dc δ fun w => r' y w P else P (.bl false)
theorem em_chain {r r' : R2} {rv rv' : D2} (ho : OpV K r rv) (ho' : OpV K r' rv') (ha : ER K Γ ta da) (hb : ER K Γ tb db) (hc : ER K Γ tc dc) : EM K Γ [] (tChain r r' ta tb tc) (vChain rv rv' da db dc) :=
  ⟨fun δ P P' k h => ha.mono _ _ _ (fun x z => hb.mono _ _ _ (fun y z => ho.mono x y _ _ (fun u z => vb_in (fun b z => ite_imp (hc.mono _ _ _ fun w z => ho'.mono _ _ _ _ k z) (k _) z) z) z) z) h,
   fun o q => ha.run o (ha.mono _ _ _ (fun x z v H1 s1 r1 => hb.run (o.same s1) (hb.mono _ _ _ (fun y z w H2 s2 r2 => ho.run (r1.same s2) r2 (ho.mono _ _ _ _ (fun u z u' H3 fp s3 r3 n3 => by
    obtain ⟨b, rfl, z⟩ := vb_out z
    have s13 := (s1.trans s2).trans s3
    refine ⟨b, r3.1, ite_imp (fun z => ?_) (fun z => z _ H3 [] s13 ⟨rfl, rfl⟩ Nw.nil) z⟩
    exact hc.run (o.same s13) (hc.mono _ _ _ (fun w z w' H4 s4 r4 => ho'.run (r2.same (s3.trans s4)) r4 (ho'.mono _ _ _ _ (fun u z u' H' fp s r n => z u' H' fp ((s13.trans s4).trans s) r (n.any.later (s13.trans s4))) z)) z)) z)) z)) q)⟩
def vNil (_u0 : Dl) (P : List D → Prop) : Prop := P []
def vCons (da : DE) (dr : DA) (δ : Dl) (P : List D → Prop) : Prop := da δ fun x => dr δ fun xs => P (x :: xs)
theorem ar_nil : AR K Γ tNil vNil := ⟨fun _ _ _ k h => k _ h, fun {_ _ _ _ H _} o q => q [] H (Same.refl H) ⟨[], rfl, rfl⟩⟩
theorem am_nil : AM K Γ [] tNil vNil := ⟨fun _ _ _ k h => k _ h, fun {_ _ _ _ H _} o q => q [] H [] (Same.refl H) ⟨rfl, rfl⟩ Nw.nil⟩
theorem ar_cons {tr : TA} {dr : DA} (ha : ER K Γ ta da) (hr : AR K Γ tr dr) : AR K Γ (tCons ta tr) (vCons da dr) :=
  ⟨fun δ P P' k h => ha.mono _ _ _ (fun x z => hr.mono _ _ _ (fun y z => k _ z) z) h,
   fun o q => ha.run o (ha.mono _ _ _ (fun x z v H1 s1 r1 => hr.run (o.same s1) (hr.mono _ _ _ (fun xs z vs H2 s2 r2 => by
    obtain ⟨f1, r1⟩ := r1.same s2
    obtain ⟨f2, r2⟩ := r2
    exact z _ H2 (s1.trans s2) ⟨f1 ++ f2, _, _, f1, f2, rfl, rfl, r1, r2⟩) z)) q)⟩
theorem am_cons {M' : List Nat} {tr : TA} {dr : DA} (ha : EM K Γ M ta da) (hr : AM K Γ M' tr dr) (hM : ∀ i ∈ M, i ∈ Γ ∧ i ∉ M' := by decide) (hM' : ∀ i ∈ M', i ∈ Γ := by decide) : AM K Γ (M ++ M') (tCons ta tr) (vCons da dr) :=
  ⟨fun δ P P' k h => ha.mono _ _ _ (fun x z => hr.mono _ _ _ (fun y z => k _ z) z) h,
   fun {B0 fps δ σ H Q} o q => ha.run o (ha.mono _ _ _ (fun x z v H1 f1 s1 r1 n1 => hr.run (o.same s1) (hr.mono _ _ _ (fun xs z vs H2 f2 s2 r2 n2 => by
    refine z _ H2 (f1 ++ f2) (s1.trans s2) ⟨_, _, f1, f2, rfl, rfl, r1.same s2, r2⟩ ⟨?_, fun a ha => (List.mem_append.mp ha).elim (fun h => (n1.mu a h).same s2) (n2.mu a), fun a ha => ?_⟩
    · refine List.nodup_append.mpr ⟨n1.nd, n2.nd, fun a h1 b h2 e => ?_⟩
      subst e
      rcases n2.src a h2 with e | ⟨j, hj, e⟩
      · exact (n1.mu a h1).some e
      · rcases n1.src a h1 with e' | ⟨i, hi, e'⟩
        · exact o.dom e e'
        · exact o.dj i (hM i hi).1 j (fun y => (hM i hi).2 (by rw [← y]; exact hj)) a e' e
    · rcases List.mem_append.mp ha with h | h
      · exact (n1.src a h).imp id fun ⟨j, h1, h2⟩ => ⟨j, List.mem_append_left _ h1, h2⟩
      · exact (n2.src a h).elim (fun e => .inl (s1.free e)) fun ⟨j, h1, h2⟩ => .inr ⟨j, List.mem_append_right _ h1, h2⟩) z)) q)⟩
theorem le1000 {n : Nat} (h : n ≤ 1000) : n ≤ sizeLine := Nat.le_trans h (by rw [sizeLine_eq]; decide)
def vLst (da : DA) (δ : Dl) (P : DK) : Prop := da δ fun xs => xs.length ≤ 1000 ∧ P (.lst xs)
def vTup (da : DA) (δ : Dl) (P : DK) : Prop := da δ fun xs => xs.length ≤ 1000 ∧ P (.tup xs)
theorem Same.new' {H : Hp} {p : Addr} {o : HO} (h : H p = none) : Same H (upd H p o) := fun b u e => by rw [upd_ne (ne_of_none e h)]; exact e
theorem em_lst {u : TA} {dr : DA} (hr : AM K Γ M u dr) (hM : ∀ i ∈ M, i ∈ Γ := by decide) : EM K Γ M (tLst u) (vLst dr) :=
  ⟨fun δ P P' k h => hr.mono _ _ _ (fun y z => ⟨z.1, k _ z.2⟩) h,
   fun {B0 fps δ σ H Q} o q => hr.run o (hr.mono _ _ _ (fun xs z vs H1 fp s1 r1 n1 => by
    refine ⟨by rw [r1.length]; exact le1000 z.1, fun p hp => ?_⟩
    have hs : Same H1 (upd H1 p (.lst vs)) := Same.new' hp
    refine z.2 _ _ (p :: fp) (s1.trans hs) ⟨p, vs, fp, rfl, upd_same, rfl, r1.same hs⟩ ⟨List.nodup_cons.mpr ⟨fun h => (n1.mu p h).some hp, n1.nd⟩, fun a ha => ?_, fun a ha => ?_⟩
    · rcases List.mem_cons.mp ha with e | h
      · subst e; exact .inl ⟨vs, upd_same⟩
      · exact (n1.mu a h).same hs
    · rcases List.mem_cons.mp ha with e | h
      · subst e; exact .inl (s1.free hp)
      · exact n1.src a h) q)⟩
theorem em_tup {u : TA} {dr : DA} (hr : AM K Γ M u dr) : EM K Γ M (tTup u) (vTup dr) :=
  ⟨fun δ P P' k h => hr.mono _ _ _ (fun y z => ⟨z.1, k _ z.2⟩) h,
   fun {B0 fps δ σ H Q} o q => hr.run o (hr.mono _ _ _ (fun xs z vs H1 fp s1 r1 n1 => by
    refine ⟨by rw [r1.length]; exact le1000 z.1, fun p hp => ?_⟩
    have hs : Same H1 (upd H1 p (.tup vs)) := Same.new' hp
    exact z.2 _ _ fp (s1.trans hs) ⟨p, vs, rfl, upd_same, r1.same hs⟩ (n1.same hs)) q)⟩
abbrev DSp := List D → DK → Prop
def DMono (S : DSp) : Prop := ∀ xs (P P' : DK), (∀ z, P z → P' z) → S xs P → S xs P'
def spP (K : PySem.W.Frag) (S : DSp) : Sp := fun vs H Q _ => ∃ ds, Rps K H ds vs ∧ S ds fun x => ∀ v H' fp, Same H H' → Rf K H' x v fp → Nw H H' nf [] fp → Q v H'
structure CallV (K : PySem.W.Frag) (r : List V → Hp → VK → Prop) (S : DSp) : Prop where
  mono : DMono S
  run : ∀ {H xs vs Q}, Rps K H xs vs → S xs (fun z => ∀ u H' fp, Same H H' → Rf K H' z u fp → Nw H H' nf [] fp → Q u H') → r vs H Q
def vCall (S : DSp) (dr : DA) (δ : Dl) (P : DK) : Prop := dr δ fun xs => S xs P
theorem em_cb {r : List V → Hp → VK → Prop} {S : DSp} {u : TA} {dr : DA} (hc : CallV K r S) (hr : AR K Γ u dr) : EM K Γ [] (tCB r u) (vCall S dr) :=
  ⟨fun δ P P' k h => hr.mono _ _ _ (fun y z => hc.mono _ _ _ k z) h,
   fun {B0 fps δ σ H Q} o q => hr.run o (hr.mono _ _ _ (fun xs z vs H1 s1 r1 => hc.run r1 (hc.mono _ _ _ (fun u z u' H' fp s r n => z u' H' fp (s1.trans s) r (n.any.later s1)) z)) q)⟩
theorem em_call {S : DSp} {E : XK} {u : TA} {dr : DA} (hS : DMono S) (hr : AR K Γ u dr) : EM K Γ [] (tCall (spP K S) [] E u) (vCall S dr) :=
  ⟨fun δ P P' k h => hr.mono _ _ _ (fun y z => hS _ _ _ k z) h,
   fun {B0 fps δ σ H Q} o q => hr.run o (hr.mono _ _ _ (fun xs z vs H1 s1 r1 => ⟨xs, by rw [List.append_nil]; exact r1, hS _ _ _ (fun u z u' H' fp s r n => z u' H' fp (s1.trans s) r (n.any.later s1)) z⟩) q)⟩
end
end L3
set_option Elab.async false
set_option linter.all false
set_option maxRecDepth 100000
set_option maxHeartbeats 4000000
namespace L3
open PySem L2
structure DEnds where
  nx : Dl → Prop
  rt : D → Dl → Prop
  bk : Dl → Prop
  ct : Dl → Prop
abbrev DS := DEnds → Dl → Prop
structure RtI (B0 : Hp) (Γr : List Nat) (fps : Nat → List Addr) (H : Hp) (fp : List Addr) : Prop where
  nd : fp.Nodup
  mu : ∀ a ∈ fp, Mu H a
  nw : ∀ a ∈ fp, B0 a = none
  dj : ∀ j ∈ Γr, ∀ a ∈ fp, a ∉ fps j
structure EOk (K : PySem.W.Frag) (ρ : Bool) (Γr Γl Γn : List Nat) (B0 : Hp) (Dn : Ends) (E : DEnds) : Prop where
  nx : ∀ {fps δ σ H}, Ok K B0 Γn fps δ σ H → E.nx δ → Dn.nx σ H
  bk : ∀ {fps δ σ H}, Ok K B0 Γl fps δ σ H → E.bk δ → Dn.bk σ H
  ct : ∀ {fps δ σ H}, Ok K B0 Γl fps δ σ H → E.ct δ → Dn.ct σ H
  rt : ∀ {fps δ σ H x v fp}, Ok K B0 Γr fps δ σ H → Rf K H x v fp → (ρ = true → RtI B0 Γr fps H fp) → E.rt x δ → Dn.rt v H
def ST (K : PySem.W.Frag) (ρ : Bool) (Γr Γl : List Nat) (t : TS) (Γ Γn : List Nat) (d : DS) : Prop :=
  ∀ ⦃B0 : Hp⦄ ⦃Dn : Ends⦄ ⦃E : DEnds⦄ ⦃fps : Nat → List Addr⦄ ⦃δ : Dl⦄ ⦃σ : St⦄ ⦃H : Hp⦄, EOk K ρ Γr Γl Γn B0 Dn E → Ok K B0 Γ fps δ σ H → d E δ → t Dn σ H
section
variable {K : PySem.W.Frag} {ρ : Bool} {Γr Γl Γ Γ1 Γ2 Γn M : List Nat} {t u : TS} {te ta tb : TE} {de da db : DE} {d e : DS}
def vNext (E : DEnds) (δ : Dl) : Prop := E.nx δ
def vSeq (d e : DS) (E : DEnds) (δ : Dl) : Prop := d { E with nx := e E } δ
theorem st_next : ST K ρ Γr Γl tNext Γ Γ vNext := fun _ _ _ _ _ _ _ k o h => k.nx o h
theorem st_seq (h1 : ST K ρ Γr Γl t Γ Γ1 d) (h2 : ST K ρ Γr Γl u Γ1 Γ2 e) : ST K ρ Γr Γl (tSeq t u) Γ Γ2 (vSeq d e) :=
  fun {B0 Dn E fps δ σ H} k o h => h1 (Dn := { Dn with nx := u Dn }) (E := { E with nx := e E }) ⟨fun o h => h2 k o h, k.bk, k.ct, k.rt⟩ o h
theorem ST.post (h : ST K ρ Γr Γl t Γ Γ1 d) (s : ∀ i ∈ Γn, i ∈ Γ1 := by decide) : ST K ρ Γr Γl t Γ Γn d := fun _ _ _ _ _ _ _ k o q => h ⟨fun o h => k.nx (o.sub s) h, k.bk, k.ct, k.rt⟩ o q
def vSetM (M : List Nat) (i : Nat) (de : DE) (E : DEnds) (δ : Dl) : Prop := de δ fun x => E.nx ((kill M δ).set i (some x))
theorem st_setM (i : Nat) (he : EM K Γ M te de) (hM : ∀ j ∈ M, j ∈ Γ := by decide) : ST K ρ Γr Γl (tAsg te (gName i)) Γ (i :: minus (minus Γ M) [i]) (vSetM M i de) :=
  fun _ _ _ _ _ _ _ k o h => he.run o (he.mono _ _ _ (fun x z v H' fp s r n => k.nx (o.setMv i hM s r n) z) h)
def vSet (i : Nat) (de : DE) (E : DEnds) (δ : Dl) : Prop := de δ fun x => E.nx (δ.set i (some x))
theorem st_setS (i : Nat) (he : ES K Γ te de) : ST K ρ Γr Γl (tAsg te (gName i)) Γ (minus Γ [i]) (vSet i de) :=
  fun _ _ _ _ _ _ _ k o h => he.run o (he.mono _ _ _ (fun x z v H' fp s r n => k.nx (o.setSh i s r n) z) h)
def vDrop (de : DE) (E : DEnds) (δ : Dl) : Prop := de δ fun _ => E.nx δ
def vRet (M : List Nat) (de : DE) (E : DEnds) (δ : Dl) : Prop := de δ fun x => E.rt x (kill M δ)
theorem st_ret (he : EM K Γ M te de) (hM : ∀ j ∈ M, j ∈ Γ := by decide) (hr : ∀ j ∈ Γr, j ∈ Γ ∧ j ∉ M := by decide) : ST K ρ Γr Γl (tRet te) Γ Γn (vRet M de) :=
  fun {B0 Dn E fps δ σ H} k o h => he.run o (he.mono _ _ _ (fun x z v H' fp s r n => by
    have ok := ((o.kill M).same s).sub (Γ' := Γr) fun i hi => mem_minus.mpr (hr i hi)
    refine k.rt ok r (fun _ => ⟨n.nd, n.mu, fun a ha => ?_, fun j hj a ha => ?_⟩) z
    · rcases n.src a ha with e | ⟨i, hi, e⟩
      · exact o.b0.free e
      · exact ((o.own i (hM i hi)).2 a e).1
    · show a ∉ if j ∈ M then [] else fps j
      rw [if_neg (hr j hj).2]
      intro z
      rcases n.src a ha with e | ⟨i, hi, e⟩
      · exact o.dom z e
      · exact o.dj i (hM i hi) j (fun y => (hr j hj).2 (by rw [y]; exact hi)) a e z) h)
theorem st_retR (he : ER K Γ te de) (hr : ∀ j ∈ Γr, j ∈ Γ := by decide) : ST K false Γr Γl (tRet te) Γ Γn (vRet [] de) :=
  fun {B0 Dn E fps δ σ H} k o h => he.run o (he.mono _ _ _ (fun x z v H' s r => by
    obtain ⟨fp, r⟩ := r
    exact k.rt ((o.same s).sub hr) r (fun z => by cases z) z) h)
def vRetN (E : DEnds) (δ : Dl) : Prop := E.rt .non δ
theorem st_retN (hr : ∀ j ∈ Γr, j ∈ Γ := by decide) : ST K ρ Γr Γl tRetN Γ Γn vRetN :=
  fun {B0 Dn E fps δ σ H} k o h => k.rt (o.sub hr) (Rf.ofScal (d := .non) rfl) (fun _ => ⟨List.nodup_nil, fun _ h => (nomatch h), fun _ h => (nomatch h), fun _ _ _ h => (nomatch h)⟩) h
def vIfS (c : DT) (d e : DS) (E : DEnds) (δ : Dl) : Prop := c δ fun b => if b = true then d E δ else e E δ
theorem st_if {c : TT} {dc : DT} (hc : TR K Γ c dc) (h1 : ST K ρ Γr Γl t Γ Γn d) (h2 : ST K ρ Γr Γl u Γ Γn e) : ST K ρ Γr Γl (tIfS c t u) Γ Γn (vIfS dc d e) :=
  fun _ _ _ _ _ _ _ k o h => hc.run o (hc.mono _ _ _ (fun b z H' s => ite_imp (fun z => h1 k (o.same s) z) (fun z => h2 k (o.same s) z) z) h)
structure GT (K : PySem.W.Frag) (Γ : List Nat) (g : TG) (dg : D → Dl → (Dl → Prop) → Prop) : Prop where
  mono : ∀ x δ (P P' : Dl → Prop), (∀ z, P z → P' z) → dg x δ P → dg x δ P'
  run : ∀ {B0 fps δ σ H x v fp Q}, Ok K B0 Γ fps δ σ H → Rf K H x v fp → (∀ j ∈ Γ, ∀ a ∈ fp, a ∉ fps j) → dg x δ (fun δ' => ∀ fps' σ', Ok K B0 Γ fps' δ' σ' H → (∀ j ∈ Γ, fps' j = fps j) → Q σ' H) → g v σ H Q
structure GTs (K : PySem.W.Frag) (Γ : List Nat) (g : TGs) (dg : List D → Dl → (Dl → Prop) → Prop) : Prop where
  mono : ∀ x δ (P P' : Dl → Prop), (∀ z, P z → P' z) → dg x δ P → dg x δ P'
  run : ∀ {B0 fps δ σ H x v fp Q}, Ok K B0 Γ fps δ σ H → Rfs K H x v fp → (∀ j ∈ Γ, ∀ a ∈ fp, a ∉ fps j) → dg x δ (fun δ' => ∀ fps' σ', Ok K B0 Γ fps' δ' σ' H → (∀ j ∈ Γ, fps' j = fps j) → Q σ' H) → g v σ H Q
def vgName (i : Nat) (x : D) (δ : Dl) (P : Dl → Prop) : Prop := P (δ.set i (some x))
theorem gt_name (i : Nat) (h : i ∉ Γ := by decide) : GT K Γ (gName i) (vgName i) := ⟨fun _ _ _ _ k h => k _ h, fun {B0 fps δ σ H x v fp Q} o r n q => by
  have ok := (o.setSh i (Same.refl H) r n).sub (Γ' := Γ) fun j hj => mem_minus.mpr ⟨hj, fun z => h (by rw [← List.mem_singleton.mp z]; exact hj)⟩
  exact q _ _ ok fun j hj => by rw [if_neg (fun z => h (by rw [← z]; exact hj))]⟩
def vgNil (xs : List D) (δ : Dl) (P : Dl → Prop) : Prop := match xs with | [] => P δ | _ => False
def vgCons (dg : D → Dl → (Dl → Prop) → Prop) (dr : List D → Dl → (Dl → Prop) → Prop) (xs : List D) (δ : Dl) (P : Dl → Prop) : Prop := match xs with | x :: r => dg x δ fun δ' => dr r δ' P | [] => False
theorem gts_nil : GTs K Γ gNil vgNil := ⟨fun x _ _ _ k h => by cases x with | nil => exact k _ h | cons _ _ => exact h, fun {B0 fps δ σ H x v fp Q} o r n q => by
  cases x with
  | nil => obtain ⟨rfl, _⟩ := r; exact ⟨rfl, q _ _ o fun _ _ => rfl⟩
  | cons _ _ => exact q.elim⟩
theorem gts_cons {g : TG} {gs : TGs} {dg : D → Dl → (Dl → Prop) → Prop} {dr : List D → Dl → (Dl → Prop) → Prop} (h1 : GT K Γ g dg) (h2 : GTs K Γ gs dr) : GTs K Γ (gCons g gs) (vgCons dg dr) :=
  ⟨fun x _ _ _ k h => by
    cases x with
    | nil => exact h
    | cons x r => exact h1.mono _ _ _ _ (fun z h => h2.mono _ _ _ _ k h) h,
   fun {B0 fps δ σ H x v fp Q} o r n q => by
    cases x with
    | nil => exact q.elim
    | cons x xs =>
      obtain ⟨y, ys, f1, f2, rfl, rfl, r1, r2⟩ := r
      refine ⟨y, ys, rfl, h1.run o r1 (fun j hj a ha => n j hj a (List.mem_append_left _ ha)) (h1.mono _ _ _ _ (fun δ' z fps' σ' o' e => ?_) q)⟩
      exact h2.run o' r2 (fun j hj a ha => by rw [e j hj]; exact n j hj a (List.mem_append_right _ ha)) (h2.mono _ _ _ _ (fun δ2 z fps2 σ2 o2 e2 => z fps2 σ2 o2 fun j hj => (e2 j hj).trans (e j hj)) z)⟩
def vgTup (n : Nat) (dg : List D → Dl → (Dl → Prop) → Prop) (x : D) (δ : Dl) (P : Dl → Prop) : Prop := match x with | .tup ds => ds.length = n ∧ dg ds δ P | _ => False
theorem gt_tup {n : Nat} {g : TGs} {dg : List D → Dl → (Dl → Prop) → Prop} (h : GTs K Γ g dg) : GT K Γ (gTup K n g) (vgTup n dg) :=
  ⟨fun x δ P P' k h' => by unfold vgTup at h' ⊢; revert h'; split <;> first | exact fun h' => ⟨h'.1, h.mono _ _ _ _ k h'.2⟩ | exact id,
   fun {B0 fps δ σ H x v fp Q} o r nn q => by
    unfold vgTup at q
    split at q
    · obtain ⟨a, xs, e1, e2, r⟩ := r
      exact ⟨a, xs, e1, .inl (.inl e2), r.length.trans q.1, h.run o r nn q.2⟩
    · exact q.elim⟩
def vAsg (de : DE) (dg : D → Dl → (Dl → Prop) → Prop) (E : DEnds) (δ : Dl) : Prop := de δ fun x => dg x δ E.nx
theorem st_asgS {g : TG} {dg : D → Dl → (Dl → Prop) → Prop} (he : ES K Γ te de) (hg : GT K Γ g dg) : ST K ρ Γr Γl (tAsg te g) Γ Γ (vAsg de dg) :=
  fun _ _ _ _ _ _ _ k o h => he.run o (he.mono _ _ _ (fun x z v H' fp s r n => hg.run (o.same s) r n (hg.mono _ _ _ _ (fun δ' z fps' σ' o' _ => k.nx o' z) z)) h)
structure ItOk (K : PySem.W.Frag) (J : It) (B : Hp) (ds : List D) : Prop where
  go : ∀ {i H}, Same B H → i < ds.length → J.go i H
  yld : ∀ {i H x H' d}, Same B H → J.yld i H x H' → ds[i]? = some d → Same H H' ∧ ∃ fp, Rf K H' d x fp ∧ ∀ a ∈ fp, B a ≠ none
  stop : ∀ {i H}, Same B H → ds.length ≤ i → J.stop i H
abbrev DI := Dl → (List D → Prop) → Prop
structure IT (K : PySem.W.Frag) (Γ : List Nat) (wi : TI) (di : DI) : Prop where
  mono : ∀ δ (P P' : List D → Prop), (∀ x, P x → P' x) → di δ P → di δ P'
  run : ∀ {B0 fps δ σ H R}, Ok K B0 Γ fps δ σ H → di δ (fun ds => ∀ (J : It) (H' : Hp) (fq : List Addr), Same H H' → (∀ j ∈ Γ, ∀ a ∈ fq, a ∉ fps j) →
    (∀ B, Same B H' → (∀ a ∈ fq, B a = H' a) → (∀ a o, H' a = some o → Im o → B a = some o) → ItOk K J B ds) → R J H') → wi σ H R
def asL (x : D) (P : List D → Prop) : Prop := match x.items with | some ds => P ds | none => False
theorem asL_out {x : D} {P : List D → Prop} (h : asL x P) : ∃ ds, x.items = some ds ∧ P ds := by
  unfold asL at h; split at h
  · exact ⟨_, by assumption, h⟩
  · exact h.elim
theorem asL_in {x : D} {ds : List D} {P : List D → Prop} (e : x.items = some ds) (h : P ds) : asL x P := by unfold asL; rw [e]; exact h
def vItL (de : DE) (δ : Dl) (P : List D → Prop) : Prop := de δ fun x => asL x P
theorem it_list (he : ES K Γ te de) : IT K Γ (iList K te) (vItL de) :=
  ⟨fun δ P P' k h => he.mono _ _ _ (fun x z => by obtain ⟨ds, e, z⟩ := asL_out z; exact asL_in e (k _ z)) h,
   fun {B0 fps δ σ H R} o h => he.run o (he.mono _ _ _ (fun x z v H' fp s r n => by
    obtain ⟨ds, ex, z⟩ := asL_out z
    obtain ⟨a, xs, fq, rfl, hs, hr, hin⟩ := r.seq ex
    refine ⟨a, rfl, ⟨xs, hs⟩, z (Itl K a) H' fp s n fun B sB ag im => ?_⟩
    have rB : Rf K B x (.ref a) fp := r.mono (fun b hb u e => by rw [ag b hb]; exact e) im
    obtain ⟨a', xs', fq', e1, hs', hr', hin'⟩ := rB.seq ex
    cases e1
    have sq : ∀ {H2 : Hp}, Same B H2 → SqL K H2 a xs' := fun s2 => by
      rcases hs' with (h | ⟨o', h⟩) | h
      · exact .inl (.inl (s2 _ _ h))
      · exact .inl (.inr ⟨o', s2 _ _ h⟩)
      · exact .inr h
    have hl := hr'.length
    refine ⟨fun {i H2} s2 hi => ⟨xs', xs'[i]'(by omega), sq s2, by simp [hl, hi]⟩, fun {i H2 y H3 d} s2 hy hd => ?_, fun {i H2} s2 hi => ⟨xs', sq s2, by omega⟩⟩
    obtain ⟨rfl, hy⟩ := hy
    have e2 := hy xs' (sq s2)
    obtain ⟨d', f, e3, r3, k3⟩ := hr'.get' e2
    rw [hd] at e3; cases e3
    exact ⟨Same.refl _, f, r3.same s2, fun b hb => by
      obtain ⟨u, hu, _⟩ := r3.dom b hb
      rw [hu]; intro z; cases z⟩) h)⟩
def asI (xs : List D) (P : Int → Prop) : Prop := match xs with | [.int j] => P j | _ => False
def asII (xs : List D) (P : Int → Int → Prop) : Prop := match xs with | [.int i, .int j] => P i j | _ => False
theorem asI_out {xs : List D} {P : Int → Prop} (h : asI xs P) : ∃ j, xs = [.int j] ∧ P j := by
  unfold asI at h; split at h
  · exact ⟨_, rfl, h⟩
  · exact h.elim
theorem asII_out {xs : List D} {P : Int → Int → Prop} (h : asII xs P) : ∃ i j, xs = [.int i, .int j] ∧ P i j := by
  unfold asII at h; split at h
  · exact ⟨_, _, rfl, h⟩
  · exact h.elim
def intsD (lo : Int) (n : Nat) : List D := (List.range n).map fun (k : Nat) => .int (lo + (k : Int))
theorem itr_ok {lo : Int} {n : Nat} {B : Hp} : ItOk K (Itr lo n) B (intsD lo n) := ⟨fun {i H2} s2 hi => by unfold Itr; simpa [intsD] using hi, fun {i H2 y H3 d} s2 hy hd => by
  obtain ⟨rfl, rfl⟩ := hy
  unfold intsD at hd
  rw [List.getElem?_map] at hd
  cases e : (List.range n)[i]? with
  | none => rw [e] at hd; cases hd
  | some k =>
    rw [e] at hd
    obtain ⟨h1, h2⟩ := List.getElem?_eq_some_iff.mp e
    rw [List.getElem_range] at h2
    subst h2
    cases hd
    exact ⟨Same.refl _, [], ⟨rfl, rfl⟩, fun _ h => nomatch h⟩, fun {i H2} s2 hi => by unfold Itr; simpa [intsD] using hi⟩
def vRng1 (da : DA) (δ : Dl) (P : List D → Prop) : Prop := da δ fun xs => asI xs fun j => (-(2 ^ 62) ≤ j ∧ j < 2 ^ 62) ∧ P (intsD 0 j.toNat)
def vRng2 (da : DA) (δ : Dl) (P : List D → Prop) : Prop := da δ fun xs => asII xs fun i j => (-(2 ^ 62) ≤ i ∧ i < 2 ^ 62 ∧ -(2 ^ 62) ≤ j ∧ j < 2 ^ 62) ∧ P (intsD i (j - i).toNat)
theorem Rps.ints1 {H : Hp} {j : Int} {vs : List V} (h : Rps K H [.int j] vs) : vs = [.int j] := by
  obtain ⟨fp, x, r, f1, f2, rfl, _, ⟨rfl, _⟩, ⟨rfl, _⟩⟩ := h; rfl
theorem Rps.ints2 {H : Hp} {i j : Int} {vs : List V} (h : Rps K H [.int i, .int j] vs) : vs = [.int i, .int j] := by
  obtain ⟨fp, x, r, f1, f2, rfl, _, ⟨rfl, _⟩, y, r', f1, f2, rfl, _, ⟨rfl, _⟩, ⟨rfl, _⟩⟩ := h; rfl
theorem it_rng1 {u : TA} {da : DA} (ha : AR K Γ u da) : IT K Γ (iRng1 u) (vRng1 da) :=
  ⟨fun δ P P' k h => ha.mono _ _ _ (fun x z => by obtain ⟨j, rfl, z⟩ := asI_out z; exact ⟨z.1, k _ z.2⟩) h,
   fun {B0 fps δ σ H R} o h => ha.run o (ha.mono _ _ _ (fun xs z vs H' s r => by
    obtain ⟨j, rfl, z⟩ := asI_out z
    exact ⟨j, r.ints1, z.1.1, z.1.2, z.2 _ H' [] s (fun _ _ _ h => (nomatch h)) fun B _ _ _ => itr_ok⟩) h)⟩
def vLoop (dg : D → Dl → (Dl → Prop) → Prop) (db : DS) (E : DEnds) : List D → Dl → Prop
  | [], δ => E.nx δ
  | x :: xs, δ => dg x δ fun δ' => db { nx := vLoop dg db E xs, ct := vLoop dg db E xs, bk := E.nx, rt := E.rt } δ'
def vFor (di : DI) (dg : D → Dl → (Dl → Prop) → Prop) (db : DS) (E : DEnds) (δ : Dl) : Prop := di δ fun ds => vLoop dg db E ds δ
theorem RtI.base {B1 B0 : Hp} {fps : Nat → List Addr} {H : Hp} {fp : List Addr} (r : RtI B1 Γr fps H fp) (s : Same B0 B1) : RtI B0 Γr fps H fp := ⟨r.nd, r.mu, fun a ha => s.free (r.nw a ha), r.dj⟩
theorem st_for {wi : TI} {di : DI} {g : TG} {dg : D → Dl → (Dl → Prop) → Prop} {tb : TS} {db : DS} (hi : IT K Γ wi di) (hg : GT K Γ g dg) (hb : ST K ρ Γr Γ tb Γ Γ db) : ST K ρ Γr Γl (tFor wi g tb) Γ Γ (vFor di dg db) := by
  intro B0 Dn E fps δ σ H k o h
  refine hi.run o (hi.mono _ _ _ (fun ds z J H1 fq s1 n1 hit => ?_) h)
  obtain ⟨B1, sB, o1, ag⟩ := (o.same s1).rebase
  have hJ : ItOk K J B1 ds := hit B1 o1.b0 (fun a ha => ag a fun j hj => n1 j hj a ha) fun a u e im => by
    rw [ag a fun j hj ha => ((o1.own j hj).2 a ha).2.notup u e im]; exact e
  refine ⟨fun i m σ H => m = ds.length - i ∧ i ≤ ds.length ∧ ∃ fps δ, Ok K B1 Γ fps δ σ H ∧ vLoop dg db E (ds.drop i) δ, ⟨ds.length, by omega, Nat.zero_le _, fps, δ, o1, by rw [List.drop_zero]; exact z⟩, ?_⟩
  rintro i m σ2 H2 ⟨rfl, hi2, fps2, δ2, o2, z2⟩
  by_cases hlt : i < ds.length
  · refine .inr ⟨hJ.go o2.b0 hlt, _, fun σ' H' q => q, fun x H3 hy => ?_⟩
    obtain ⟨s3, fp, r3, n3⟩ := hJ.yld o2.b0 hy (List.getElem?_eq_getElem hlt)
    rw [List.drop_eq_getElem_cons hlt] at z2
    refine hg.run (o2.same s3) r3 (fun j hj a ha hz => n3 a ha ((o2.own j hj).2 a hz).1) (hg.mono _ _ _ _ (fun δ' z' fps' σ' o' e' => ?_) z2)
    refine hb (E := { nx := vLoop dg db E (ds.drop (i + 1)), ct := vLoop dg db E (ds.drop (i + 1)), bk := E.nx, rt := E.rt }) ⟨fun o4 z4 => ⟨ds.length - (i + 1), by omega, rfl, hlt, _, _, o4, z4⟩, fun o4 z4 => k.nx (o4.base sB) z4, fun o4 z4 => ⟨ds.length - (i + 1), by omega, rfl, hlt, _, _, o4, z4⟩, fun o4 r4 i4 z4 => k.rt (o4.base sB) r4 (fun y => (i4 y).base sB) z4⟩ o' z'
  · have e : i = ds.length := by omega
    subst e
    rw [List.drop_length] at z2
    exact .inl ⟨hJ.stop o2.b0 (Nat.le_refl _), k.nx (o2.base sB) z2⟩
def cbaseD (k : Nat) (idx : List Nat) (δ : Dl) : Dl := List.replicate k none ++ idx.map fun i => (δ[i]?).getD none
theorem cb_ok {k : Nat} {idx : List Nat} {B0 : Hp} {fps : Nat → List Addr} {δ : Dl} {σ : St} {H : Hp} (o : Ok K B0 Γ fps δ σ H) : Ok K H [] (fun j => match (cbaseD k idx δ)[j]? with | some (some _) => fps (idx.getD (j - k) 0) | _ => []) (cbaseD k idx δ) (cbase k idx σ) H := by
  refine ⟨by simp [cbaseD, cbase, caps], Same.refl H, fun i d e => ?_, fun i h => ?_, fun _ h => (nomatch h), fun _ h => (nomatch h)⟩
  · rw [e]
    unfold cbaseD at e
    unfold cbase caps
    by_cases hi : i < k
    · rw [List.getElem?_append_left (by simpa using hi)] at e
      simp [hi] at e
    · rw [List.getElem?_append_right (by simpa using hi), List.length_replicate, List.getElem?_map] at e
      cases ej : idx[i - k]? with
      | none => rw [ej] at e; simp at e
      | some j =>
        rw [ej] at e
        simp only [Option.map_some, Option.some.injEq] at e
        have e' : δ[j]? = some (some d) := by
          cases q : δ[j]? with
          | none => rw [q] at e; cases e
          | some x => rw [q] at e; simp at e; rw [e]
        obtain ⟨v, h1, h2⟩ := o.val j d e'
        refine ⟨v, ?_, ?_⟩
        · rw [List.getElem?_append_right (by simpa using hi), List.length_replicate, List.getElem?_map, ej]
          simp [h1]
        · show Rf K H d v (fps (idx.getD (i - k) 0))
          rw [List.getD_eq_getElem?_getD, ej]
          exact h2
  · show (match (cbaseD k idx δ)[i]? with | some (some _) => _ | _ => _) = _
    split
    · exact absurd (by assumption) (h _)
    · rfl
def vBody (dg : D → Dl → (Dl → Prop) → Prop) (dt : DT) (de : DE) (δ : Dl) (x : D) (R : List D → Prop) : Prop := dg x δ fun δ2 => dt δ2 fun b => if b = true then de δ2 fun y => R [y] else R []
def vYes (_u0 : Dl) (P : Bool → Prop) : Prop := P true
def startD (N : List Str) (ds : List D) : Dl := ds.map some ++ List.replicate (N.length - ds.length) none
theorem Rfs.split {H : Hp} : ∀ {ds : List D} {vs : List V} {fp : List Addr}, Rfs K H ds vs fp → ∃ fps : Nat → List Addr, (∀ i d, ds[i]? = some d → ∃ v, vs[i]? = some v ∧ Rf K H d v (fps i)) ∧ ∀ i, ds.length ≤ i → fps i = []
  | [], vs, fp, h => ⟨fun _ => [], fun i d e => by simp at e, fun _ _ => rfl⟩
  | d :: ds, vs, fp, h => by
    obtain ⟨x, r, f1, f2, rfl, rfl, h1, h2⟩ := h
    obtain ⟨fps, k1, k2⟩ := Rfs.split h2
    refine ⟨fun i => match i with | 0 => f1 | j + 1 => fps j, fun i d' e => ?_, fun i hi => ?_⟩
    · cases i with
      | zero => simp at e; subst e; exact ⟨x, rfl, h1⟩
      | succ j => simpa using k1 j d' (by simpa using e)
    · cases i with
      | zero => simp at hi
      | succ j => exact k2 j (by simpa using hi)
theorem start_ok {N : List Str} {ds : List D} {vs : List V} {H : Hp} (h : Rps K H ds vs) : ∃ fps, Ok K H [] fps (startD N ds) (L2.start N vs) H := by
  obtain ⟨fp, h⟩ := h
  have hl := h.length
  obtain ⟨fps, k1, k2⟩ := h.split
  refine ⟨fps, by simp [startD, L2.start, hl], Same.refl H, fun i d e => ?_, fun i e => ?_, fun _ h => (nomatch h), fun _ h => (nomatch h)⟩
  · unfold startD at e
    unfold L2.start
    by_cases hi : i < ds.length
    · rw [List.getElem?_append_left (by simpa using hi), List.getElem?_map, List.getElem?_eq_getElem hi] at e
      simp at e
      obtain ⟨v, h1, h2⟩ := k1 i d (by rw [List.getElem?_eq_getElem hi, e])
      exact ⟨v, by rw [List.getElem?_append_left (by simpa [hl] using hi), List.getElem?_map, h1]; rfl, h2⟩
    · rw [List.getElem?_append_right (by simpa using hi), List.getElem?_replicate] at e
      split at e <;> cases e
  · by_cases hi : i < ds.length
    · refine absurd ?_ (e ds[i])
      unfold startD
      rw [List.getElem?_append_left (by simpa using hi), List.getElem?_map, List.getElem?_eq_getElem hi]
      rfl
    · exact k2 i (by omega)
abbrev endsD (P : DK) : DEnds := ⟨fun _ => P .non, fun x _ => P x, fun _ => False, fun _ => False⟩
theorem fn_val {N : List Str} {S : DSp} (hs : ST K true [] [] t [] Γn d) (hd : ∀ ds P, S ds P → d (endsD P) (startD N ds)) :
    ∀ {vs H Q E}, spP K S vs H Q E → t { nx := fun _ H' => Q .non H', rt := Q } (L2.start N vs) H := by
  rintro vs H Q E ⟨ds, r, h⟩
  obtain ⟨fps, o⟩ := start_ok (N := N) r
  refine hs (E := endsD _) ⟨fun {fps δ σ H'} o z => ?_, fun o (z : False) => z.elim, fun o (z : False) => z.elim, fun o r i z => ?_⟩ o (hd ds _ h)
  · exact z _ H' [] o.b0 ⟨rfl, rfl⟩ Nw.nil
  · exact z _ _ _ o.b0 r ⟨(i rfl).nd, (i rfl).mu, fun a ha => .inl ((i rfl).nw a ha)⟩
end
end L3
set_option Elab.async false
set_option linter.all false
set_option maxRecDepth 100000
set_option maxHeartbeats 4000000
namespace L3
open PySem L2
section
variable {K : PySem.W.Frag} {ρ : Bool} {Γr Γl Γ Γ1 Γ2 Γn M : List Nat} {t u : TS} {te ta tb tx t1 t2 : TE} {de da db dx d1 d2 : DE} {d e : DS}
variable {B0 : Hp} {fps : Nat → List Addr} {δ : Dl} {σ : St} {H H' : Hp}
theorem Ok.write (o : Ok K B0 Γ fps δ σ H) {i : Nat} (hi : i ∈ Γ) {d' : D} {v : V} {fp' : List Addr} (hv : σ[i]? = some (some v)) (r : Rf K H' d' v fp') (nd : fp'.Nodup) (mu : ∀ a ∈ fp', Mu H' a)
    (src : ∀ a ∈ fp', a ∈ fps i ∨ (B0 a = none ∧ ∀ j, a ∉ fps j)) (keep : ∀ b u, b ∉ fps i → H b = some u → H' b = some u) :
    Ok K B0 Γ (fun j => if j = i then fp' else fps j) (δ.set i (some d')) σ H' := by
  have hlt : i < δ.length := by rw [← o.len]; exact (List.getElem?_eq_some_iff.mp hv).1
  refine ⟨by simp [o.len], fun b u e => ?_, fun j d e => ?_, fun j h => ?_, fun j hj => ?_, fun j hj k hk a ha => ?_⟩
  · refine keep b u (fun z => ?_) (o.b0 b u e)
    have := ((o.own i hi).2 b z).1
    rw [e] at this; cases this
  · by_cases h : j = i
    · subst h
      rw [List.getElem?_set] at e
      simp [hlt] at e
      subst e
      exact ⟨v, hv, by rw [if_pos rfl]; exact r⟩
    · rw [List.getElem?_set_ne (Ne.symm h)] at e
      obtain ⟨w, h1, h2⟩ := o.val j d e
      refine ⟨w, h1, ?_⟩
      rw [if_neg h]
      exact h2.mono (fun a ha u e => keep a u (fun z => o.dj i hi j h a z ha) e) fun a u e im => keep a u (fun z => ((o.own i hi).2 a z).2.notup u e im) e
  · by_cases h' : j = i
    · subst h'
      exact absurd (by rw [List.getElem?_set]; simp [hlt]) (h d')
    · rw [if_neg h']
      exact o.non j fun d z => h d (by rw [List.getElem?_set_ne (Ne.symm h')]; exact z)
  · by_cases h : j = i
    · subst h
      rw [if_pos rfl]
      refine ⟨nd, fun a ha => ⟨?_, mu a ha⟩⟩
      rcases src a ha with z | z
      · exact ((o.own j hi).2 a z).1
      · exact z.1
    · rw [if_neg h]
      refine ⟨(o.own j hj).1, fun a ha => ⟨((o.own j hj).2 a ha).1, ?_⟩⟩
      have hn : a ∉ fps i := fun z => o.dj i hi j h a z ha
      rcases ((o.own j hj).2 a ha).2 with ⟨x, z⟩ | ⟨x, z⟩ | ⟨x, z⟩ | ⟨C, dx, fs, z⟩
      · exact .inl ⟨x, keep a _ hn z⟩
      · exact .inr (.inl ⟨x, keep a _ hn z⟩)
      · exact .inr (.inr (.inl ⟨x, keep a _ hn z⟩))
      · exact .inr (.inr (.inr ⟨C, dx, fs, keep a _ hn z⟩))
  · by_cases h : j = i
    · subst h
      rw [if_pos rfl] at ha
      rw [if_neg hk]
      rcases src a ha with z | z
      · exact o.dj j hi k hk a z
      · exact z.2 k
    · rw [if_neg h] at ha
      by_cases hki : k = i
      · rw [if_pos hki]
        intro z
        rcases src a z with y | y
        · exact o.dj j hj i (Ne.symm h) a ha y
        · exact y.2 j ha
      · rw [if_neg hki]
        exact o.dj j hj k hk a ha
def slotL (δ : Dl) (i : Nat) (P : List D → Prop) : Prop := match δ[i]? with | some (some (.lst ds)) => P ds | _ => False
theorem slotL_out {δ : Dl} {i : Nat} {P : List D → Prop} (h : slotL δ i P) : ∃ ds, δ[i]? = some (some (.lst ds)) ∧ P ds := by
  unfold slotL at h; split at h
  · exact ⟨_, by assumption, h⟩
  · exact h.elim
theorem Ok.ownL (o : Ok K B0 Γ fps δ σ H) {i : Nat} {ds : List D} (e : δ[i]? = some (some (.lst ds))) : ∃ a xs fq, σ[i]? = some (some (.ref a)) ∧ H a = some (.lst xs) ∧ fps i = a :: fq ∧ Rfs K H ds xs fq := by
  obtain ⟨v, h1, a, xs, fq, rfl, h2, h3, h4⟩ := o.val i _ e
  exact ⟨a, xs, fq, h1, h2, h3, h4⟩
theorem updKeep {a : Addr} {w : HO} {fp : List Addr} (ha : a ∈ fp) : ∀ b u, b ∉ fp → H b = some u → upd H a w b = some u := fun b u hb e => by
  rw [upd_ne (fun z => hb (by rw [z]; exact ha))]; exact e
def vAppend (M : List Nat) (i : Nat) (de : DE) (E : DEnds) (δ : Dl) : Prop := slotL δ i fun ds => de δ fun x => ds.length < 1000 ∧ E.nx ((kill M δ).set i (some (.lst (ds ++ [x]))))
theorem st_append (i : Nat) (he : EM K Γ M te de) (hi : i ∈ Γ ∧ i ∉ M := by decide) (hM : ∀ j ∈ M, j ∈ Γ := by decide) : ST K ρ Γr Γl (tDrop (tBM K "list" rAppend (tVar i) (tCons te tNil))) Γ (minus Γ M) (vAppend M i de) := by
  intro B0 Dn E fps δ σ H k o h
  obtain ⟨ds, e, h⟩ := slotL_out h
  obtain ⟨a, xs, fq, h1, h2, h3, h4⟩ := o.ownL e
  refine ⟨.ref a, h1, .inl ⟨rfl, xs, .inl (.inl h2)⟩, he.run o (he.mono _ _ _ (fun x z v H1 fp s r n => ?_) h)⟩
  refine ⟨a, xs, v, rfl, rfl, s _ _ h2, by rw [h4.length]; exact Nat.lt_of_lt_of_le z.1 (le1000 (Nat.le_refl _)), ?_⟩
  have ok := (o.kill M).same s
  have hil : i ∈ minus Γ M := mem_minus.mpr hi
  have hown := o.own i hi.1
  rw [h3] at hown
  obtain ⟨nd, hmu⟩ := hown
  obtain ⟨na, ndq⟩ := List.nodup_cons.mp nd
  have hfa : ∀ b ∈ fp, b ≠ a ∧ b ∉ fq := fun b hb => by
    have : b ∉ fps i := fun z => by
      rcases n.src b hb with y | ⟨j, hj, y⟩
      · exact o.dom z y
      · exact o.dj j (hM j hj) i (fun w => hi.2 (by rw [w]; exact hj)) b y z
    rw [h3] at this
    exact ⟨fun z => this (by rw [z]; exact List.mem_cons_self), fun z => this (List.mem_cons_of_mem _ z)⟩
  have nt := ((hmu a List.mem_cons_self).2.same s).notup
  refine k.nx (ok.write hil (d' := .lst (ds ++ [x])) (fp' := a :: (fq ++ fp)) h1 ⟨a, xs ++ [v], fq ++ fp, rfl, upd_same, rfl, ?_⟩ ?_ (fun b hb => ?_) (fun b hb => ?_) ?_) z.2
  · exact ((h4.same s).upd na nt).append ((Rfs.one r).upd (fun w => (hfa a w).1 rfl) nt)
  · refine List.nodup_cons.mpr ⟨fun w => ?_, List.nodup_append.mpr ⟨ndq, n.nd, fun b h1 c h2 z => ?_⟩⟩
    · rcases List.mem_append.mp w with w | w
      · exact na w
      · exact (hfa a w).1 rfl
    · subst z; exact (hfa b h2).2 h1
  · refine Mu.upd ?_ (.inl ⟨_, rfl⟩)
    rcases List.mem_cons.mp hb with w | w
    · subst w; exact .inl ⟨xs, s _ _ h2⟩
    · rcases List.mem_append.mp w with w | w
      · exact (hmu b (List.mem_cons_of_mem _ w)).2.same s
      · exact n.mu b w
  · show b ∈ (if i ∈ M then [] else fps i) ∨ _
    rw [if_neg hi.2, h3]
    rcases List.mem_cons.mp hb with w | w
    · subst w; exact .inl List.mem_cons_self
    · rcases List.mem_append.mp w with w | w
      · exact .inl (List.mem_cons_of_mem _ w)
      · refine .inr ⟨?_, fun j => ?_⟩
        · rcases n.src b w with y | ⟨j, hj, y⟩
          · exact o.b0.free y
          · exact ((o.own j (hM j hj)).2 b y).1
        · show b ∉ (if j ∈ M then [] else fps j)
          split
          · exact List.not_mem_nil
          · rename_i hj
            intro z
            rcases n.src b w with y | ⟨j', hj', y⟩
            · exact o.dom z y
            · exact o.dj j' (hM j' hj') j (fun q => hj (by rw [q]; exact hj')) b y z
  · show ∀ b u, b ∉ (if i ∈ M then [] else fps i) → _
    rw [if_neg hi.2, h3]
    exact updKeep List.mem_cons_self
theorem Rfs.set {H : Hp} {x : D} {v : V} {fp : List Addr} (r : Rf K H x v fp) (nd : fp.Nodup) : ∀ {ds : List D} {xs : List V} {fq : List Addr} {j : Nat}, Rfs K H ds xs fq → fq.Nodup → (∀ a ∈ fp, a ∉ fq) → j < ds.length →
    ∃ fq', Rfs K H (ds.set j x) (xs.set j v) fq' ∧ fq'.Nodup ∧ ∀ a ∈ fq', a ∈ fq ∨ a ∈ fp
  | [], xs, fq, j, h, _, _, hj => by simp at hj
  | d :: ds, xs, fq, j, h, hn, hd, hj => by
    obtain ⟨y, ys, f1, f2, rfl, rfl, h1, h2⟩ := h
    obtain ⟨n1, n2, n3⟩ := List.nodup_append.mp hn
    cases j with
    | zero =>
      refine ⟨fp ++ f2, ⟨v, ys, fp, f2, rfl, rfl, r, h2⟩, List.nodup_append.mpr ⟨nd, n2, fun a ha b hb z => ?_⟩, fun a ha => ?_⟩
      · subst z; exact hd a ha (List.mem_append_right _ hb)
      · exact (List.mem_append.mp ha).elim .inr fun z => .inl (List.mem_append_right _ z)
    | succ j =>
      obtain ⟨fq', r', nd', k'⟩ := Rfs.set r nd (j := j) h2 n2 (fun a ha z => hd a ha (List.mem_append_right _ z)) (by simpa using hj)
      refine ⟨f1 ++ fq', ⟨y, ys.set j v, f1, fq', rfl, rfl, h1, r'⟩, List.nodup_append.mpr ⟨n1, nd', fun a ha b hb z => ?_⟩, fun a ha => ?_⟩
      · subst z
        rcases k' a hb with w | w
        · exact n3 a ha a w rfl
        · exact hd a w (List.mem_append_left _ ha)
      · rcases List.mem_append.mp ha with w | w
        · exact .inl (List.mem_append_left _ w)
        · exact (k' a w).imp (List.mem_append_right _) id
def vSetItem (i : Nat) (de dx : DE) (E : DEnds) (δ : Dl) : Prop := de δ fun x => slotL δ i fun ds => dx δ fun k => asI [k] fun n => match ixN ds.length n with | some j => E.nx (δ.set i (some (.lst (ds.set j x)))) | none => False
theorem ixN_lt {n : Nat} {i : Int} {j : Nat} (h : ixN n i = some j) : j < n := by
  unfold ixN at h
  split at h
  · split at h
    · cases h; omega
    · cases h
  · split at h
    · cases h; omega
    · cases h
theorem setItem_ok (o : Ok K B0 Γ fps δ σ H) {i j : Nat} (hi : i ∈ Γ) {ds : List D} {x : D} {v : V} {fp : List Addr} (e : δ[i]? = some (some (.lst ds))) (r : Rf K H x v fp) (nd : fp.Nodup) (mu : ∀ a ∈ fp, Mu H a) (src : ∀ a ∈ fp, B0 a = none ∧ ∀ j, a ∉ fps j) (hj : j < ds.length) :
    ∃ a xs, σ[i]? = some (some (.ref a)) ∧ H a = some (.lst xs) ∧ xs.length = ds.length ∧ ∃ fps', Ok K B0 Γ fps' (δ.set i (some (.lst (ds.set j x)))) σ (upd H a (.lst (xs.set j v))) := by
  obtain ⟨a, xs, fq, h1, h2, h3, h4⟩ := o.ownL e
  have hown := o.own i hi
  rw [h3] at hown
  obtain ⟨nd0, hmu⟩ := hown
  obtain ⟨na, ndq⟩ := List.nodup_cons.mp nd0
  have nt := (hmu a List.mem_cons_self).2.notup
  have hfq : ∀ b ∈ fp, b ∉ fps i := fun b hb => (src b hb).2 i
  rw [h3] at hfq
  obtain ⟨fq', r', nd', k'⟩ := Rfs.set r nd h4 ndq (fun b hb z => hfq b hb (List.mem_cons_of_mem _ z)) hj
  have naq : a ∉ fq' := fun z => (k' a z).elim na fun w => hfq a w List.mem_cons_self
  refine ⟨a, xs, h1, h2, h4.length, _, o.write hi (fp' := a :: fq') h1 ⟨a, xs.set j v, fq', rfl, upd_same, rfl, r'.upd naq nt⟩ (List.nodup_cons.mpr ⟨naq, nd'⟩) (fun b hb => Mu.upd ?_ (.inl ⟨_, rfl⟩)) (fun b hb => ?_) ?_⟩
  · rcases List.mem_cons.mp hb with w | w
    · subst w; exact .inl ⟨xs, h2⟩
    · rcases k' b w with w | w
      · exact (hmu b (List.mem_cons_of_mem _ w)).2
      · exact mu b w
  · rw [h3]
    rcases List.mem_cons.mp hb with w | w
    · subst w; exact .inl List.mem_cons_self
    · rcases k' b w with w | w
      · exact .inl (List.mem_cons_of_mem _ w)
      · exact .inr (src b w)
  · rw [h3]; exact updKeep List.mem_cons_self
theorem asI1_out {x : D} {P : Int → Prop} (h : asI [x] P) : ∃ j, x = .int j ∧ P j := by
  obtain ⟨j, e, h⟩ := asI_out h; cases e; exact ⟨j, rfl, h⟩
theorem st_setItem (i : Nat) (he : EM K Γ [] te de) (hx : ER K Γ tx dx) (hi : i ∈ Γ := by decide) : ST K ρ Γr Γl (tAsg te (gSub (tVar i) tx rSetL)) Γ Γ (vSetItem i de dx) := by
  intro B0 Dn E fps δ σ H k o h
  refine he.run o (he.mono _ _ _ (fun x z v H1 fp s r n => ?_) h)
  obtain ⟨ds, e, z⟩ := slotL_out z
  obtain ⟨a0, _, _, h1, _⟩ := (o.same s).ownL e
  refine ⟨.ref a0, h1, hx.run (o.same s) (hx.mono _ _ _ (fun y z w H2 s2 r2 => ?_) z)⟩
  obtain ⟨m, em, z9⟩ := asI1_out z
  subst em
  cases ej : ixN ds.length m with
  | none => rw [ej] at z9; exact z9.elim
  | some j =>
    rw [ej] at z9
    obtain ⟨a, xs, e1, e2, e3, fps', o'⟩ := setItem_ok ((o.same s).same s2) hi e (r.same s2) n.nd (fun a ha => (n.mu a ha).same s2) (fun a ha => ⟨o.b0.free (n.fresh a ha), fun j z => o.dom z (n.fresh a ha)⟩) (ixN_lt ej)
    rw [h1] at e1; cases e1
    exact ⟨a0, xs, m, j, rfl, r2.int, e2, by rw [e3]; exact ej, k.nx o' z9⟩
def asLst (o : Option D) (P : List D → Prop) : Prop := match o with | some (.lst es) => P es | _ => False
theorem asLst_out {o : Option D} {P : List D → Prop} (h : asLst o P) : ∃ es, o = some (.lst es) ∧ P es := by
  unfold asLst at h; split at h
  · exact ⟨_, rfl, h⟩
  · exact h.elim
def vClear (i : Nat) (E : DEnds) (δ : Dl) : Prop := slotL δ i fun _ => E.nx (δ.set i (some (.lst [])))
def cutD (ds : List D) (lo hi : Option Int) : List D := (ds.drop (HT.sIx ds.length 0 lo)).take (HT.sIx ds.length ds.length hi - HT.sIx ds.length 0 lo)
abbrev DO := Dl → (Option Int → Prop) → Prop
structure OR (K : PySem.W.Frag) (Γ : List Nat) (t : TO) (d : DO) : Prop where
  mono : ∀ δ (P P' : Option Int → Prop), (∀ x, P x → P' x) → d δ P → d δ P'
  run : ∀ {B0 fps δ σ H Q}, Ok K B0 Γ fps δ σ H → d δ (fun x => ∀ H', Same H H' → Q x H') → t σ H Q
def vNoPart (_u0 : Dl) (P : Option Int → Prop) : Prop := P none
def vPart (d : DE) (δ : Dl) (P : Option Int → Prop) : Prop := d δ fun x => asI [x] fun i => P (some i)
theorem or_none : OR K Γ tNoPart vNoPart := ⟨fun _ _ _ k h => k _ h, fun {_ _ _ _ H _} o q => q H (Same.refl H)⟩
theorem or_some (h : ER K Γ te de) : OR K Γ (tPart te) (vPart de) := ⟨fun δ P P' k q => h.mono _ _ _ (fun x z => by obtain ⟨j, rfl, z⟩ := asI1_out z; exact k _ z) q,
  fun o q => h.run o (h.mono _ _ _ (fun x z v H' s r => by obtain ⟨j, rfl, z⟩ := asI1_out z; exact ⟨j, r.int, z H' s⟩) q)⟩
def vSl (de : DE) (dl dh : DO) (δ : Dl) (P : DK) : Prop := de δ fun x => dl δ fun l => dh δ fun u => asL x fun ds => ds.all D.scal = true ∧ P (.lst (cutD ds l u))
theorem cut_map {ds : List D} {lo hi : Option Int} : cutV (ds.map D.toV) lo hi = (cutD ds lo hi).map D.toV := by
  unfold cutV cutD
  rw [List.length_map, List.map_take, List.map_drop]
theorem cut_scal {ds : List D} {lo hi : Option Int} (h : ds.all D.scal = true) : (cutD ds lo hi).all D.scal = true := by
  unfold cutD
  rw [List.all_eq_true] at h ⊢
  exact fun x hx => h x (List.mem_of_mem_drop (List.mem_of_mem_take hx))
theorem em_sl {tl th : TO} {dl dh : DO} (he : ER K Γ te de) (hl : OR K Γ tl dl) (hh : OR K Γ th dh) : EM K Γ [] (tSl (rSlL K) te tl th) (vSl de dl dh) :=
  ⟨fun δ P P' k h => he.mono _ _ _ (fun x z => hl.mono _ _ _ (fun l z => hh.mono _ _ _ (fun u z => by obtain ⟨ds, e, z⟩ := asL_out z; exact asL_in e ⟨z.1, k _ z.2⟩) z) z) h,
   fun {B0 fps δ σ H Q} o h => he.run o (he.mono _ _ _ (fun x z v H1 s1 r1 => hl.run (o.same s1) (hl.mono _ _ _ (fun l z H2 s2 => hh.run ((o.same s1).same s2) (hh.mono _ _ _ (fun u z H3 s3 => by
    obtain ⟨ds, e, z⟩ := asL_out z
    obtain ⟨a, xs, fq, rfl, hs, hr⟩ := (r1.same (s2.trans s3)).seq e
    obtain ⟨rfl, rfl⟩ := hr.scals z.1
    refine ⟨a, _, rfl, hs, fun p hp => ?_⟩
    rw [cut_map]
    have s4 : Same H3 (upd H3 p (.lst ((cutD ds l u).map D.toV))) := Same.new' hp
    refine z.2 _ _ [p] (((s1.trans s2).trans s3).trans s4) ⟨p, _, [], rfl, upd_same, rfl, Rfs.ofScals (cut_scal z.1)⟩ ⟨by simp, fun b hb => ?_, fun b hb => ?_⟩
    · cases List.mem_singleton.mp hb; exact .inl ⟨_, upd_same⟩
    · cases List.mem_singleton.mp hb; exact .inl (((s1.trans s2).trans s3).free hp)) z)) z)) h)⟩
def vCat (x : D) (y : D) (P : DK) : Prop := match x, y with | .lst a, .lst b => (a.all D.scal = true ∧ b.all D.scal = true ∧ a.length + b.length ≤ 1000) ∧ P (.lst (a ++ b)) | _, _ => False
theorem new1 {H : Hp} {p : Addr} {ds : List D} (h : ds.all D.scal = true) (hp : H p = none) : Same H (upd H p (.lst (ds.map D.toV))) ∧ Rf K (upd H p (.lst (ds.map D.toV))) (.lst ds) (.ref p) [p] ∧ Nw H (upd H p (.lst (ds.map D.toV))) nf [] [p] :=
  ⟨Same.new' hp, ⟨p, _, [], rfl, upd_same, rfl, Rfs.ofScals h⟩, ⟨by simp, fun b hb => by cases List.mem_singleton.mp hb; exact .inl ⟨_, upd_same⟩, fun b hb => by cases List.mem_singleton.mp hb; exact .inl hp⟩⟩
def repD (xs : List D) (k : Nat) : List D := (List.replicate k xs).flatten
def vRep (x : D) (y : D) (P : DK) : Prop := match x, y with | .lst a, .int k => (a.all D.scal = true ∧ (-(2 ^ 63) ≤ k ∧ k < 2 ^ 63) ∧ a.length * k.toNat ≤ 1000) ∧ P (.lst (repD a k.toNat)) | _, _ => False
def vLen (xs : List D) (P : DK) : Prop := match xs with | [x] => (match x with | .tup ds => P (.int ds.length) | x => asL x fun ds => P (.int ds.length)) | _ => False
theorem Rps.one {H : Hp} {x : D} {vs : List V} (h : Rps K H [x] vs) : ∃ v, vs = [v] ∧ Rp K H x v := by
  obtain ⟨fp, y, r, f1, f2, rfl, _, h1, ⟨rfl, _⟩⟩ := h
  exact ⟨y, rfl, f1, h1⟩
theorem c_len : CallV K (fun xs H Q => ∃ p ys, xs = [.ref p] ∧ (SqL K H p ys ∨ SqT K H p ys) ∧ Q (.int ys.length) H) vLen := ⟨fun xs P P' k h => by
    unfold vLen at h ⊢
    revert h
    split
    · split
      · exact fun h => k _ h
      · exact fun h => by obtain ⟨ds, e, z⟩ := asL_out h; exact asL_in e (k _ z)
    · exact id,
  fun {H xs vs Q} r h => by
    unfold vLen at h
    split at h
    · obtain ⟨v, rfl, r0⟩ := r.one
      split at h
      · obtain ⟨a, ys, fq, rfl, hs, hr⟩ := r0.tup
        refine ⟨a, ys, rfl, .inr hs, ?_⟩
        rw [hr.length]
        exact h _ H [] (Same.refl H) ⟨rfl, rfl⟩ Nw.nil
      · obtain ⟨ds, e, h⟩ := asL_out h
        obtain ⟨a, ys, fq, rfl, hs, hr⟩ := r0.seq e
        refine ⟨a, ys, rfl, .inl hs, ?_⟩
        rw [hr.length]
        exact h _ H [] (Same.refl H) ⟨rfl, rfl⟩ Nw.nil
    · exact h.elim⟩
theorem vLen_lst {ds : List D} {P : DK} : vLen [.lst ds] P ↔ P (.int ds.length) := Iff.rfl
theorem vLen_scr {ds : List Int} {P : DK} : vLen [.scr ds] P ↔ P (.int ds.length) := by
  show P (.int ((ds.map D.int).length : Nat)) ↔ _
  rw [List.length_map]
def toInts : List D → Option (List Int)
  | [] => some []
  | .int i :: ds => (toInts ds).map (i :: ·)
  | _ => none
theorem toInts_map : ∀ {ns : List Int}, toInts (ns.map D.int) = some ns
  | [] => rfl
  | n :: ns => by rw [List.map_cons, toInts, toInts_map]; rfl
theorem toInts_eq : ∀ {ds : List D} {ns : List Int}, toInts ds = some ns → ds = ns.map D.int
  | [], ns, h => by cases h; rfl
  | .int i :: ds, ns, h => by
    rw [toInts] at h
    cases e : toInts ds with
    | none => rw [e] at h; cases h
    | some ms => rw [e] at h; cases h; rw [toInts_eq e]; rfl
  | .non :: _, _, h => by cases h
  | .bl _ :: _, _, h => by cases h
  | .str _ :: _, _, h => by cases h
  | .lst _ :: _, _, h => by cases h
  | .tup _ :: _, _, h => by cases h
  | .dic _ :: _, _, h => by cases h
  | .dit _ :: _, _, h => by cases h
  | .scr _ :: _, _, h => by cases h
theorem Rfs.intsV {H : Hp} {ns : List Int} {vs : List V} {fp : List Addr} (h : Rfs K H (ns.map D.int) vs fp) : vs = ns.map V.int := by
  have hs : (ns.map D.int).all D.scal = true := by rw [List.all_map, List.all_eq_true]; exact fun _ _ => rfl
  rw [(h.scals hs).1, List.map_map]
  rfl
def asNs (x : D) (P : List Int → Prop) : Prop := asL x fun ds => match toInts ds with | some ns => P ns | none => False
theorem asNs_out {x : D} {P : List Int → Prop} (h : asNs x P) : ∃ ns, x.items = some (ns.map D.int) ∧ P ns := by
  obtain ⟨ds, e, h⟩ := asL_out h
  cases q : toInts ds with
  | none => rw [q] at h; exact h.elim
  | some ns => rw [q] at h; rw [toInts_eq q] at e; exact ⟨ns, e, h⟩
theorem asNs_in {x : D} {ns : List Int} {P : List Int → Prop} (e : x.items = some (ns.map D.int)) (h : P ns) : asNs x P := by
  refine asL_in e ?_
  rw [toInts_map]; exact h
def vSum (xs : List D) (P : DK) : Prop := match xs with | [x] => asNs x fun ns => P (.int ns.sum) | _ => False
theorem c_sum : CallV K (fun xs H Q => ∃ (a : Addr) (ns : List Int), xs = [.ref a] ∧ SqL K H a (ns.map V.int) ∧ Q (.int ns.sum) H) vSum := ⟨fun xs P P' k h => by
    unfold vSum at h ⊢
    revert h
    split
    · exact fun h => by obtain ⟨ns, e, z⟩ := asNs_out h; exact asNs_in e (k _ z)
    · exact id,
  fun {H xs vs Q} r h => by
    unfold vSum at h
    split at h
    · obtain ⟨v, rfl, r0⟩ := r.one
      obtain ⟨ns, e, h⟩ := asNs_out h
      obtain ⟨a, ys, fq, rfl, hs, hr⟩ := r0.seq e
      rw [hr.intsV] at hs
      exact ⟨a, ns, rfl, hs, h _ H [] (Same.refl H) ⟨rfl, rfl⟩ Nw.nil⟩
    · exact h.elim⟩
def vList (xs : List D) (P : DK) : Prop := match xs with | [x] => asL x fun ds => ds.all D.scal = true ∧ P (.lst ds) | _ => False
theorem c_list : CallV K (fun xs H Q => ∃ p ys, xs = [.ref p] ∧ (SqL K H p ys ∨ SqT K H p ys) ∧ ∀ l, H l = none → Q (.ref l) (upd H l (.lst ys))) vList := ⟨fun xs P P' k h => by
    unfold vList at h ⊢
    revert h
    split
    · exact fun h => by obtain ⟨ds, e, z⟩ := asL_out h; exact asL_in e ⟨z.1, k _ z.2⟩
    · exact id,
  fun {H xs vs Q} r h => by
    unfold vList at h
    split at h
    · obtain ⟨v, rfl, r0⟩ := r.one
      obtain ⟨ds, e, hsc, h⟩ := asL_out h
      obtain ⟨a, ys, fq, rfl, hs, hr⟩ := r0.seq e
      obtain ⟨rfl, _⟩ := hr.scals hsc
      refine ⟨a, _, rfl, .inl hs, fun l hl => ?_⟩
      obtain ⟨n1, n2, n3⟩ := new1 (K := K) hsc hl
      exact h _ _ _ n1 n2 n3
    · exact h.elim⟩
end
end L3
set_option Elab.async false
set_option linter.all false
set_option maxRecDepth 100000
set_option maxHeartbeats 4000000
namespace L3
open PySem L2
open PyProof.Rows (Ordered)
section
variable {K : PySem.W.Frag} {Γ M : List Nat} {te ta tb : TE} {de da db : DE}
def D.tyn : D → Option String
  | .non => some "NoneType" | .bl _ => some "bool" | .int _ => some "int" | .str _ => some "str" | .lst _ => some "list" | .tup _ => some "tuple" | .dic _ => some "dict" | .dit _ => some "dict" | .scr _ => none | .pin _ _ => none | .ins _ _ _ => none
theorem Rp.ty {H : Hp} {d : D} {v : V} {n : String} (h : Rp K H d v) (e : d.tyn = some n) : TyOf K H v (.type n) := by
  obtain ⟨fp, h⟩ := h
  cases d with
  | non => cases e; obtain ⟨rfl, _⟩ := h; exact .non
  | bl b => cases e; obtain ⟨rfl, _⟩ := h; exact .bl _
  | int b => cases e; obtain ⟨rfl, _⟩ := h; exact .int _
  | str b => cases e; obtain ⟨rfl, _⟩ := h; exact .str _
  | lst ds => cases e; obtain ⟨a, xs, fq, rfl, h2, _⟩ := h; exact .lst h2
  | tup ds => cases e; obtain ⟨a, xs, rfl, h2, _⟩ := h; exact .tup h2
  | dic ds => cases e; obtain ⟨a, rfl, h2, _⟩ := h; exact .dK h2
  | dit ds => cases e; obtain ⟨a, rfl, h2, _⟩ := h; exact .dT h2
  | scr ns => cases e
  | pin a d => cases e
  | ins C ns ds => cases e
def isB (m n : String) : Bool := m == n || (m == "bool" && n == "int")
def KitOk (n : String) : Prop := ∀ (K : PySem.W.Frag) (d : D) (m : String), d.tyn = some m → PySem.W.kitOne K (.type m) (.type n) = some (isB m n)
theorem kit_bool : KitOk "bool" := fun K d m e => by cases d <;> cases e <;> first | exact kit_same | with_unfolding_all rfl
def vIs (n : String) (da : DE) (δ : Dl) (P : DK) : Prop := da δ fun x => match x.tyn with | some m => P (.bl (isB m n)) | none => False
theorem em_isinst {n : String} (hk : KitOk n) (ha : ER K Γ ta da) : EM K Γ [] (tCB (fun xs H Q => ∃ x n t b, xs = [x, .ty n] ∧ TyOf K H x t ∧ PySem.W.kitOne K t (.type n) = some b ∧ Q (.bl b) H) (tCons ta (tCons (tC (.ty n)) tNil))) (vIs n da) :=
  ⟨fun δ P P' k h => ha.mono _ _ _ (fun x z => by
      revert z; split
      · exact fun z => k _ z
      · exact id) h,
   fun {B0 fps δ σ H Q} o h => ha.run o (ha.mono _ _ _ (fun x z v H1 s1 r1 => by
      split at z
      · rename_i m e
        exact ⟨v, n, _, _, rfl, r1.ty e, hk K x m e, z _ H1 [] s1 ⟨rfl, rfl⟩ Nw.nil⟩
      · exact z.elim) h)⟩
mutual
def D.old : D → Option L2.D
  | .non => some .non | .bl b => some (.bl b) | .int i => some (.int i) | .str x => some (.str x)
  | .lst ds => (D.olds ds).map L2.D.lst | .tup ds => (D.olds ds).map L2.D.tup
  | .dic _ => none | .dit _ => none | .scr _ => none | .pin _ _ => none | .ins _ _ _ => none
def D.olds : List D → Option (List L2.D)
  | [] => some []
  | d :: ds => match D.old d, D.olds ds with | some x, some xs => some (x :: xs) | _, _ => none
end
mutual
theorem Rf.old {H : Hp} : ∀ {d : D} {d' : L2.D} {v : V} {fp : List Addr}, Rf K H d v fp → d.old = some d' → L2.Rf H d' v fp
  | .non, d', v, fp, h, e => by rw [D.old] at e; cases e; rw [L2.Rf]; exact h
  | .bl _, d', v, fp, h, e => by rw [D.old] at e; cases e; rw [L2.Rf]; exact h
  | .int _, d', v, fp, h, e => by rw [D.old] at e; cases e; rw [L2.Rf]; exact h
  | .str _, d', v, fp, h, e => by rw [D.old] at e; cases e; rw [L2.Rf]; exact h
  | .lst ds, d', v, fp, h, e => by
    rw [D.old] at e
    cases q : D.olds ds with
    | none => rw [q] at e; cases e
    | some es =>
      rw [q] at e; cases e
      obtain ⟨a, xs, fq, e1, e2, e3, h⟩ := h
      rw [L2.Rf]
      exact ⟨a, xs, fq, e1, e2, e3, Rfs.old h q⟩
  | .tup ds, d', v, fp, h, e => by
    rw [D.old] at e
    cases q : D.olds ds with
    | none => rw [q] at e; cases e
    | some es =>
      rw [q] at e; cases e
      obtain ⟨a, xs, e1, e2, h⟩ := h
      rw [L2.Rf]
      exact ⟨a, xs, e1, e2, Rfs.old h q⟩
  | .dic _, d', v, fp, h, e => by rw [D.old] at e; cases e
  | .dit _, d', v, fp, h, e => by rw [D.old] at e; cases e
  | .scr _, d', v, fp, h, e => by rw [D.old] at e; cases e
  | .pin _ _, d', v, fp, h, e => by rw [D.old] at e; cases e
  | .ins _ _ _, d', v, fp, h, e => by rw [D.old] at e; cases e
theorem Rfs.old {H : Hp} : ∀ {ds : List D} {ds' : List L2.D} {vs : List V} {fp : List Addr}, Rfs K H ds vs fp → D.olds ds = some ds' → L2.Rfs H ds' vs fp
  | [], ds', vs, fp, h, e => by rw [D.olds] at e; cases e; rw [L2.Rfs]; exact h
  | d :: ds, ds', vs, fp, h, e => by
    rw [D.olds] at e
    obtain ⟨x, r, f1, f2, e1, e2, h1, h2⟩ := h
    cases q1 : d.old with
    | none => rw [q1] at e; simp at e
    | some x' =>
      cases q2 : D.olds ds with
      | none => rw [q1, q2] at e; simp at e
      | some xs' =>
        rw [q1, q2] at e
        cases e
        rw [L2.Rfs]
        exact ⟨x, r, f1, f2, e1, e2, Rf.old h1 q1, Rfs.old h2 q2⟩
end
abbrev dI (xs : List Int) : D := .lst (xs.map D.int)
abbrev dT (t : List (List Int)) : D := .lst (t.map dI)
def vEqL (neg : Bool) (x : D) (y : D) (P : DK) : Prop := ∃ a b, x.old = some (.lst a) ∧ y.old = some (.lst b) ∧ L2.D.plains a = true ∧ L2.D.plains b = true ∧ L2.D.depths a ≤ 60 ∧ P (.bl (if neg then !L2.D.eqbs a b else L2.D.eqbs a b))
theorem vEqL_run {neg : Bool} : OpV K (rEqD neg) (vEqL neg) := ⟨fun x y P P' k h => by
    obtain ⟨a, b, h1, h2, h3, h4, h5, h⟩ := h
    exact ⟨a, b, h1, h2, h3, h4, h5, k _ h⟩,
  fun {H x y v w Q} ⟨f1, r1⟩ ⟨f2, r2⟩ h => by
    obtain ⟨a, b, h1, h2, h3, h4, h5, h⟩ := h
    exact ⟨a, b, ⟨f1, r1.old h1⟩, ⟨f2, r2.old h2⟩, h3, h4, h5, h _ H [] (Same.refl H) ⟨rfl, rfl⟩ Nw.nil⟩⟩
theorem o_eqL : OpV K (rEqD false) (vEqL false) := vEqL_run
theorem olds_ints : ∀ {ns : List Int}, D.olds (ns.map D.int) = some (ns.map L2.D.int)
  | [] => by rw [List.map_nil, D.olds]; rfl
  | n :: ns => by rw [List.map_cons, D.olds, olds_ints, D.old]; rfl
theorem old_dI {ns : List Int} : (dI ns).old = some (L2.dI ns) := by rw [D.old, olds_ints]; rfl
theorem vEqL_ints {neg : Bool} {xs ys : List Int} {P : DK} (h : P (.bl (if neg then !decide (xs = ys) else decide (xs = ys)))) : vEqL neg (dI xs) (dI ys) P :=
  ⟨_, _, old_dI, old_dI, D.plains_ints _, D.plains_ints _, by rw [D.depths_ints]; omega, by rw [D.eqbs_ints]; exact h⟩
def vSorted (b : Bool) (xs : List D) (P : DK) : Prop := match xs with | [x] => asNs x fun ns => ns.length < 64 ∧ ∀ ms : List Int, ms.Perm ns → Ordered b ms → P (dI ms) | _ => False
theorem Rf.ofInts {H : Hp} {p : Addr} {ms : List Int} (e : H p = some (.lst (ms.map V.int))) : Rf K H (dI ms) (.ref p) [p] := ⟨p, _, [], rfl, e, rfl, Rfs.ofInts⟩
theorem Nw.one {H H' : Hp} {p : Addr} {xs : List V} (h : H p = none) (e : H' p = some (.lst xs)) : Nw H H' nf [] [p] := ⟨by simp, fun b hb => by cases List.mem_singleton.mp hb; exact .inl ⟨_, e⟩, fun b hb => by cases List.mem_singleton.mp hb; exact .inl h⟩
theorem em_sortedRev {u : TA} {dr : DA} {b : Bool} (hr : AR K Γ u dr) : EM K Γ [] (tCBK (fun xs zs H Q => ∃ (a : Addr) (ns : List Int) (b : Bool), xs = [.ref a] ∧ zs = [.bl b] ∧ SqL K H a (ns.map V.int) ∧ ns.length < 64 ∧
    ∀ (l : Addr) (ms : List Int), H l = none → ms.Perm ns → Ordered b ms → Q (.ref l) (upd H l (.lst (ms.map V.int)))) u (tCons (tC (.bl b)) tNil)) (vCall (vSorted b) dr) := by
  have mono : DMono (vSorted b) := fun xs P P' k h => by
    unfold vSorted at h ⊢
    revert h
    split
    · exact fun h => by obtain ⟨ns, e, z⟩ := asNs_out h; exact asNs_in e ⟨z.1, fun ms a b => k _ (z.2 ms a b)⟩
    · exact id
  refine ⟨fun δ P P' k h => hr.mono _ _ _ (fun y z => mono _ _ _ k z) h, fun {B0 fps δ σ H Q} o q => hr.run o (hr.mono _ _ _ (fun xs z vs H1 s1 r1 => ?_) q)⟩
  unfold vSorted at z
  split at z
  · obtain ⟨v, rfl, r0⟩ := r1.one
    obtain ⟨ns, e, z⟩ := asNs_out z
    obtain ⟨a, ys, fq, rfl, hs, hr⟩ := r0.seq e
    rw [hr.intsV] at hs
    refine ⟨a, ns, b, rfl, rfl, hs, z.1, fun l ms hl hp ho => ?_⟩
    have s2 : Same H1 (upd H1 l (.lst (ms.map V.int))) := Same.new' hl
    exact z.2 ms hp ho _ _ [l] (s1.trans s2) (Rf.ofInts upd_same) ((Nw.one hl upd_same).any.later s1)
  · exact z.elim
def vRev (da : DE) (δ : Dl) (P : DK) : Prop := da δ fun x => asL x fun ds => ds.all D.scal = true ∧ P (.lst ds.reverse)
def vAbs (xs : List D) (P : DK) : Prop := asI xs fun i => P (.int (if i < 0 then -i else i))
def vMax2 (xs : List D) (P : DK) : Prop := asII xs fun i j => P (.int (if j > i then j else i))
def vMin2 (xs : List D) (P : DK) : Prop := asII xs fun i j => P (.int (if j < i then j else i))
theorem c_max2 : CallV K (fun xs H Q => ∃ i j, xs = [.int i, .int j] ∧ Q (.int (if j > i then j else i)) H) vMax2 := ⟨fun xs P P' k h => by obtain ⟨i, j, rfl, z⟩ := asII_out h; exact k _ z,
  fun {H xs vs Q} r h => by obtain ⟨i, j, rfl, z⟩ := asII_out h; exact ⟨i, j, r.ints2, z _ H [] (Same.refl H) ⟨rfl, rfl⟩ Nw.nil⟩⟩
theorem c_min2 : CallV K (fun xs H Q => ∃ i j, xs = [.int i, .int j] ∧ Q (.int (if j < i then j else i)) H) vMin2 := ⟨fun xs P P' k h => by obtain ⟨i, j, rfl, z⟩ := asII_out h; exact k _ z,
  fun {H xs vs Q} r h => by obtain ⟨i, j, rfl, z⟩ := asII_out h; exact ⟨i, j, r.ints2, z _ H [] (Same.refl H) ⟨rfl, rfl⟩ Nw.nil⟩⟩
def D.isNon : D → Bool | .non => true | _ => false
def vIsN (neg : Bool) (x : D) (y : D) (P : DK) : Prop := match y with | .non => P (.bl (if neg then !x.isNon else x.isNon)) | _ => False
end
theorem spP_len {K : PySem.W.Frag} {S : DSp} {n : Nat} (hS : ∀ ds P, S ds P → ds.length = n) {vs : List V} {H : Hp} {Q : VK} {E : XK} (h : spP K S vs H Q E) : vs.length = n := by
  obtain ⟨ds, ⟨fp, r⟩, h⟩ := h
  rw [r.length]; exact hS _ _ h
theorem loop_inv {dg : D → Dl → (Dl → Prop) → Prop} {db : DS} {E : DEnds} (I : Nat → Dl → Prop) {ds : List D} {δ : Dl} (h0 : I 0 δ)
    (hs : ∀ i d δ (N : Dl → Prop), ds[i]? = some d → I i δ → (∀ δ', I (i + 1) δ' → N δ') → dg d δ fun δ' => db { nx := N, ct := N, bk := E.nx, rt := E.rt } δ')
    (hd : ∀ δ, I ds.length δ → E.nx δ) : vLoop dg db E ds δ := by
  have key : ∀ (n : Nat) (i : Nat) (δ : Dl), ds.length - i = n → i ≤ ds.length → I i δ → vLoop dg db E (ds.drop i) δ := by
    intro n
    induction n with
    | zero =>
      intro i δ h1 h2 hI
      have : i = ds.length := by omega
      subst this
      rw [List.drop_length]
      exact hd δ hI
    | succ n ih =>
      intro i δ h1 h2 hI
      have hlt : i < ds.length := by omega
      rw [List.drop_eq_getElem_cons hlt]
      exact hs i _ δ _ (List.getElem?_eq_getElem hlt) hI fun δ' h' => ih (i + 1) δ' (by omega) hlt h'
  have := key ds.length 0 δ (by omega) (Nat.zero_le _) h0
  rwa [List.drop_zero] at this
end L3
namespace L3
open PySem L2
theorem sc_of {K : PySem.W.Frag} {H : Hp} {a : Addr} {xs : List V} (hO : Only H) (h : SqL K H a xs) : Sc K H a xs := by
  rcases h with (h | h) | h
  · rcases hO a with z | ⟨o, ys, z⟩
    · rw [z] at h; cases h
    · rw [z] at h; cases h
  · exact .inl h
  · exact .inr h
end L3
set_option Elab.async false
set_option linter.all false
set_option maxRecDepth 100000
set_option maxHeartbeats 4000000
namespace L3
open PySem
open L2 hiding D Rf Rfs Rp dI dT
section
variable {di : DI} {dg : D → Dl → (Dl → Prop) → Prop} {dt : DT} {de : DE} {k : Nat} {idx : List Nat} {δ : Dl} {P : DK}
variable {db : DS} {E : DEnds}
theorem loop_any {α : Type} {as : List α} {f : α → D} (I : Nat → Dl → Prop) (h0 : I 0 δ)
    (hs : ∀ i a δ (N : Dl → Prop), as[i]? = some a → I i δ → (∀ δ', I (i + 1) δ' → N δ') → dg (f a) δ fun δ' => db { nx := N, ct := N, bk := E.nx, rt := E.rt } δ')
    (hd : ∀ δ, I as.length δ → E.nx δ) : vLoop dg db E (as.map f) δ := by
  refine loop_inv I h0 (fun i d δ N e hI hN => ?_) (fun δ hI => hd δ (by rwa [List.length_map] at hI))
  rw [List.getElem?_map] at e
  cases q : as[i]? with
  | none => rw [q] at e; cases e
  | some a => rw [q] at e; cases e; exact hs i a δ N q hI hN
theorem loop_rng {lo : Int} {n : Nat} (I : Nat → Dl → Prop) (h0 : I 0 δ)
    (hs : ∀ i δ (N : Dl → Prop), i < n → I i δ → (∀ δ', I (i + 1) δ' → N δ') → dg (.int (lo + (i : Int))) δ fun δ' => db { nx := N, ct := N, bk := E.nx, rt := E.rt } δ')
    (hd : ∀ δ, I n δ → E.nx δ) : vLoop dg db E (intsD lo n) δ := by
  refine loop_any (as := List.range n) (f := fun (k : Nat) => D.int (lo + (k : Int))) I h0 (fun i a δ N e hI hN => ?_) (fun δ hI => hd δ (by rwa [List.length_range] at hI))
  obtain ⟨h1, h2⟩ := List.getElem?_eq_some_iff.mp e
  rw [List.getElem_range] at h2
  subst h2
  exact hs i δ N (by simpa using h1) hI hN
end
theorem at_dI {ns : List Int} {i : Int} (h0 : 0 ≤ i) (h : i < ns.length) : atI (ns.map D.int) i = some (.int (ns.getD i.toNat 0)) := by
  unfold atI ixN
  rw [if_pos h0, List.length_map, if_pos h]
  show (ns.map D.int)[i.toNat]? = _
  rw [List.getElem?_map, List.getD_eq_getElem?_getD]
  have : i.toNat < ns.length := by omega
  rw [List.getElem?_eq_getElem this]
  rfl
theorem scal_ints {ns : List Int} : (ns.map D.int).all D.scal = true := by rw [List.all_map, List.all_eq_true]; exact fun _ _ => rfl
theorem ixN_nat {n : Nat} {i : Int} (h0 : 0 ≤ i) (h : i < n) : ixN n i = some i.toNat := by unfold ixN; rw [if_pos h0, if_pos h]
theorem set_dI {ns : List Int} {j : Nat} {v : Int} : (ns.map D.int).set j (.int v) = (ns.set j v).map D.int := (List.map_set ..).symm
theorem snoc_dI {ns : List Int} {v : Int} : ns.map D.int ++ [.int v] = (ns ++ [v]).map D.int := by simp
theorem emod_lt {x n : Int} (h : 0 < n) : 0 ≤ x % n ∧ x % n < n := ⟨Int.emod_nonneg x (by omega), Int.emod_lt_of_pos x h⟩
theorem cut_ints {ns : List Int} {lo hi : Option Int} : ∃ ms : List Int, cutD (ns.map D.int) lo hi = ms.map D.int ∧ ms = (ns.drop (HT.sIx ns.length 0 lo)).take (HT.sIx ns.length ns.length hi - HT.sIx ns.length 0 lo) := by
  refine ⟨_, ?_, rfl⟩
  unfold cutD
  rw [List.length_map, ← List.map_drop, ← List.map_take]
section
variable {P : DK}
def asO (o : Option D) (P : DK) : Prop := match o with | some d => P d | none => False
theorem asO_some {d : D} : asO (some d) P ↔ P d := Iff.rfl
theorem asO_at {o : Option D} {d : D} (h : o = some d) : asO o P ↔ P d := by rw [h]; rfl
theorem asB_bl {k : Bool} {Q : Bool → Prop} : asB (.bl k) Q ↔ Q k := Iff.rfl
theorem vI0_int {g : Int → Int → D} {i j : Int} : vI0 g (.int i) (.int j) P ↔ P (g i j) := Iff.rfl
theorem vI_int {C : Int → Int → Prop} {g : Int → Int → D} {i j : Int} : vI C g (.int i) (.int j) P ↔ C i j ∧ P (g i j) := Iff.rfl
theorem vU_int {g : Int → D} {i : Int} : vU g (.int i) P ↔ P (g i) := Iff.rfl
theorem asI_int {i : Int} {Q : Int → Prop} : asI [.int i] Q ↔ Q i := Iff.rfl
theorem asII_int {i j : Int} {Q : Int → Int → Prop} : asII [.int i, .int j] Q ↔ Q i j := Iff.rfl
theorem asL_lst {ds : List D} {Q : List D → Prop} : asL (.lst ds) Q ↔ Q ds := Iff.rfl
theorem asL_scr {ns : List Int} {Q : List D → Prop} : asL (.scr ns) Q ↔ Q (ns.map D.int) := Iff.rfl
theorem vIxL_lst {ds : List D} {i : Int} : vIxL (.lst ds) (.int i) P ↔ asO (atI ds i) P := Iff.rfl
theorem vIxL_scr {ns : List Int} {i : Int} : vIxL (.scr ns) (.int i) P ↔ asO (atI (ns.map D.int) i) P := Iff.rfl
theorem vIxT_tup {ds : List D} {i : Int} : vIxT (.tup ds) (.int i) P ↔ asO (atI ds i) P := Iff.rfl
theorem vLen_tup {ds : List D} : vLen [.tup ds] P ↔ P (.int ds.length) := Iff.rfl
theorem vIsN_non {neg : Bool} {x : D} : vIsN neg x .non P ↔ P (.bl (if neg then !x.isNon else x.isNon)) := Iff.rfl
theorem vCat_lst {a b : List D} : vCat (.lst a) (.lst b) P ↔ (a.all D.scal = true ∧ b.all D.scal = true ∧ a.length + b.length ≤ 1000) ∧ P (.lst (a ++ b)) := Iff.rfl
theorem vRep_lst {a : List D} {k : Int} : vRep (.lst a) (.int k) P ↔ (a.all D.scal = true ∧ (-(2 ^ 63) ≤ k ∧ k < 2 ^ 63) ∧ a.length * k.toNat ≤ 1000) ∧ P (.lst (repD a k.toNat)) := Iff.rfl
theorem vList_lst {ds : List D} : vList [.lst ds] P ↔ ds.all D.scal = true ∧ P (.lst ds) := Iff.rfl
theorem vList_scr {ns : List Int} : vList [.scr ns] P ↔ P (dI ns) := by
  show ((ns.map D.int).all D.scal = true ∧ P _) ↔ _
  rw [scal_ints]; exact ⟨fun h => h.2, fun h => ⟨rfl, h⟩⟩
theorem vSum_ints {ns : List Int} : vSum [dI ns] P ↔ P (.int ns.sum) := by
  show (match toInts (ns.map D.int) with | some ns => P (.int ns.sum) | none => False) ↔ _
  rw [toInts_map]
theorem asNs_ints {ns : List Int} {Q : List Int → Prop} : asNs (dI ns) Q ↔ Q ns := by
  show (match toInts (ns.map D.int) with | some ns => Q ns | none => False) ↔ _
  rw [toInts_map]
theorem vgTup2 {g : List D → Dl → (Dl → Prop) → Prop} {n : Nat} {ds : List D} {δ : Dl} {Q : Dl → Prop} : vgTup n g (.tup ds) δ Q ↔ ds.length = n ∧ g ds δ Q := Iff.rfl
theorem vgCons_c {g : D → Dl → (Dl → Prop) → Prop} {gs : List D → Dl → (Dl → Prop) → Prop} {x : D} {xs : List D} {δ : Dl} {Q : Dl → Prop} : vgCons g gs (x :: xs) δ Q ↔ g x δ fun δ' => gs xs δ' Q := Iff.rfl
theorem vgNil_n {δ : Dl} {Q : Dl → Prop} : vgNil [] δ Q ↔ Q δ := Iff.rfl
theorem slotL_s {i : Nat} {δ : Dl} {ds : List D} {Q : List D → Prop} (h : δ[i]? = some (some (.lst ds))) : slotL δ i Q ↔ Q ds := by unfold slotL; rw [h]
theorem tyn_int {i : Int} : (D.int i).tyn = some "int" := rfl
theorem tyn_bl {i : Bool} : (D.bl i).tyn = some "bool" := rfl
theorem tyn_lst {i : List D} : (D.lst i).tyn = some "list" := rfl
theorem tyn_tup {i : List D} : (D.tup i).tyn = some "tuple" := rfl
theorem tyn_str {i : Str} : (D.str i).tyn = some "str" := rfl
theorem tyn_non : D.non.tyn = some "NoneType" := rfl
theorem isB_ii : isB "int" "int" = true := rfl
theorem isB_ib : isB "int" "bool" = false := rfl
theorem isB_ll : isB "list" "list" = true := rfl
theorem isB_tt : isB "tuple" "tuple" = true := rfl
theorem isB_ss : isB "str" "str" = true := rfl
theorem isB_bb : isB "bool" "bool" = true := rfl
theorem isB_bi : isB "bool" "int" = true := rfl
theorem isB_il : isB "int" "list" = false := rfl
theorem isB_nl : isB "NoneType" "list" = false := rfl
theorem mulC {i j : Int} (h : ∃ m n : Nat, i.natAbs < 2 ^ m ∧ j.natAbs < 2 ^ n ∧ m + n ≤ 100000000) : CMulB i j := h
end
end L3
set_option Elab.async false
set_option linter.all false
set_option maxRecDepth 100000
set_option maxHeartbeats 4000000
namespace L3
open PySem
open L2 hiding D Rf Rfs Rp dI dT
section
variable {K : PySem.W.Frag} {ρ : Bool} {Γr Γl Γ Γ1 Γ2 Γn M : List Nat} {t u : TS} {te ta tb tx t1 t2 : TE} {de da db dx d1 d2 : DE} {d e : DS}
variable {B0 : Hp} {fps : Nat → List Addr} {δ : Dl} {σ : St} {H H' : Hp}
def vMinL (xs : List D) (P : DK) : Prop := match xs with | [x] => asNs x fun ns => 0 < ns.length ∧ ∀ M, M ∈ ns → (∀ x ∈ ns, M ≤ x) → P (.int M) | _ => False
def vMaxL (xs : List D) (P : DK) : Prop := match xs with | [x] => asNs x fun ns => 0 < ns.length ∧ ∀ M, M ∈ ns → (∀ x ∈ ns, x ≤ M) → P (.int M) | _ => False
def toBools : List D → Option (List Bool)
  | [] => some []
  | .bl i :: ds => (toBools ds).map (i :: ·)
  | _ => none
theorem toBools_map : ∀ {ns : List Bool}, toBools (ns.map D.bl) = some ns
  | [] => rfl
  | n :: ns => by rw [List.map_cons, toBools, toBools_map]; rfl
def asBs (x : D) (P : List Bool → Prop) : Prop := asL x fun ds => match toBools ds with | some ns => P ns | none => False
def vAll (xs : List D) (P : DK) : Prop := match xs with | [x] => asBs x fun ns => P (.bl (ns.all id)) | _ => False
def vAny (xs : List D) (P : DK) : Prop := match xs with | [x] => asBs x fun ns => P (.bl (ns.any id)) | _ => False
theorem vAll_bools {ns : List Bool} {P : DK} : vAll [.lst (ns.map D.bl)] P ↔ P (.bl (ns.all id)) := by
  show (match toBools (ns.map D.bl) with | some ns => P (.bl (ns.all id)) | none => False) ↔ _
  rw [toBools_map]
theorem vAny_bools {ns : List Bool} {P : DK} : vAny [.lst (ns.map D.bl)] P ↔ P (.bl (ns.any id)) := by
  show (match toBools (ns.map D.bl) with | some ns => P (.bl (ns.any id)) | none => False) ↔ _
  rw [toBools_map]
theorem vMinL_ints {ns : List Int} {P : DK} : vMinL [dI ns] P ↔ 0 < ns.length ∧ ∀ M, M ∈ ns → (∀ x ∈ ns, M ≤ x) → P (.int M) := asNs_ints
theorem vMaxL_ints {ns : List Int} {P : DK} : vMaxL [dI ns] P ↔ 0 < ns.length ∧ ∀ M, M ∈ ns → (∀ x ∈ ns, x ≤ M) → P (.int M) := asNs_ints
def rngI (n : Nat) : List Int := (List.range n).map fun (k : Nat) => (k : Int)
def vListRng (de : DE) (δ : Dl) (P : DK) : Prop := de δ fun x => asI [x] fun j => (j ≤ 100000 ∧ -(2 ^ 62) ≤ j) ∧ P (dI (rngI j.toNat))
theorem asO_out {o : Option D} {P : DK} (h : asO o P) : ∃ d, o = some d ∧ P d := by
  unfold asO at h; split at h
  · exact ⟨_, rfl, h⟩
  · exact h.elim
theorem asLst_in {o : Option D} {es : List D} {Q : List D → Prop} (e : o = some (.lst es)) (h : Q es) : asLst o Q := by rw [e]; exact h
def vSlR (de : DE) (dl dh : DO) (δ : Dl) (P : DK) : Prop := de δ fun x => dl δ fun l => dh δ fun u => asL x fun ds => P (.lst (cutD ds l u))
def vCatR (x y : D) (P : DK) : Prop := match x, y with | .lst a, .lst b => a.length + b.length ≤ 1000 ∧ P (.lst (a ++ b)) | _, _ => False
theorem vCatR_lst {a b : List D} {P : DK} : vCatR (.lst a) (.lst b) P ↔ a.length + b.length ≤ 1000 ∧ P (.lst (a ++ b)) := Iff.rfl
def vRepR (x y : D) (P : DK) : Prop := match x, y with | .lst a, .int k => ((-(2 ^ 63) ≤ k ∧ k < 2 ^ 63) ∧ a.length * k.toNat ≤ 1000) ∧ P (.lst (repD a k.toNat)) | _, _ => False
theorem vRepR_lst {a : List D} {k : Int} {P : DK} : vRepR (.lst a) (.int k) P ↔ ((-(2 ^ 63) ≤ k ∧ k < 2 ^ 63) ∧ a.length * k.toNat ≤ 1000) ∧ P (.lst (repD a k.toNat)) := Iff.rfl
def vListR (xs : List D) (P : DK) : Prop := match xs with | [x] => asL x fun ds => P (.lst ds) | _ => False
theorem vListR_lst {ds : List D} {P : DK} : vListR [.lst ds] P ↔ P (.lst ds) := Iff.rfl
def vRevR (da : DE) (δ : Dl) (P : DK) : Prop := da δ fun x => asL x fun ds => P (.lst ds.reverse)
def vAppPop (i k : Nat) (dn : DE) (E : DEnds) (δ : Dl) : Prop := slotL δ i fun ds => slotL δ k fun es => dn δ fun x => asI [x] fun n => (ds.length < 1000 ∧ es.all D.scal = true ∧ 0 ≤ n ∧ n < 2 ^ 63) ∧ asO (es[n.toNat]?) fun y => E.nx ((δ.set k (some (.lst (es.eraseIdx n.toNat)))).set i (some (.lst (ds ++ [y]))))
theorem vEqS_bl {neg : Bool} {i j : Bool} {P : DK} : vEqS neg (.bl i) (.bl j) P ↔ P (.bl (if neg then !decide (i = j) else decide (i = j))) := by
  unfold vEqS
  simp only [D.scal, D.toV, scal, true_and, V.bl.injEq]
theorem vEqS_str {neg : Bool} {i j : Str} {P : DK} : vEqS neg (.str i) (.str j) P ↔ P (.bl (if neg then !decide (i = j) else decide (i = j))) := by
  unfold vEqS
  simp only [D.scal, D.toV, scal, true_and, V.str.injEq]
end
end L3
set_option Elab.async false
set_option linter.all false
set_option maxRecDepth 100000
set_option maxHeartbeats 4000000
namespace L3
open PySem
open L2 hiding D Rf Rfs Rp dI dT
def Rect (n m : Nat) (t : List (List Int)) : Prop := t.length = n ∧ ∀ r ∈ t, r.length = m
abbrev rowAt (t : List (List Int)) (i : Nat) : List Int := t.getD i []
abbrev cellAt (t : List (List Int)) (i j : Nat) : Int := (t.getD i []).getD j 0
abbrev setCell (t : List (List Int)) (i j : Nat) (v : Int) : List (List Int) := t.set i ((t.getD i []).set j v)
theorem rowAt_mem {t : List (List Int)} {i : Nat} (h : i < t.length) : rowAt t i ∈ t := by
  unfold rowAt
  rw [List.getD_eq_getElem?_getD, List.getElem?_eq_getElem h]
  exact List.getElem_mem h
theorem Rect.row {n m : Nat} {t : List (List Int)} (h : Rect n m t) {i : Nat} (hi : i < n) : (rowAt t i).length = m := h.2 _ (rowAt_mem (by rw [h.1]; exact hi))
theorem Rect.set {n m : Nat} {t : List (List Int)} (h : Rect n m t) {i : Nat} {r : List Int} (hr : r.length = m) : Rect n m (t.set i r) := by
  refine ⟨by rw [List.length_set]; exact h.1, fun x hx => ?_⟩
  rcases List.mem_or_eq_of_mem_set hx with z | z
  · exact h.2 x z
  · rw [z]; exact hr
theorem Rect.setCell {n m : Nat} {t : List (List Int)} (h : Rect n m t) {i j : Nat} {v : Int} (hi : i < n) : Rect n m (setCell t i j v) := h.set (by rw [List.length_set]; exact h.row hi)
section
variable {i j : Nat} {δ : Dl} {de d1 d2 dx : DE} {E : DEnds} {t : List (List Int)} {r : List Int} {a b v : Int}
theorem setItem_ints (hs : δ[i]? = some (some (dI r))) (hde : ∀ R : DK, R (.int v) → de δ R) (hdx : ∀ R : DK, R (.int a) → dx δ R) (ha : 0 ≤ a ∧ a < r.length) (h : E.nx (δ.set i (some (dI (r.set a.toNat v))))) : vSetItem i de dx E δ := by
  unfold vSetItem
  refine hde _ ((slotL_s hs).mpr (hdx _ ?_))
  show match ixN (r.map D.int).length a with | some j => E.nx (δ.set i (some (.lst ((r.map D.int).set j (.int v))))) | none => False
  rw [ixN_nat ha.1 (by rw [List.length_map]; exact ha.2)]
  show E.nx (δ.set i (some (.lst ((r.map D.int).set a.toNat (.int v)))))
  rw [set_dI]; exact h
end
theorem asO_ints {r : List Int} {a : Int} {P : DK} (ha : 0 ≤ a ∧ a < r.length) (h : P (.int (r.getD a.toNat 0))) : asO (atI (r.map D.int) a) P := (asO_at (at_dI ha.1 ha.2)).mpr h
theorem am_cons0 {K : PySem.W.Frag} {Γ : List Nat} {ta : TE} {da : DE} {tr : TA} {dr : DA} (ha : EM K Γ [] ta da) (hr : AM K Γ [] tr dr) : AM K Γ [] (tCons ta tr) (vCons da dr) := am_cons ha hr (fun _ h => (nomatch h)) (fun _ h => (nomatch h))
theorem asO_idx {ds : List D} {a : Int} {P : DK} (h0 : 0 ≤ a) (h : a < ds.length) (k : asO (ds[a.toNat]?) P) : asO (atI ds a) P := by
  unfold atI; rw [ixN_nat h0 h]; exact k
end L3
namespace L3
open PySem
open L2 hiding D Rf Rfs Rp dI dT
def vInts (ns : List Int) (δ : Dl) (P : List D → Prop) : Prop := P (ns.map D.int)
end L3
namespace L3
open PySem
open L2 hiding D Rf Rfs Rp dI dT
theorem cutD_to {ds : List D} {k : Int} (h : 0 ≤ k) : cutD ds none (some k) = ds.take k.toNat := by
  obtain ⟨n, rfl⟩ := Int.eq_ofNat_of_zero_le h
  unfold cutD
  rw [HT.sIx_nat, HT.sIx_none, Nat.sub_zero, List.drop_zero, ← List.take_eq_take_min]
  rfl
theorem cutD_from {ds : List D} {k : Int} (h : 0 ≤ k) (h2 : k ≤ ds.length) : cutD ds (some k) none = ds.drop k.toNat := by
  obtain ⟨n, rfl⟩ := Int.eq_ofNat_of_zero_le h
  unfold cutD
  rw [HT.sIx_nat, HT.sIx_none, Nat.min_eq_left (by omega), List.take_of_length_le (by rw [List.length_drop]; exact Nat.le_refl _)]
  rfl
theorem atI_c0 {a : D} {ds : List D} : atI (a :: ds) 0 = some a := by
  unfold atI; rw [ixN_nat (by omega) (by rw [List.length_cons]; omega)]; rfl
theorem atI_c1 {a b : D} {ds : List D} : atI (a :: b :: ds) 1 = some b := by
  unfold atI; rw [ixN_nat (by omega) (by rw [List.length_cons, List.length_cons]; omega)]; rfl
theorem atI_c2 {a b c : D} {ds : List D} : atI (a :: b :: c :: ds) 2 = some c := by
  unfold atI; rw [ixN_nat (by omega) (by rw [List.length_cons, List.length_cons, List.length_cons]; omega)]; rfl
theorem atI_c3 {a b c d : D} {ds : List D} : atI (a :: b :: c :: d :: ds) 3 = some d := by
  unfold atI; rw [ixN_nat (by omega) (by rw [List.length_cons, List.length_cons, List.length_cons, List.length_cons]; omega)]; rfl
end L3
set_option Elab.async false
set_option linter.all false
set_option maxRecDepth 100000
set_option maxHeartbeats 4000000
namespace Maj
open L2 (fall fall_perm fall_desc fall_length)
def topk (xs : List Int) (k : Nat) : Int := ((fall xs).take k).sum
def Le (xs ys : List Int) : Prop := ∀ k, k ≤ xs.length → topk xs k ≤ topk ys k
theorem Le.trans {xs ys zs : List Int} (a : Le xs ys) (b : Le ys zs) (h : xs.length = ys.length) : Le xs zs := fun k hk => Int.le_trans (a k hk) (b k (by omega))
def stepped (xs : List Int) (g t : Nat) (a : Int) : List Int := (xs.set g (xs.getD g 0 - a)).set t ((xs.set g (xs.getD g 0 - a)).getD t 0 + a)
theorem getD_set_ne {xs : List Int} {i j : Nat} {v : Int} (h : i ≠ j) : (xs.set i v).getD j 0 = xs.getD j 0 := by
  rw [List.getD_eq_getElem?_getD, List.getD_eq_getElem?_getD, List.getElem?_set_ne h]
theorem step_len {xs : List Int} {g t : Nat} {a : Int} : (stepped xs g t a).length = xs.length := by unfold stepped; rw [List.length_set, List.length_set]
def above (one other : List Int) : List Nat := (List.range one.length).filter fun p => decide (topk other (p + 1) < topk one (p + 1))
end Maj
namespace L3
open PySem
open L2 hiding D Rf Rfs Rp dI dT
section
variable {K : PySem.W.Frag} {ρ : Bool} {Γr Γl Γ Γn : List Nat} {te : TE} {de : DE}
def vgLst (n : Nat) (dg : List D → Dl → (Dl → Prop) → Prop) (x : D) (δ : Dl) (P : Dl → Prop) : Prop := asL x fun ds => ds.length = n ∧ dg ds δ P
def vPar (i j : Nat) (da : DA) (E : DEnds) (δ : Dl) : Prop := da δ fun xs => match xs with | [x, y] => E.nx ((δ.set i (some x)).set j (some y)) | _ => False
end
end L3
set_option Elab.async false
set_option linter.all false
set_option maxRecDepth 100000
set_option maxHeartbeats 4000000
namespace L3
open PySem L2
section
variable {K : PySem.W.Frag}
def asIB (xs : List D) (P : Int → Prop) : Prop := match xs with | [.int j] => P j | [.bl b] => P (if b then 1 else 0) | _ => False
theorem asIB_int {i : Int} {P : Int → Prop} : asIB [.int i] P ↔ P i := Iff.rfl
theorem asIB_bl {b : Bool} {P : Int → Prop} : asIB [.bl b] P ↔ P (if b then 1 else 0) := Iff.rfl
def vIntB (xs : List D) (P : DK) : Prop := asIB xs fun i => P (.int i)
end
end L3
namespace L3
open PySem
open L2 hiding D Rf Rfs Rp dI dT
end L3
set_option Elab.async false
set_option linter.all false
set_option maxRecDepth 100000
set_option maxHeartbeats 4000000
namespace L3
open PySem L2
section
variable {K : PySem.W.Frag} {ρ : Bool} {Γr Γl Γ : List Nat} {B0 : Hp} {i j m : Nat} {a0 : Addr} {fps : Nat → List Addr} {δ : Dl} {σ : St} {H H' : Hp} {t u : TS} {d e : Nat → DS} {te tx t1 : TE} {de dx d1 : DE}
end
end L3
namespace L3
open PySem
open L2 hiding D Rf Rfs Rp dI dT
section
variable {δ : Dl} {i j : Nat} {t : List (List Int)} {a b v : Int} {d1 de dx : DE} {d : Nat → DS} {E : DEnds}
end
end L3
set_option Elab.async false
set_option linter.all false
set_option maxRecDepth 100000
set_option maxHeartbeats 4000000
namespace L3
open PySem L2
def D.flat : D → Bool
  | .tup ds => ds.all D.scal
  | d => d.scal
theorem Rf.flat {K : PySem.W.Frag} {H : Hp} {d : D} {v : V} {fp : List Addr} (h : Rf K H d v fp) (s : d.flat = true) : fp = [] := by
  cases d with
  | tup ds =>
    obtain ⟨a, xs, rfl, h2, h3⟩ := h
    exact (h3.scals s).2
  | _ => first | exact (h.scal s).2 | cases s
theorem flat_int {i : Int} : (D.int i).flat = true := rfl
theorem flat_bl {b : Bool} : (D.bl b).flat = true := rfl
theorem flat_tup4 {a b c d : Int} : (D.tup [.int a, .int b, .int c, .int d]).flat = true := rfl
theorem flat_tup3 {a b c : Int} : (D.tup [.int a, .int b, .int c]).flat = true := rfl
theorem flat_tup2 {a b : Int} : (D.tup [.int a, .int b]).flat = true := rfl
def vFlat (d : DE) (δ : Dl) (P : DK) : Prop := d δ fun x => x.flat = true ∧ P x
theorem ER.flat {K : PySem.W.Frag} {Γ : List Nat} {t : TE} {d : DE} (h : ER K Γ t d) : EM K Γ [] t (vFlat d) := ⟨fun δ P P' k q => h.mono _ _ _ (fun x z => ⟨z.1, k x z.2⟩) q, fun o q => h.run o (h.mono _ _ _ (fun x z v H' s r => by
  obtain ⟨fp, r⟩ := r
  have e := r.flat z.1
  subst e
  exact z.2 v H' [] s r Nw.nil) q)⟩
end L3
namespace L3
open PySem
open L2 hiding D Rf Rfs Rp dI dT
def Ones (n m : Nat) (t : List (List Int)) : Prop := Rect n m t ∧ ∀ r ∈ t, ∀ x ∈ r, x = 0 ∨ x = 1
theorem Ones.set {n m a b : Nat} {t : List (List Int)} {v : Int} (h : Ones n m t) (ha : a < n) (hv : v = 0 ∨ v = 1) : Ones n m (setCell t a b v) := by
  refine ⟨h.1.setCell ha, fun r hr x hx => ?_⟩
  have hl := h.1.1
  rcases List.mem_or_eq_of_mem_set hr with z | z
  · exact h.2 r z x hx
  · rw [z] at hx
    rcases List.mem_or_eq_of_mem_set hx with w | w
    · exact h.2 _ (rowAt_mem (by omega)) x w
    · rw [w]; exact hv
def CanSwap (n m : Nat) (t : List (List Int)) (i j k l : Int) : Prop := (0 ≤ i ∧ i < n) ∧ (0 ≤ k ∧ k < n) ∧ (0 ≤ j ∧ j < m) ∧ (0 ≤ l ∧ l < m) ∧ cellAt t i.toNat j.toNat = 1 ∧ cellAt t i.toNat l.toNat = 0 ∧ cellAt t k.toNat j.toNat = 0 ∧ cellAt t k.toNat l.toNat = 1
instance {n m : Nat} {t : List (List Int)} {i j k l : Int} : Decidable (CanSwap n m t i j k l) := by unfold CanSwap; infer_instance
end L3
set_option Elab.async false
set_option linter.all false
set_option maxRecDepth 100000
set_option maxHeartbeats 4000000
namespace L3
open PySem L2
def ST0 (K : PySem.W.Frag) (t : TS) (Γ Γn : List Nat) (d : DS) : Prop :=
  ∀ ⦃B0 : Hp⦄ ⦃Dn : Ends⦄ ⦃E : DEnds⦄ ⦃fps : Nat → List Addr⦄ ⦃δ : Dl⦄ ⦃σ : St⦄ ⦃H : Hp⦄, (∀ {fps δ H}, Ok K B0 Γn fps δ σ H → E.nx δ → Dn.nx σ H) → Ok K B0 Γ fps δ σ H → d E δ → t Dn σ H
section
variable {K : PySem.W.Frag} {ρ : Bool} {Γr Γl Γ Γ1 Γ2 Γn M : List Nat} {t u : TS} {te ta tb tx t1 t2 : TE} {de da db dx d1 d2 : DE} {d e : DS}
variable {B0 : Hp} {fps : Nat → List Addr} {δ : Dl} {σ : St} {H H' : Hp}
theorem ST0.st (h : ST0 K t Γ Γn d) : ST K ρ Γr Γl t Γ Γn d := fun _ _ _ _ _ _ _ k o q => h (fun o' z => k.nx o' z) o q
theorem st0_setItem (i : Nat) (he : EM K Γ [] te de) (hx : ER K Γ tx dx) (hi : i ∈ Γ := by decide) : ST0 K (tAsg te (gSub (tVar i) tx rSetL)) Γ Γ (vSetItem i de dx) := by
  intro B0 Dn E fps δ σ H k o h
  refine he.run o (he.mono _ _ _ (fun x z v H1 fp s r n => ?_) h)
  obtain ⟨ds, e, z⟩ := slotL_out z
  obtain ⟨a0, _, _, h1, _⟩ := (o.same s).ownL e
  refine ⟨.ref a0, h1, hx.run (o.same s) (hx.mono _ _ _ (fun y z w H2 s2 r2 => ?_) z)⟩
  obtain ⟨m, em, z9⟩ := asI1_out z
  subst em
  cases ej : ixN ds.length m with
  | none => rw [ej] at z9; exact z9.elim
  | some j =>
    rw [ej] at z9
    obtain ⟨a, xs, e1, e2, e3, fps', o'⟩ := setItem_ok ((o.same s).same s2) hi e (r.same s2) n.nd (fun a ha => (n.mu a ha).same s2) (fun a ha => ⟨o.b0.free (n.fresh a ha), fun j z => o.dom z (n.fresh a ha)⟩) (ixN_lt ej)
    rw [h1] at e1; cases e1
    exact ⟨a0, xs, m, j, rfl, r2.int, e2, by rw [e3]; exact ej, k o' z9⟩
def slotP (δ : Dl) (i : Nat) (P : Addr → D → Prop) : Prop := match δ[i]? with | some (some (.pin a d)) => P a d | _ => False
theorem slotP_out {i : Nat} {P : Addr → D → Prop} (h : slotP δ i P) : ∃ a d, δ[i]? = some (some (.pin a d)) ∧ P a d := by
  unfold slotP at h; split at h
  · exact ⟨_, _, by assumption, h⟩
  · exact h.elim
theorem slotP_in {i : Nat} {P : Addr → D → Prop} {a : Addr} {x : D} (e : δ[i]? = some (some (.pin a x))) (h : P a x) : slotP δ i P := by unfold slotP; rw [e]; exact h
theorem Ok.redata (o : Ok K B0 Γ fps δ σ H) {i : Nat} {x y : D} (e : δ[i]? = some (some x)) (h : ∀ v, σ[i]? = some (some v) → Rf K H x v (fps i) → Rf K H y v (fps i)) : Ok K B0 Γ fps (δ.set i (some y)) σ H := by
  have hl : i < δ.length := (List.getElem?_eq_some_iff.mp e).1
  refine ⟨by rw [List.length_set]; exact o.len, o.b0, fun j d q => ?_, fun j q => ?_, o.own, o.dj⟩
  · by_cases hj : j = i
    · subst hj
      rw [List.getElem?_set_self hl] at q; cases q
      obtain ⟨v, h1, h2⟩ := o.val j x e
      exact ⟨v, h1, h v h1 h2⟩
    · rw [List.getElem?_set_ne (Ne.symm hj)] at q
      exact o.val j d q
  · by_cases hj : j = i
    · subst hj
      exact absurd (List.getElem?_set_self hl) (q y)
    · exact o.non j fun d z => q d (by rw [List.getElem?_set_ne (Ne.symm hj)]; exact z)
def vPin (i : Nat) (d : DS) (E : DEnds) (δ : Dl) : Prop := slotP δ i fun a x => d { E with nx := fun δ' => vVar i δ' fun x' => E.nx (δ'.set i (some (.pin a x'))) } (δ.set i (some x))
theorem st0_pin (i : Nat) (h : ST0 K t Γ Γn d) : ST0 K t Γ Γn (vPin i d) := by
  intro B0 Dn E fps δ σ H k o q
  obtain ⟨a, x, e, q⟩ := slotP_out q
  obtain ⟨v, h1, h2⟩ := o.val i _ e
  obtain rfl : v = .ref a := h2.1
  have o1 : Ok K B0 Γ fps (δ.set i (some x)) σ H := o.redata e fun _ _ z => z.2
  refine h (E := { E with nx := fun δ' => vVar i δ' fun x' => E.nx (δ'.set i (some (.pin a x'))) }) (fun {fps2 δ2 H2} o2 z => ?_) o1 q
  obtain ⟨x', e2, z⟩ := vVar_out z
  exact k (o2.redata (y := .pin a x') e2 fun v hv r => ⟨by rw [h1] at hv; cases hv; rfl, r⟩) z
theorem st_pin (i : Nat) (h : ST0 K t Γ Γn d) : ST K ρ Γr Γl t Γ Γn (vPin i d) := (st0_pin i h).st
def vVarP (i : Nat) (δ : Dl) (P : DK) : Prop := slotP δ i fun _ x => P x
theorem er_varP (i : Nat) : ER K Γ (tVar i) (vVarP i) := ⟨fun δ P P' k h => by obtain ⟨a, x, e, z⟩ := slotP_out h; exact slotP_in e (k _ z), fun {B0 fps δ σ H Q} o q => by
  obtain ⟨a, x, e, q⟩ := slotP_out q
  obtain ⟨v, e1, r⟩ := o.val i _ e
  exact ⟨v, e1, q v H (Same.refl H) ⟨_, r.2⟩⟩⟩
def D.isRef : D → Bool | .lst _ => true | .dic _ => true | .pin _ _ => true | .ins _ _ _ => true | _ => false
theorem Rf.isRef {x : D} {v : V} {fp : List Addr} (h : Rf K H x v fp) (e : x.isRef = true) : ∃ a, v = .ref a := by
  cases x with
  | lst ds => obtain ⟨a, xs, fq, rfl, _⟩ := h; exact ⟨a, rfl⟩
  | dic ds => obtain ⟨a, rfl, _⟩ := h; exact ⟨a, rfl⟩
  | pin a d => exact ⟨a, h.1⟩
  | ins C ns ds => obtain ⟨a, dx, xs, fq, rfl, _⟩ := h; exact ⟨a, rfl⟩
  | _ => cases e
abbrev DSI := List D → (D → D → Prop) → Prop
def PostI (K : PySem.W.Frag) (p : Nat) (vs : List V) (B : Hp) (Q : VK) (r x' : D) : Prop :=
  ∀ w H' fp' fpw v, Same B H' → vs[p]? = some v → Rf K H' x' v fp' → fp'.Nodup → (∀ b ∈ fp', B b = none ∧ Mu H' b) → Rf K H' r w fpw → fpw.Nodup → (∀ b ∈ fpw, B b = none ∧ Mu H' b ∧ b ∉ fp') → Q w H'
def spI (K : PySem.W.Frag) (p : Nat) (S : DSI) : Sp := fun vs H Q _ => ∃ B fv ds, Ok K B [p] fv (ds.map some) (vs.map some) H ∧ (∃ a, vs[p]? = some (.ref a)) ∧ S ds (PostI K p vs B Q)
abbrev endsI (p : Nat) (a : Addr) (P : D → D → Prop) : DEnds := ⟨fun δ => slotP δ p fun a' x => a' = a ∧ P .non x, fun r δ => slotP δ p fun a' x => a' = a ∧ P r x, fun _ => False, fun _ => False⟩
theorem startI_ok {p : Nat} {N : List Str} {ds : List D} {vs : List V} {fv : Nat → List Addr} {a : Addr} (o : Ok K B0 [p] fv (ds.map some) (vs.map some) H) (ha : vs[p]? = some (.ref a)) {x : D} (hx : ds[p]? = some x) :
    Ok K B0 [p] fv (startD N (ds.set p (.pin a x))) (L2.start N vs) H := by
  have hl : vs.length = ds.length := by have := o.len; rwa [List.length_map, List.length_map] at this
  have hp : p < ds.length := (List.getElem?_eq_some_iff.mp hx).1
  have o1 : Ok K B0 [p] fv ((ds.map some).set p (some (.pin a x))) (vs.map some) H := o.redata (x := x) (by rw [List.getElem?_map, hx]; rfl) fun v hv r => ⟨by rw [List.getElem?_map, ha] at hv; cases hv; rfl, r⟩
  have e : (ds.map some).set p (some (.pin a x)) = (ds.set p (.pin a x)).map some := by rw [List.map_set]
  rw [e] at o1
  have hl1 : (ds.set p (.pin a x)).length = ds.length := List.length_set
  generalize ds.set p (.pin a x) = ds1 at *
  unfold startD L2.start
  refine ⟨by rw [List.length_append, List.length_append, List.length_map, List.length_map, List.length_replicate, List.length_replicate]; omega, o1.b0, fun i d q => ?_, fun i q => ?_, o1.own, o1.dj⟩
  · by_cases hi : i < ds1.length
    · rw [List.getElem?_append_left (by simpa using hi)] at q
      rw [List.getElem?_append_left (by rw [List.length_map]; omega)]
      exact o1.val i d q
    · rw [List.getElem?_append_right (by simpa using hi), List.getElem?_replicate] at q
      split at q <;> cases q
  · refine o1.non i fun d z => q d ?_
    have : i < ds1.length := by simpa using (List.getElem?_eq_some_iff.mp z).1
    rw [List.getElem?_append_left (by simpa using this)]
    exact z
theorem fn_valI {N : List Str} {p : Nat} {S : DSI} (hs : ST K true [p] [] t [p] Γn d) (hd : ∀ ds P a x, S ds P → ds[p]? = some x → d (endsI p a P) (startD N (ds.set p (.pin a x)))) (hΓ : p ∈ Γn := by decide) (hS : ∀ ds P, S ds P → p < ds.length) :
    ∀ {vs H Q E}, spI K p S vs H Q E → t { nx := fun _ H' => Q .non H', rt := Q } (L2.start N vs) H := by
  rintro vs H Q E ⟨B, fv, ds, o, ⟨a, ha⟩, h⟩
  have hlt := hS _ _ h
  obtain ⟨x, hx⟩ : ∃ x, ds[p]? = some x := ⟨_, List.getElem?_eq_getElem hlt⟩
  have fin : ∀ {Γ' fps δ σ H' r w fpw}, p ∈ Γ' → Ok K B Γ' fps δ σ H' → Rf K H' r w fpw → fpw.Nodup → (∀ b ∈ fpw, B b = none ∧ Mu H' b ∧ b ∉ fps p) → (slotP δ p fun a' x => a' = a ∧ PostI K p vs B Q r x) → Q w H' := by
    intro Γ' fps δ σ H' r w fpw hp o' rr nd fr z
    obtain ⟨a', x', e, ea, z2⟩ := slotP_out z
    subst ea
    obtain ⟨v, h1, h2⟩ := o'.val p _ e
    obtain rfl : v = .ref a' := h2.1
    exact z2 w H' (fps p) fpw (.ref a') o'.b0 ha h2.2 (o'.own p hp).1 (fun b hb => (o'.own p hp).2 b hb) rr nd fr
  refine hs (E := endsI p a (PostI K p vs B Q)) ⟨fun o' z => ?_, fun _ (z : False) => z.elim, fun _ (z : False) => z.elim, fun o' r i z => ?_⟩ (startI_ok o ha hx) (hd ds _ a x h hx)
  · exact fin (r := .non) (w := .non) (fpw := []) hΓ o' ⟨rfl, rfl⟩ List.nodup_nil (fun b hb => (nomatch hb)) z
  · exact fin (List.mem_singleton.mpr rfl) o' r (i rfl).nd (fun b hb => ⟨(i rfl).nw b hb, (i rfl).mu b hb, (i rfl).dj p (List.mem_singleton.mpr rfl) b hb⟩) z
theorem Ok.setNew (o : Ok K B0 Γ fps δ σ H) (j : Nat) {x : D} {v : V} {fp : List Addr} (r : Rf K H x v fp) (nd : fp.Nodup) (fr : ∀ b ∈ fp, B0 b = none ∧ Mu H b ∧ ∀ l, b ∉ fps l) :
    Ok K B0 (j :: minus (minus Γ []) [j]) (fun l => if l = j then (if j < δ.length then fp else []) else fps l) (δ.set j (some x)) (σ.set j (some v)) H := by
  have mem : ∀ l, l ∈ j :: minus (minus Γ []) [j] → l ≠ j → l ∈ Γ := fun l hl hn => by
    rcases List.mem_cons.mp hl with z | z
    · exact absurd z hn
    · exact (mem_minus.mp (mem_minus.mp z).1).1
  refine ⟨by simp [o.len], o.b0, fun l d e => ?_, fun l h => ?_, fun l hl => ?_, fun l hl k hk a ha => ?_⟩
  · by_cases h : l = j
    · subst h
      rw [List.getElem?_set] at e
      by_cases hlt : l < δ.length
      · simp [hlt] at e
        subst e
        exact ⟨v, by rw [List.getElem?_set_self (by rw [o.len]; exact hlt)], by rw [if_pos rfl, if_pos hlt]; exact r⟩
      · simp [hlt] at e
    · rw [List.getElem?_set_ne (Ne.symm h)] at e
      rw [List.getElem?_set_ne (Ne.symm h), if_neg h]
      exact o.val l d e
  · by_cases h' : l = j
    · subst h'
      rw [if_pos rfl]
      by_cases hlt : l < δ.length
      · exact absurd (List.getElem?_set_self hlt) (h x)
      · rw [if_neg hlt]
    · rw [if_neg h']
      exact o.non l fun d z => h d (by rw [List.getElem?_set_ne (Ne.symm h')]; exact z)
  · by_cases h : l = j
    · subst h
      rw [if_pos rfl]
      split
      · exact ⟨nd, fun a ha => ⟨(fr a ha).1, (fr a ha).2.1⟩⟩
      · exact ⟨List.nodup_nil, fun a ha => (nomatch ha)⟩
    · rw [if_neg h]
      exact o.own l (mem l hl h)
  · by_cases h : l = j
    · subst h
      rw [if_pos rfl] at ha
      rw [if_neg hk]
      split at ha
      · exact (fr a ha).2.2 k
      · exact (nomatch ha)
    · rw [if_neg h] at ha
      by_cases h2 : k = j
      · rw [if_pos h2]
        split
        · exact fun z => (fr a z).2.2 l ha
        · exact List.not_mem_nil
      · rw [if_neg h2]
        exact o.dj l (mem l hl h) k hk a ha
def vCallI (i p : Nat) (S : DSI) (da : DA) (E : DEnds) (δ : Dl) : Prop := da δ fun xs => (∀ x, xs[p]? = some x → x.isRef = true) ∧ S xs fun _ x' => E.nx (δ.set i (some x'))
def vSetI (i p j : Nat) (S : DSI) (da : DA) (E : DEnds) (δ : Dl) : Prop := da δ fun xs => (∀ x, xs[p]? = some x → x.isRef = true) ∧ S xs fun r x' => E.nx ((δ.set i (some x')).set j (some r))
end
end L3
set_option Elab.async false
set_option linter.all false
set_option maxRecDepth 100000
set_option maxHeartbeats 4000000
namespace L2
open PySem PySem.Spec PyProof.Rows
end L2
namespace L3
open PySem L2
section
variable {K : PySem.W.Frag} {ρ : Bool} {Γr Γl Γ Γ1 Γ2 Γn M : List Nat} {t u : TS} {te ta tb td ty tv : TE} {de da db dd dk dv : DE} {d e : DS}
def ofV : V → D | .non => .non | .bl b => .bl b | .int i => .int i | .str x => .str x | _ => .non
def asDic (x : D) (P : List (Key × V) → Prop) : Prop := match x with | .dic kvs => P kvs | _ => False
theorem asDic_dic {kvs : List (Key × V)} {P : List (Key × V) → Prop} : asDic (.dic kvs) P ↔ P kvs := Iff.rfl
def asV (o : Option V) (P : V → Prop) : Prop := match o with | some v => P v | none => False
def vDGet (dd dk : DE) (δ : Dl) (P : DK) : Prop := dd δ fun x => dk δ fun y => asI [y] fun n => asDic x fun kvs => asV (valV kvs (.inl n)) fun v => P (ofV v)
def vDIn (neg : Bool) (dk dd : DE) (δ : Dl) (P : DK) : Prop := dk δ fun y => dd δ fun x => asI [y] fun n => asDic x fun kvs => P (.bl (if neg then !(valV kvs (.inl n)).isSome else (valV kvs (.inl n)).isSome))
def slotD (δ : Dl) (i : Nat) (P : List (Key × V) → Prop) : Prop := vVar i δ fun x => asDic x P
def vDPut (i : Nat) (dk dv : DE) (E : DEnds) (δ : Dl) : Prop := dv δ fun x => x.scal = true ∧ slotD δ i fun kvs => dk δ fun y => asI [y] fun n => kvs.length < 1000 ∧ E.nx (δ.set i (some (.dic (putK kvs (.inl n) x.toV))))
def vIndex (da dk : DE) (δ : Dl) (P : DK) : Prop := da δ fun x => asLst (some x) fun ds => ds.all D.scal = true ∧ dk δ fun y => y.scal = true ∧ ∃ j : Nat, (∃ z, ds[j]? = some z ∧ eqV z.toV y.toV = true) ∧ (∀ m z, m < j → ds[m]? = some z → eqV z.toV y.toV = false) ∧ P (.int j)
def vSort (xs : List D) (P : DK) : Prop := match xs with | [x] => asNs x fun ns => ns.length < 64 ∧ ∀ ms : List Int, ms.Perm ns → ms.Pairwise (· ≤ ·) → P (dI ms) | _ => False
theorem vSort_ints {ns : List Int} {P : DK} : vSort [dI ns] P ↔ ns.length < 64 ∧ ∀ ms : List Int, ms.Perm ns → ms.Pairwise (· ≤ ·) → P (dI ms) := asNs_ints
theorem c_sort : CallV K (fun xs H Q => ∃ (a : Addr) (ns : List Int), xs = [.ref a] ∧ SqL K H a (ns.map V.int) ∧ ns.length < 64 ∧ ∀ (l : Addr) (ms : List Int), H l = none → ms.Perm ns → ms.Pairwise (· ≤ ·) → Q (.ref l) (upd H l (.lst (ms.map V.int)))) vSort :=
  ⟨fun xs P P' k h => by
    unfold vSort at h ⊢
    revert h
    split
    · exact fun h => by obtain ⟨ns, e, z⟩ := asNs_out h; exact asNs_in e ⟨z.1, fun ms a b => k _ (z.2 ms a b)⟩
    · exact id,
   fun {H xs vs Q} r h => by
    unfold vSort at h
    split at h
    · obtain ⟨v, rfl, r0⟩ := r.one
      obtain ⟨ns, e, z⟩ := asNs_out h
      obtain ⟨a, ys, fq, rfl, hs, hr⟩ := r0.seq e
      rw [hr.intsV] at hs
      exact ⟨a, ns, rfl, hs, z.1, fun l ms hl hp ho => z.2 ms hp ho _ _ [l] (Same.new' hl) (Rf.ofInts upd_same) (Nw.one hl upd_same).any⟩
    · exact h.elim⟩
def slotT (δ : Dl) (i : Nat) (P : List D → Prop) : Prop := match δ[i]? with | some (some (.tup ds)) => P ds | _ => False
def vClearT (i : Nat) (dk : DE) (E : DEnds) (δ : Dl) : Prop := slotT δ i fun ds => dk δ fun y => asI [y] fun m => 0 ≤ m ∧ asLst (ds[m.toNat]?) fun _ => E.nx (δ.set i none)
theorem isRef_lst {ds : List D} : (D.lst ds).isRef = true := rfl
theorem isRef_dic {ds : List (Key × V)} : (D.dic ds).isRef = true := rfl
theorem ofV_int {i : Int} : ofV (.int i) = .int i := rfl
theorem ofV_bl {b : Bool} : ofV (.bl b) = .bl b := rfl
theorem ofV_non : ofV .non = .non := rfl
def vLenD (xs : List D) (P : DK) : Prop := match xs with | [.dic kvs] => P (.int kvs.length) | _ => False
theorem vLenD_dic {kvs : List (Key × V)} {P : DK} : vLenD [.dic kvs] P ↔ P (.int kvs.length) := Iff.rfl
end
end L3
set_option Elab.async false
set_option linter.all false
set_option maxRecDepth 100000
set_option maxHeartbeats 4000000
namespace Mat
def put (src : Nat → Option Nat) (c s : Nat) : Nat → Option Nat := fun d => if d = c then some s else src d
end Mat
namespace Mat
end Mat
namespace Mat
end Mat
set_option Elab.async false
set_option linter.all false
set_option maxRecDepth 100000
set_option maxHeartbeats 4000000
namespace L3
open PySem L2
section
variable {K : PySem.W.Frag} {ρ : Bool} {Γr Γl Γ Γ1 Γ2 Γn M : List Nat} {t u : TS} {te ta tb : TE} {de da db : DE} {d e : DS}
def vClearTs (i j : Nat) (k : Nat) (E : DEnds) (δ : Dl) : Prop := slotL δ i fun ds => j < δ.length ∧ (∀ (m : Nat) (d : D), ds[m]? = some d → ∃ (es e : List D), d = D.tup es ∧ es[k]? = some (D.lst e)) ∧ E.nx ((δ.set j none).set i (some (.lst [])))
end
end L3
namespace L3
open PySem L2
end L3
set_option Elab.async false
set_option linter.all false
set_option maxRecDepth 100000
set_option maxHeartbeats 4000000
namespace Bir
section
variable {κ : Type} [DecidableEq κ]
end
def S (m : Nat) (f : Nat → Int) : Int := ((List.range m).map f).sum
theorem S_succ {m : Nat} {f : Nat → Int} : S (m + 1) f = S m f + f m := by
  unfold S; rw [List.range_succ, List.map_append, List.sum_append]; simp
theorem S_zero {f : Nat → Int} : S 0 f = 0 := rfl
theorem S_one {f : Nat → Int} {c : Nat} : ∀ {m : Nat}, (∀ i, i < m → i ≠ c → f i = 0) → S m f = if c < m then f c else 0
  | 0, _ => by simp [S_zero]
  | m + 1, h => by
    rw [S_succ, S_one (m := m) fun i hi hn => h i (by omega) hn]
    by_cases h1 : c < m
    · rw [if_pos h1, if_pos (by omega), h m (by omega) (by omega)]; omega
    · rw [if_neg h1]
      by_cases h2 : c = m
      · subst h2; rw [if_pos (by omega)]; omega
      · rw [if_neg (by omega), h m (by omega) (Ne.symm h2)]; omega
abbrev Cd := Option (Nat × Nat)
def e (p : List Nat) (i j : Nat) : Int := if p[i]? = some j then 1 else 0
def fn (m r c : Nat) : Cd → Int
  | none => if r = m then (if c = m then 1 - (m : Int) else 1) else (if c = m then 1 else 0)
  | some (i, j) => if r = m then (if c = m then 1 else if j = c then -1 else 0) else (if c = m then (if i = r then -1 else 0) else if i = r ∧ j = c then 1 else 0)
structure Pm (n : Nat) (p : List Nat) : Prop where
  len : p.length = n
  lt : ∀ (i c : Nat), p[i]? = some c → c < n
  nd : p.Nodup
theorem Pm.row {n : Nat} {p : List Nat} (h : Pm n p) {i : Nat} (hi : i < n) : S n (e p i) = 1 := by
  obtain ⟨c, hc⟩ : ∃ c, p[i]? = some c := ⟨_, List.getElem?_eq_getElem (by rw [h.len]; exact hi)⟩
  rw [S_one (c := c) fun j hj hn => by unfold e; rw [if_neg (fun z => hn (by rw [hc] at z; exact (Option.some.inj z).symm))], if_pos (h.lt i c hc)]
  unfold e; rw [if_pos hc]
end Bir
set_option Elab.async false
set_option linter.all false
set_option maxRecDepth 100000
set_option maxHeartbeats 4000000
namespace Bir
open L3
end Bir
set_option Elab.async false
set_option linter.all false
set_option maxRecDepth 100000
set_option maxHeartbeats 4000000
namespace L2
open PySem
end L2
namespace L3
open PySem L2
section
variable {K : PySem.W.Frag} {ρ : Bool} {Γr Γl Γ Γ1 Γ2 Γn M : List Nat} {t u : TS} {te ta tb td ty tv ti : TE} {de da db dd dk dv di : DE} {d e : DS}
def vTupOf (xs : List D) (P : DK) : Prop := match xs with | [x] => asL x fun ds => ds.all D.scal = true ∧ P (.tup ds) | _ => False
theorem vTupOf_lst {ds : List D} {P : DK} : vTupOf [.lst ds] P ↔ ds.all D.scal = true ∧ P (.tup ds) := Iff.rfl
def keyT (ns : List Int) : List Key := ns.map fun n => .inl n
def asTI (x : D) (P : List Int → Prop) : Prop := match x with | .tup ds => (match toInts ds with | some ns => P ns | none => False) | _ => False
theorem asTI_in {ns : List Int} {P : List Int → Prop} : asTI (.tup (ns.map D.int)) P ↔ P ns := by
  unfold asTI
  show (match toInts (ns.map D.int) with | some ns => P ns | none => False) ↔ P ns
  rw [toInts_map]
def asDit (x : D) (P : List (List Key × V) → Prop) : Prop := match x with | .dit kvs => P kvs | _ => False
theorem asDit_dit {kvs : List (List Key × V)} {P : List (List Key × V) → Prop} : asDit (.dit kvs) P ↔ P kvs := Iff.rfl
def vDInT (dk dd : DE) (δ : Dl) (P : DK) : Prop := dk δ fun y => dd δ fun x => asTI y fun ns => asDit x fun kvs => P (.bl (valV kvs (keyT ns)).isSome)
def vDPutT (i : Nat) (dk dv : DE) (E : DEnds) (δ : Dl) : Prop := dv δ fun x => x.scal = true ∧ vVar i δ fun d => asDit d fun kvs => dk δ fun y => asTI y fun ns => kvs.length < 1000 ∧ E.nx (δ.set i (some (.dit (putK kvs (keyT ns) x.toV))))
end
end L3
set_option Elab.async false
set_option linter.all false
set_option maxRecDepth 100000
set_option maxHeartbeats 4000000
namespace L3
open PySem L2
section
variable {K : PySem.W.Frag} {Γ : List Nat}
def vTupR (xs : List D) (P : DK) : Prop := match xs with | [x] => asL x fun ds => P (.tup ds) | _ => False
theorem vTupR_lst {ds : List D} {P : DK} : vTupR [.lst ds] P ↔ P (.tup ds) := Iff.rfl
end
end L3
set_option Elab.async false
set_option linter.all false
set_option maxRecDepth 100000
set_option maxHeartbeats 4000000
namespace L3
open PySem L2
section
variable {K : PySem.W.Frag} {ρ : Bool} {Γr Γl Γ : List Nat}
def vClearTL (i j k : Nat) (E : DEnds) (δ : Dl) : Prop := slotT δ i fun es => j < δ.length ∧ asLst (es[k]?) fun ds => (∀ d ∈ ds, ∃ e, d = D.lst e) ∧ E.nx ((δ.set j none).set i none)
end
end L3
set_option Elab.async false
set_option linter.all false
set_option maxRecDepth 100000
set_option maxHeartbeats 4000000
namespace L3
open PySem L2
inductive Pth where | l (m : Nat) | t (m k : Nat)
  deriving DecidableEq
def pget (p : Pth) (d : D) : Option (List D) := match p, d with
  | .l m, .lst ds => (match ds[m]? with | some (.lst es) => some es | _ => none)
  | .t m k, .lst ds => (match ds[m]? with | some (.tup ts) => (match ts[k]? with | some (.lst es) => some es | _ => none) | _ => none)
  | _, _ => none
def Vat (H : Hp) (p : Pth) (v : V) : Option V := match p, v with
  | .l m, .ref a => (match H a with | some (.lst xs) => xs[m]? | _ => none)
  | .t m k, .ref a => (match H a with | some (.lst xs) => (match xs[m]? with | some (.ref c) => (match H c with | some (.tup ys) => ys[k]? | _ => none) | _ => none) | _ => none)
  | _, _ => none
theorem Vat_l {H : Hp} {m : Nat} {a : Addr} : Vat H (.l m) (.ref a) = (match H a with | some (.lst xs) => xs[m]? | _ => none) := rfl
theorem pget_l {m : Nat} {d : D} {es : List D} (h : pget (.l m) d = some es) : ∃ ds, d = .lst ds ∧ ds[m]? = some (.lst es) := by
  unfold pget at h
  split at h
  · rename_i m' ds e
    cases e
    split at h
    · rename_i es' e2
      cases h
      exact ⟨ds, rfl, e2⟩
    · cases h
  · rename_i e; cases e
  · cases h
theorem pget_t {m k : Nat} {d : D} {es : List D} (h : pget (.t m k) d = some es) : ∃ ds ts, d = .lst ds ∧ ds[m]? = some (.tup ts) ∧ ts[k]? = some (.lst es) := by
  unfold pget at h
  split at h
  · rename_i e; cases e
  · rename_i m' k' ds e
    cases e
    split at h
    · rename_i ts e2
      split at h
      · rename_i es' e3
        cases h
        exact ⟨ds, ts, rfl, e2, e3⟩
      · cases h
    · cases h
  · cases h
section
variable {K : PySem.W.Frag} {H : Hp}
theorem Vat.upd {q : Pth} {d : D} {v : V} {fp : List Addr} {eq : List D} {b : Addr} {o : HO} {ys : List V} (h : Rf K H d v fp) (nd : fp.Nodup) (e : pget q d = some eq) (hb : H b = some (.lst ys)) (hbh : ∀ a, v = .ref a → a ≠ b) : Vat (L2.upd H b o) q v = Vat H q v := by
  cases q with
  | l m =>
    obtain ⟨ds, rfl, em⟩ := pget_l e
    obtain ⟨a, xs, fq, rfl, ha, rfl, hr⟩ := h
    rw [Vat_l, Vat_l, upd_ne (hbh a rfl)]
  | t m k =>
    obtain ⟨ds, ts, rfl, em, ek⟩ := pget_t e
    obtain ⟨a, xs, fq, rfl, ha, rfl, hr⟩ := h
    obtain ⟨w, f, e1, r, hf⟩ := hr.get em
    obtain ⟨c, zs, rfl, hc, hts⟩ := r
    have hcb : c ≠ b := fun z => by subst z; rw [hb] at hc; cases hc
    unfold Vat
    simp only [upd_ne (hbh a rfl), ha, e1, upd_ne hcb]
end
abbrev Al := List (Nat × Pth)
structure POk (K : PySem.W.Frag) (B0 : Hp) (Γ : List Nat) (i : Nat) (al : Al) (fps : Nat → List Addr) (δ : Dl) (σ : St) (H : Hp) : Prop where
  ok : Ok K B0 Γ fps (kill (al.map (·.1)) δ) σ H
  hi : i ∈ Γ
  hj : ∀ p ∈ al, p.1 ∉ Γ
  nd : (al.map (·.1)).Nodup
  al : ∀ p ∈ al, ∃ d v es b, δ[i]? = some (some d) ∧ σ[i]? = some (some v) ∧ pget p.2 d = some es ∧ es.all D.scal = true ∧ δ[p.1]? = some (some (.lst es)) ∧ Vat H p.2 v = some (.ref b) ∧ σ[p.1]? = some (some (.ref b))
section
variable {K : PySem.W.Frag} {Γ : List Nat} {B0 : Hp} {i : Nat} {al : Al} {fps : Nat → List Addr} {δ : Dl} {σ : St} {H H' : Hp}
theorem POk.ni (o : POk K B0 Γ i al fps δ σ H) : i ∉ al.map (·.1) := fun h => by
  obtain ⟨p, hp, e⟩ := List.mem_map.mp h
  exact o.hj p hp (e ▸ o.hi)
theorem POk.own (o : POk K B0 Γ i al fps δ σ H) {d : D} (h : δ[i]? = some (some d)) : ∃ v, σ[i]? = some (some v) ∧ Rf K H d v (fps i) := o.ok.val i d (kill_get.mpr ⟨o.ni, h⟩)
end
section
variable {K : PySem.W.Frag} {Γ Γl Γn : List Nat} {i j : Nat} {t u : TS} {d e : Al → DS} {te tx t1 : TE} {de dx d1 : DE}
end
end L3
set_option Elab.async false
set_option linter.all false
set_option maxRecDepth 100000
set_option maxHeartbeats 4000000
namespace L2
open PySem PySem.Spec PyProof.Rows
def tOrE (t u : TE) : TE := fun σ H Q => t σ H Q ∨ u σ H Q
theorem pe_orE {X : Cx} {e : Expr} {t u : TE} (h1 : PE X e t) (h2 : PE X e u) : PE X e (tOrE t u) := fun pins s σ H Q I h => h.elim (h1 pins s σ H Q I) (h2 pins s σ H Q I)
def rIsC (K : PySem.W.Frag) (P : Addr) (xs : List V) (H : Hp) (Q : VK) : Prop := ∃ x t b, xs = [x, .ref P] ∧ TyOf K H x t ∧ PySem.W.kitOne K t (.ref P) = some b ∧ Q (.bl b) H
theorem call_isC {X : Cx} {K : PySem.W.Frag} {P : Addr} (hK : X.K = K) : CallR X (.builtin "isinstance") (rIsC K P) := by
  subst hK
  intro pins s σ H xs us Q I r h
  obtain ⟨x, t, b, rfl, ty, e, q⟩ := h
  obtain ⟨u, w', rfl, rx, rn⟩ := vals2 r
  obtain rfl : w' = Value.ref P := rn
  exact isinst_ok I rx ty e fun tk => ⟨.bl b, H, I.tok _, rfl, q⟩
theorem pe_fldK {X : Cx} {K : PySem.W.Frag} {e : Expr} {f : Str} {pos : Pos} {ta : TE} (hK : X.K = K) (he : PE X e ta) (hb : attributeBase e f X.env (eval e X.env) = eval e X.env) : PE X (.Attribute e f pos) (tFld K ta f) := hK ▸ pe_fld he hb
theorem ps_fldK {X : Cx} {K : PySem.W.Frag} {o value : Expr} {f : Str} {pos pos' : Pos} {ta tv : TE} (hK : X.K = K) (ha : PE X o ta) (hv : PE X value tv) (hs : swapsWith value (some (.Attribute o f pos')) pos.line X.env = pure false) : PS X (.Assign [.Attribute o f pos'] value pos) (sFld K ta tv f) := hK ▸ ps_fld ha hv hs
structure MtAt (K : PySem.W.Frag) (C : Addr) (x qual : Str) (st : Stmt) (ps : List Str) (f : Addr) (fd : FuncData) : Prop where
  fn : Fun K x qual st f fd
  mt : Meth K C x f
  bd : Binds K fd ps []
structure MkAt (K : PySem.W.Frag) (mg : Str → Option Value) (n : Str) (C : Addr) (qual : Str) (st : Stmt) (ps : List Str) (f : Addr) (fd : FuncData) : Prop where
  fn : Fun K "__init__" qual st f fd
  mkk : Mk K C f
  bd : Binds K fd ps []
  mg : mg n = some (.ref C)
structure ICls (K : PySem.W.Frag) (C : Addr) : Prop where
  cl : Cls K C
  ha : PySem.W.findIn K (.ref C) "__class__" = some (some (.builtin "object.__class__"))
  hn : PySem.W.specialIn K (.builtin "object.__class__") "__get__" = some (some (.builtin "getset_descriptor.__get__"))
  ht : PySem.W.takesIn K (.builtin "object.__class__") = some true
  hm : PySem.W.mroIn K C (.type "object") = some true
theorem lookup_zip {f : Str} {v : V} : ∀ {ns : List Str} {xs : List V} {i : Nat}, ns.Nodup → ns[i]? = some f → xs[i]? = some v → (ns.zip xs).lookup f = some v
  | [], _, i, _, e, _ => by simp at e
  | _ :: _, [], i, _, _, e => by simp at e
  | n :: ns, x :: xs, 0, _, e1, e2 => by
    simp at e1 e2
    subst e1; subst e2
    simp
  | n :: ns, x :: xs, i + 1, hd, e1, e2 => by
    obtain ⟨h1, h2⟩ := List.nodup_cons.mp hd
    simp only [List.getElem?_cons_succ] at e1 e2
    have hne : f ≠ n := fun z => h1 (z ▸ List.mem_of_getElem? e1)
    rw [List.zip_cons_cons, List.lookup_cons, beq_eq_false_iff_ne.mpr hne]
    exact lookup_zip h2 e1 e2
theorem lookup_zip_none {f : Str} : ∀ {ns : List Str} {xs : List V}, f ∉ ns → (ns.zip xs).lookup f = none
  | [], _, _ => by simp
  | _ :: _, [], _ => by simp
  | n :: ns, x :: xs, h => by
    have hne : f ≠ n := fun z => h (z ▸ List.mem_cons_self)
    rw [List.zip_cons_cons, List.lookup_cons, beq_eq_false_iff_ne.mpr hne]
    exact lookup_zip_none fun z => h (List.mem_cons_of_mem _ z)
theorem putF_zip {f : Str} {v : V} : ∀ {ns : List Str} {xs : List V}, f ∉ ns → ns.length = xs.length → putF f v (ns.zip xs) = (ns ++ [f]).zip (xs ++ [v])
  | [], [], _, _ => rfl
  | [], _ :: _, _, h => by simp at h
  | _ :: _, [], _, h => by simp at h
  | n :: ns, x :: xs, h, hl => by
    have hne : n ≠ f := fun z => h (z ▸ List.mem_cons_self)
    rw [List.zip_cons_cons, putF, if_neg hne, putF_zip (fun z => h (List.mem_cons_of_mem _ z)) (by simpa using hl)]
    rfl
end L2
namespace L3
open PySem L2
section
variable {K : PySem.W.Frag} {Γ M : List Nat} {t u ta tb : TE} {d e da db : DE} {C : Addr} {ns : List Str} {f : Str}
def asF (C : Addr) (ns : List Str) (i : Nat) (x : D) (P : DK) : Prop := match x with | .ins C' ns' ds => (C' = C ∧ ns' = ns) ∧ asO (ds[i]?) P | _ => False
theorem asF_ins {ds : List D} {i : Nat} {P : DK} : asF C ns i (.ins C ns ds) P = asO (ds[i]?) P := by
  unfold asF
  simp
theorem asF_out {x : D} {i : Nat} {P : DK} (h : asF C ns i x P) : ∃ ds y, x = .ins C ns ds ∧ ds[i]? = some y ∧ P y := by
  cases x with
  | ins C' ns' ds =>
    obtain ⟨⟨rfl, rfl⟩, h⟩ := h
    obtain ⟨y, e, h⟩ := asO_out h
    exact ⟨ds, y, rfl, e, h⟩
  | _ => exact h.elim
theorem asF_mono {x : D} {i : Nat} {P P' : DK} (k : ∀ z, P z → P' z) (h : asF C ns i x P) : asF C ns i x P' := by
  obtain ⟨ds, y, rfl, e, h⟩ := asF_out h
  rw [asF_ins, e]
  exact k _ h
def vFld (C : Addr) (ns : List Str) (i : Nat) (da : DE) (δ : Dl) (P : DK) : Prop := da δ fun x => asF C ns i x P
theorem es_fld (ns : List Str) (i : Nat) (hc : Cls K C) (hn : NoAttr K C f) (ha : ES K Γ ta da) (hi : ns[i]? = some f := by rfl) (hd : ns.Nodup := by decide +kernel) : ES K Γ (tFld K ta f) (vFld C ns i da) :=
  ⟨fun δ P P' k h => ha.mono _ _ _ (fun x z => asF_mono k z) h,
   fun o q => ha.run o (ha.mono _ _ _ (fun x z v H1 fp s1 r1 n1 => by
    obtain ⟨ds, y, rfl, e, z⟩ := asF_out z
    obtain ⟨a, dx, xs, fq, rfl, hH, rfl, hr⟩ := r1
    obtain ⟨w, f', e1, r3, k⟩ := hr.get e
    exact ⟨a, C, dx, _, w, rfl, hH, hc, hn, lookup_zip hd hi e1, z w H1 f' s1 r3 fun j hj b hb => n1 j hj b (List.mem_cons_of_mem _ (k b hb))⟩) q)⟩
def isI (C : Addr) (ns : List Str) (x : D) : Prop := match x with | .ins C' ns' _ => C' = C ∧ ns' = ns | _ => False
theorem isI_ins {ds : List D} : isI C ns (.ins C ns ds) = True := by
  unfold isI
  simp
theorem isI_out {x : D} (h : isI C ns x) : ∃ ds, x = .ins C ns ds := by
  cases x with
  | ins C' ns' ds => obtain ⟨rfl, rfl⟩ := h; exact ⟨ds, rfl⟩
  | _ => exact h.elim
def vMeth (C : Addr) (ns : List Str) (S : DSp) (da : DE) (dr : DA) (δ : Dl) (P : DK) : Prop := da δ fun x => isI C ns x ∧ dr δ fun xs => S (x :: xs) P
theorem em_meth {m : Str} {S : DSp} {E : XK} {w : TA} {dr : DA} (ns : List Str) (hS : DMono S) (ha : ER K Γ ta da) (hr : AR K Γ w dr) (hm : m ∉ ns := by decide +kernel) : EM K Γ [] (tMeth C m (spP K S) [] E ta w) (vMeth C ns S da dr) :=
  ⟨fun δ P P' k h => ha.mono _ _ _ (fun x z => ⟨z.1, hr.mono _ _ _ (fun y z => hS _ _ _ k z) z.2⟩) h,
   fun {B0 fps δ σ H Q} o q => ha.run o (ha.mono _ _ _ (fun x z v H1 s1 r1 => by
    obtain ⟨z1, z2⟩ := z
    obtain ⟨ds, rfl⟩ := isI_out z1
    obtain ⟨fp, a, dx, xs, fq, rfl, hH, e, hq⟩ := id r1
    refine ⟨a, dx, _, rfl, hH, lookup_zip_none hm, hr.run (o.same s1) (hr.mono _ _ _ (fun ys z vs H2 s2 r2 => ?_) z2)⟩
    obtain ⟨f1, r1'⟩ := r1.same s2
    obtain ⟨f2, r2'⟩ := r2
    exact ⟨.ins C ns ds :: ys, ⟨f1 ++ f2, _, _, f1, f2, by rw [List.append_nil], rfl, r1', r2'⟩, hS _ _ _ (fun u z u' H' fp s r n => z u' H' fp ((s1.trans s2).trans s) r (n.any.later (s1.trans s2))) z⟩) q)⟩
def vOrE (d e : DE) (δ : Dl) (P : DK) : Prop := d δ P ∨ e δ P
theorem em_orE (h1 : EM K Γ M t d) (h2 : EM K Γ M u e) : EM K Γ M (tOrE t u) (vOrE d e) :=
  ⟨fun δ P P' k h => h.imp (h1.mono _ _ _ k) (h2.mono _ _ _ k), fun o q => q.elim (fun q => .inl (h1.run o q)) fun q => .inr (h2.run o q)⟩
def vIsC (L : List Addr) (da : DE) (δ : Dl) (P : DK) : Prop := da δ fun x => (∃ C ns ds, x = .ins C ns ds ∧ C ∈ L) ∧ P (.bl true)
theorem em_isC {P : Addr} (L : List Addr) (hk : ∀ C ∈ L, ICls K C ∧ PySem.W.kitOne K (.ref C) (.ref P) = some true) (ha : ER K Γ ta da) : EM K Γ [] (tCB (rIsC K P) (tCons ta (tCons (tC (.ref P)) tNil))) (vIsC L da) :=
  ⟨fun δ P P' k h => ha.mono _ _ _ (fun x z => ⟨z.1, k _ z.2⟩) h,
   fun {B0 fps δ σ H Q} o h => ha.run o (ha.mono _ _ _ (fun x z v H1 s1 r1 => by
    obtain ⟨⟨C, ns, ds, rfl, hC⟩, z⟩ := z
    obtain ⟨fp, a, dx, xs, fq, rfl, hH, _, _⟩ := r1
    obtain ⟨k1, k2⟩ := hk C hC
    exact ⟨.ref a, _, _, rfl, .ins hH k1.cl k1.ha k1.hn k1.ht k1.hm, k2, z _ H1 [] s1 ⟨rfl, rfl⟩ Nw.nil⟩) h)⟩
def vRevM (i : Nat) (E : DEnds) (δ : Dl) : Prop := slotL δ i fun ds => ds.all D.scal = true ∧ E.nx (δ.set i (some (.lst ds.reverse)))
def spN (K : PySem.W.Frag) (C : Addr) (S : DSp) : Sp := fun vs H Q _ => ∃ (x dx : Addr) (ws : List V) (ds : List D) (B0 : Hp), vs = .ref x :: ws ∧ B0 x = none ∧ H = upd B0 x (.ins C dx []) ∧ Rps K B0 ds ws ∧
  S ds fun d => ∀ ns xs dd fq H', d = .ins C ns dd → Same B0 H' → H' x = some (.ins C dx (ns.zip xs)) → Rfs K H' dd xs fq → fq.Nodup → (∀ a ∈ fq, B0 a = none ∧ a ≠ x ∧ Mu H' a) → Q .non H'
theorem spN_len {S : DSp} {n : Nat} (h : ∀ ds P, S ds P → ds.length = n) {vs : List V} {H : Hp} {Q : VK} {E : XK} (k : spN K C S vs H Q E) : vs.length = n + 1 := by
  obtain ⟨x, dx, ws, ds, B0, rfl, _, _, r, hS⟩ := k
  obtain ⟨fp, r⟩ := r
  rw [List.length_cons, r.length, h _ _ hS]
theorem em_make {S : DSp} {E : XK} {w : TA} {dr : DA} (hS : DMono S) (hi : ∀ ds P, S ds P → S ds fun d => (∃ ns dd, d = .ins C ns dd) ∧ P d) (hr : AR K Γ w dr) : EM K Γ [] (tMake C (spN K C S) [] E w) (vCall S dr) :=
  ⟨fun δ P P' k h => hr.mono _ _ _ (fun y z => hS _ _ _ k z) h,
   fun {B0 fps δ σ H Q} o q => hr.run o (hr.mono _ _ _ (fun ys z vs H1 s1 r1 => by
    intro x dx hx hdx hne
    have sx : Same H1 (upd H1 dx (.own x)) := Same.new' hdx
    refine ⟨x, dx, vs, ys, upd H1 dx (.own x), by rw [List.append_nil], by rw [upd_ne (Ne.symm hne)]; exact hx, rfl, r1.same sx, hS _ _ _ ?_ (hi _ _ z)⟩
    rintro d ⟨⟨ns, dd, rfl⟩, z⟩ ns' xs dd' fq H' e sH hH hq hnd hfq
    cases e
    refine ⟨rfl, z (.ref x) H' (x :: fq) (s1.trans (sx.trans sH)) ⟨x, dx, xs, fq, rfl, hH, rfl, hq⟩ ⟨List.nodup_cons.mpr ⟨fun h => (hfq x h).2.1 rfl, hnd⟩, fun a ha => ?_, fun a ha => ?_⟩⟩
    · rcases List.mem_cons.mp ha with e | h
      · rw [e]; exact .inr (.inr (.inr ⟨_, _, _, hH⟩))
      · exact (hfq a h).2.2
    · rcases List.mem_cons.mp ha with e | h
      · rw [e]; exact .inl (s1.free hx)
      · exact .inl (s1.free (sx.free (hfq a h).1))) q)⟩
structure INI (K : PySem.W.Frag) (C : Addr) (t : TS) (ns : List Str) (d : DA) : Prop where
  mono : ∀ δ (P P' : List D → Prop), (∀ x, P x → P' x) → d δ P → d δ P'
  run : ∀ {B0 fps δ σ H x dx ns0 xs0 ds0 fq0 Dn}, Ok K B0 [] fps δ σ H → σ[0]? = some (some (.ref x)) → H x = some (.ins C dx (ns0.zip xs0)) → B0 x = none → ns0.length = xs0.length → Rfs K H ds0 xs0 fq0 → fq0.Nodup →
    (∀ a ∈ fq0, B0 a = none ∧ a ≠ x ∧ Mu H a) → (∀ i, x ∉ fps i) → (∀ n ∈ ns, n ∉ ns0) → (ns0 ++ ns).Nodup → (ns0 ++ ns).length ≤ 100 →
    d δ (fun ds => ∀ H' xs fq, Same B0 H' → H' x = some (.ins C dx ((ns0 ++ ns).zip xs)) → Rfs K H' (ds0 ++ ds) xs fq → fq.Nodup → (∀ a ∈ fq, B0 a = none ∧ a ≠ x ∧ Mu H' a) → Dn.nx σ H') → t Dn σ H
theorem Rfs.snoc {H : Hp} : ∀ {ds : List D} {xs : List V} {fq : List Addr} {d : D} {v : V} {fp : List Addr}, Rfs K H ds xs fq → Rf K H d v fp → Rfs K H (ds ++ [d]) (xs ++ [v]) (fq ++ fp)
  | [], xs, fq, d, v, fp, h, r => by
    obtain ⟨rfl, rfl⟩ := h
    exact ⟨v, [], fp, [], rfl, by simp, r, rfl, rfl⟩
  | d0 :: ds, xs, fq, d, v, fp, h, r => by
    obtain ⟨x, rr, f1, f2, rfl, rfl, h1, h2⟩ := h
    exact ⟨x, rr ++ [v], f1, f2 ++ fp, rfl, by simp, h1, h2.snoc r⟩
theorem ini_step {f : Str} (hc : Cls K C) (hn : NoAttr K C f) (he : EM K [] [] ta da) {B0 : Hp} {fps : Nat → List Addr} {δ : Dl} {σ : St} {H : Hp} {x dx : Addr} {ns0 : List Str} {xs0 : List V} {ds0 : List D} {fq0 : List Addr} {Dn : Ends}
    (o : Ok K B0 [] fps δ σ H) (h0 : σ[0]? = some (some (.ref x))) (hx : H x = some (.ins C dx (ns0.zip xs0))) (hb : B0 x = none) (hl : ns0.length = xs0.length) (hr : Rfs K H ds0 xs0 fq0) (hnd : fq0.Nodup)
    (hq : ∀ a ∈ fq0, B0 a = none ∧ a ≠ x ∧ Mu H a) (hfp : ∀ i, x ∉ fps i) (hf : f ∉ ns0) (h100 : ns0.length < 100)
    (q : da δ fun y => ∀ H' v fq, Ok K B0 [] fps δ σ H' → H' x = some (.ins C dx ((ns0 ++ [f]).zip (xs0 ++ [v]))) → Rfs K H' (ds0 ++ [y]) (xs0 ++ [v]) fq → fq.Nodup → (∀ a ∈ fq, B0 a = none ∧ a ≠ x ∧ Mu H' a) → Dn.nx σ H') : sFld K (tVar 0) ta f Dn σ H := by
  refine he.run o (he.mono _ _ _ (fun y z v H1 fp s1 r1 n1 => ?_) q)
  have hx1 := s1 _ _ hx
  refine ⟨.ref x, h0, x, C, dx, _, rfl, hx1, hc, hn, by rw [List.length_zip]; omega, ?_⟩
  rw [putF_zip hf hl]
  have hxp : x ∉ fp := fun h => by have := n1.fresh x h; rw [hx] at this; cases this
  have keep : ∀ a, a ≠ x → upd H1 x (.ins C dx ((ns0 ++ [f]).zip (xs0 ++ [v]))) a = H1 a := fun a ha => upd_ne ha
  have imm : ∀ a w, H1 a = some w → Im w → upd H1 x (.ins C dx ((ns0 ++ [f]).zip (xs0 ++ [v]))) a = some w := fun a w e hi => by
    have : a ≠ x := fun z => by
      subst z
      rw [hx1] at e
      cases e
      rcases hi with ⟨_, z⟩ | ⟨_, _, z⟩ <;> cases z
    rw [keep a this]; exact e
  have muk : ∀ a, a ≠ x → Mu H1 a → Mu (upd H1 x (.ins C dx ((ns0 ++ [f]).zip (xs0 ++ [v])))) a := fun a ha m => m.upd (.inr (.inr (.inr ⟨_, _, _, rfl⟩)))
  have o1 := o.same s1
  refine z _ v (fq0 ++ fp) ⟨o1.len, fun a w e => ?_, fun i dd e => ?_, o1.non, fun _ h => (nomatch h), fun _ h => (nomatch h)⟩ upd_same (Rfs.snoc ((hr.same s1).mono (fun a ha w e => by rw [keep a (hq a ha).2.1]; exact e) imm) (r1.mono (fun a ha w e => by rw [keep a (fun z => hxp (z ▸ ha))]; exact e) imm)) ?_ fun a ha => ?_
  · rw [keep a (fun z => by subst z; rw [hb] at e; cases e)]
    exact o1.b0 a w e
  · obtain ⟨v', h1, h2⟩ := o1.val i dd e
    exact ⟨v', h1, h2.mono (fun a ha w e => by rw [keep a (fun z => hfp i (z ▸ ha))]; exact e) imm⟩
  · refine List.nodup_append.mpr ⟨hnd, n1.nd, fun a h1 b h2 e => ?_⟩
    subst e
    exact (hq a h1).2.2.some (n1.fresh a h2)
  · rcases List.mem_append.mp ha with h | h
    · exact ⟨(hq a h).1, (hq a h).2.1, muk a (hq a h).2.1 ((hq a h).2.2.same s1)⟩
    · exact ⟨o.b0.free (n1.fresh a h), fun z => hxp (z ▸ h), muk a (fun z => hxp (z ▸ h)) (n1.mu a h)⟩
theorem ini_one {f : Str} (hc : Cls K C) (hn : NoAttr K C f) (he : EM K [] [] ta da) : INI K C (sFld K (tVar 0) ta f) [f] (vCons da vNil) :=
  ⟨fun δ P P' k h => he.mono _ _ _ (fun x z => k _ z) h, fun {B0 fps δ σ H x dx ns0 xs0 ds0 fq0 Dn} o h0 hx hb hl hr hnd hq hfp hf hns h100 q =>
    ini_step hc hn he o h0 hx hb hl hr hnd hq hfp (hf f List.mem_cons_self) (by simp at h100; omega) (he.mono _ _ _ (fun y z H' v fq o' g1 g2 g3 g4 => z H' _ fq o'.b0 g1 g2 g3 g4) q)⟩
theorem ini_cons {f : Str} {t : TS} {ns : List Str} {dr : DA} (hc : Cls K C) (hn : NoAttr K C f) (he : EM K [] [] ta da) (hr : INI K C t ns dr) : INI K C (tSeq (sFld K (tVar 0) ta f) t) (f :: ns) (vCons da dr) :=
  ⟨fun δ P P' k h => he.mono _ _ _ (fun x z => hr.mono _ _ _ (fun y z => k _ z) z) h, fun {B0 fps δ σ H x dx ns0 xs0 ds0 fq0 Dn} o h0 hx hb hl hR hnd hq hfp hf hns h100 q =>
    ini_step hc hn he o h0 hx hb hl hR hnd hq hfp (hf f List.mem_cons_self) (by simp at h100; omega) (he.mono _ _ _ (fun y z H' v fq o' g1 g2 g3 g4 => by
      have e1 : ns0 ++ f :: ns = (ns0 ++ [f]) ++ ns := by simp
      refine hr.run o' h0 g1 hb (by simp [hl]) g2 g3 g4 hfp (fun n hn' z' => ?_) (by rw [← e1]; exact hns) (by rw [← e1]; exact h100) (hr.mono _ _ _ (fun ds z H2 xs fq s2 k1 k2 k3 k4 => ?_) z)
      · rw [e1] at hns
        exact (List.nodup_append.mp hns).2.2 n z' n hn' rfl
      · refine z H2 xs fq s2 (by rw [e1]; exact k1) ?_ k3 k4
        rw [List.append_assoc] at k2
        exact k2) q)⟩
theorem fn_ini {N : List Str} {S : DSp} {t : TS} {ns : List Str} {d : DA} (hs : INI K C t ns d) (hd : ∀ ds P, S ds P → d (none :: (startD (N.drop 1) ds)) fun dd => P (.ins C ns dd)) (hN : 1 ≤ N.length) (hns : ns.Nodup := by decide +kernel) (h100 : ns.length ≤ 100 := by decide) :
    ∀ {vs H Q E}, spN K C S vs H Q E → t { nx := fun _ H' => Q .non H', rt := Q } (L2.start N vs) H := by
  rintro vs H Q E ⟨x, dx, ws, ds, B0, rfl, hb, rfl, r, h⟩
  obtain ⟨fps, o⟩ := start_ok (N := N.drop 1) r
  have sx : Same B0 (upd B0 x (.ins C dx [])) := Same.new' hb
  have o2 := o.same sx
  have est : L2.start N (.ref x :: ws) = some (.ref x) :: L2.start (N.drop 1) ws := by
    unfold L2.start
    rw [List.map_cons, List.cons_append, List.length_cons, List.length_drop, show N.length - (ws.length + 1) = N.length - 1 - ws.length by omega]
  rw [est]
  refine hs.run (B0 := B0) (fps := fun i => match i with | 0 => [] | j + 1 => fps j) (δ := none :: startD (N.drop 1) ds) (x := x) (dx := dx) (ns0 := []) (xs0 := []) (ds0 := []) (fq0 := []) ⟨by rw [List.length_cons, List.length_cons, o2.len], sx, fun i dd e => ?_, fun i e => ?_, fun _ h => (nomatch h), fun _ h => (nomatch h)⟩ rfl upd_same hb rfl ⟨rfl, rfl⟩ List.nodup_nil (fun _ h => (nomatch h)) (fun i => ?_) (fun _ _ h => (nomatch h)) hns h100 (hs.mono _ _ _ (fun dd z H' xs fq s1 k1 k2 k3 k4 => ?_) (hd ds _ h))
  · cases i with
    | zero => simp at e
    | succ j => exact o2.val j dd (by simpa using e)
  · cases i with
    | zero => rfl
    | succ j => exact o2.non j fun dd z => e dd (by simpa using z)
  · cases i with
    | zero => exact fun h => (nomatch h)
    | succ j => exact fun h => o.dom h hb
  · exact z ns xs dd fq H' rfl s1 k1 k2 k3 k4
end
end L3
set_option Elab.async false
set_option linter.all false
set_option maxRecDepth 100000
set_option maxHeartbeats 4000000
namespace L3
open PySem L2
abbrev DSX := List D → DK → (Addr → Prop) → Prop
def DMonoX (S : DSX) : Prop := ∀ xs (P P' : DK) (R R' : Addr → Prop), (∀ z, P z → P' z) → (∀ C, R C → R' C) → S xs P R → S xs P' R'
def spX (K : PySem.W.Frag) (S : DSX) : Sp := fun vs H Q E => ∃ ds, Rps K H ds vs ∧ S ds (fun x => ∀ v H' fp, Same H H' → Rf K H' x v fp → Nw H H' nf [] fp → Q v H') (fun C => ∀ H', Same H H' → E (.ref C) none H')
def SX (K : PySem.W.Frag) (ρ : Bool) (Γr Γl : List Nat) (R : Addr → Prop) (t : XK → TS) (Γ Γn : List Nat) (d : DS) : Prop :=
  ∀ ⦃B0 : Hp⦄ ⦃Dn : Ends⦄ ⦃E : DEnds⦄ ⦃Ex : XK⦄ ⦃fps : Nat → List Addr⦄ ⦃δ : Dl⦄ ⦃σ : St⦄ ⦃H : Hp⦄, (∀ C H', Same B0 H' → R C → Ex (.ref C) none H') → EOk K ρ Γr Γl Γn B0 Dn E → Ok K B0 Γ fps δ σ H → d E δ → t Ex Dn σ H
section
variable {K : PySem.W.Frag} {ρ : Bool} {Γr Γl Γ Γ1 Γ2 Γn M : List Nat} {R : Addr → Prop} {t u : XK → TS} {t0 : TS} {d e : DS} {C : Addr} {S : DSX} {ta : TA} {da : DA}
theorem ST.sx (h : ST K ρ Γr Γl t0 Γ Γn d) : SX K ρ Γr Γl R (fun _ => t0) Γ Γn d := fun _ _ _ _ _ _ _ _ _ k o q => h k o q
theorem sx_seq (h1 : SX K ρ Γr Γl R t Γ Γ1 d) (h2 : SX K ρ Γr Γl R u Γ1 Γ2 e) : SX K ρ Γr Γl R (fun Ex => tSeq (t Ex) (u Ex)) Γ Γ2 (vSeq d e) :=
  fun {B0 Dn E Ex fps δ σ H} x k o h => h1 (Dn := { Dn with nx := u Ex Dn }) (E := { E with nx := e E }) x ⟨fun o h => h2 x k o h, k.bk, k.ct, k.rt⟩ o h
theorem sx_if {c : TT} {dc : DT} (hc : TR K Γ c dc) (h1 : SX K ρ Γr Γl R t Γ Γn d) (h2 : SX K ρ Γr Γl R u Γ Γn e) : SX K ρ Γr Γl R (fun Ex => tIfS c (t Ex) (u Ex)) Γ Γn (vIfS dc d e) :=
  fun _ _ _ _ _ _ _ _ x k o h => hc.run o (hc.mono _ _ _ (fun b z H' s => ite_imp (fun z => h1 x k (o.same s) z) (fun z => h2 x k (o.same s) z) z) h)
def vRaise (C : Addr) (R : Addr → Prop) (da : DA) (_ : DEnds) (δ : Dl) : Prop := da δ fun xs => xs.length ≤ 1000 ∧ R C
theorem sx_raise (ha : AR K Γ ta da) : SX K ρ Γr Γl R (fun Ex => tRaise C Ex ta) Γ Γn (vRaise C R da) :=
  fun {B0 Dn E Ex fps δ σ H} x k o h => ha.run o (ha.mono _ _ _ (fun xs z vs H' s r => by
    obtain ⟨fp, r⟩ := r
    exact ⟨by rw [r.length]; exact z.1, x C H' (o.b0.trans s) z.2⟩) h)
def vDropX (S : DSX) (R : Addr → Prop) (da : DA) (E : DEnds) (δ : Dl) : Prop := da δ fun xs => S xs (fun _ => E.nx δ) R
def vSetX (S : DSX) (R : Addr → Prop) (i : Nat) (da : DA) (E : DEnds) (δ : Dl) : Prop := da δ fun xs => S xs (fun x => E.nx (δ.set i (some x))) R
theorem em_callX {Ex : XK} {B0 : Hp} {fps : Nat → List Addr} {δ : Dl} {σ : St} {H : Hp} {Q : VK} (hS : DMonoX S) (ha : AR K Γ ta da) (x : ∀ C H', Same B0 H' → R C → Ex (.ref C) none H') (o : Ok K B0 Γ fps δ σ H)
    (h : da δ fun xs => S xs (fun z => ∀ v H' fp, Same H H' → Rf K H' z v fp → Nw H H' fps [] fp → Q v H') R) : tCall (spX K S) [] Ex ta σ H Q :=
  ha.run o (ha.mono _ _ _ (fun xs z vs H1 s1 r1 => ⟨xs, by rw [List.append_nil]; exact r1, hS _ _ _ _ _ (fun u z u' H' fp s r n => z u' H' fp (s1.trans s) r (n.any.later s1)) (fun C z H2 s2 => x C H2 (o.b0.trans (s1.trans s2)) z) z⟩) h)
theorem sx_set (i : Nat) (hS : DMonoX S) (ha : AR K Γ ta da) : SX K ρ Γr Γl R (fun Ex => tAsg (tCall (spX K S) [] Ex ta) (gName i)) Γ (i :: minus (minus Γ []) [i]) (vSetX S R i da) :=
  fun {B0 Dn E Ex fps δ σ H} x k o h => em_callX hS ha x o (ha.mono _ _ _ (fun xs z => hS _ _ _ _ _ (fun y z v H' fp s r n => k.nx (o.setMv (M := []) i (fun _ h => (nomatch h)) s r n) z) (fun _ z => z) z) h)
def vRetX (S : DSX) (R : Addr → Prop) (da : DA) (E : DEnds) (δ : Dl) : Prop := da δ fun xs => S xs (fun x => E.rt x δ) R
theorem fn_valX {N : List Str} {dR : (Addr → Prop) → DS} (hs : ∀ R, SX K true [] [] R t [] Γn (dR R)) (hd : ∀ ds P R, S ds P R → dR R (endsD P) (startD N ds)) :
    ∀ {vs H Q E}, spX K S vs H Q E → t E { nx := fun _ H' => Q .non H', rt := Q } (L2.start N vs) H := by
  rintro vs H Q E ⟨ds, r, h⟩
  obtain ⟨fps, o⟩ := start_ok (N := N) r
  refine hs _ (E := endsD _) (Ex := E) (fun C H' s z => z H' s) ⟨fun {fps δ σ H'} o z => ?_, fun o (z : False) => z.elim, fun o (z : False) => z.elim, fun o r i z => ?_⟩ o (hd ds _ _ h)
  · exact z _ H' [] o.b0 ⟨rfl, rfl⟩ Nw.nil
  · exact z _ _ _ o.b0 r ⟨(i rfl).nd, (i rfl).mu, fun a ha => .inl ((i rfl).nw a ha)⟩
def noX (S : DSX) : DSp := fun ds P => S ds P fun _ => False
def vTry (i : Nat) (C : Addr) (S : DSX) (da : DA) (dh : DS) (E : DEnds) (δ : Dl) : Prop :=
  da δ fun xs => S xs (fun _ => E.nx δ) fun C' => C' = C ∧ dh { nx := fun δ' => E.nx (δ'.set i none), rt := fun _ _ => False, bk := fun _ => False, ct := fun _ => False } (δ.set i none)
end
end L3
set_option Elab.async false
set_option linter.all false
set_option maxRecDepth 100000
set_option maxHeartbeats 4000000
namespace L3
open PySem L2
section
variable {K : PySem.W.Frag} {ρ : Bool} {Γr Γl Γ : List Nat} {i : Nat} {t u : Addr → TS} {d e : DS} {C : Addr} {S : DSX} {ta : TA} {da : DA}
def vKnow (j : Nat) (n : Int) (E : DEnds) (δ : Dl) : Prop := E.nx (δ.set j (some (.int n)))
def vWhen (b : Bool) (d e : DS) (E : DEnds) (δ : Dl) : Prop := if b = true then d E δ else e E δ
def vTryI (i : Nat) (C : Addr) (S : DSX) (da : DA) (dh : DS) (E : DEnds) (δ : Dl) : Prop := i < δ.length ∧ vTry i C S da dh E δ
end
theorem spX_len {K : PySem.W.Frag} {S : DSX} {n : Nat} (hS : ∀ ds P R, S ds P R → ds.length = n) {vs : List V} {H : Hp} {Q : VK} {E : XK} (h : spX K S vs H Q E) : vs.length = n := by
  obtain ⟨ds, ⟨fp, r⟩, h⟩ := h
  rw [r.length]; exact hS _ _ _ h
end L3
set_option Elab.async false
set_option linter.all false
set_option maxRecDepth 100000
set_option maxHeartbeats 4000000
namespace L2
open PySem
theorem PA.nox {X : Cx} {es : List Expr} {t : TA} (h : PA X.nox es t) : PA X es t := fun pos pins s σ H Q I hw =>
  wpAny_mono (h pos pins s σ H Q (I.wish _) hw) (fun _ _ ⟨v, H', I', r, q⟩ => ⟨v, H', I'.unwish, r, q⟩) fun _ _ z => False.elim z
theorem PS.nox {X : Cx} {st : Stmt} {t : TS} (h : PS X.nox st t) : PS X st t := fun pins s σ H D I hw =>
  wpAny_mono (h pins s σ H D (I.wish _) hw) (fun _ _ q => q.unwish) fun _ _ z => False.elim z
end L2
set_option Elab.async false
set_option linter.all false
set_option maxRecDepth 100000
namespace L3
open PySem L2
section
variable {K : PySem.W.Frag} {Γ : List Nat} {t : TA} {d : DA}
def vDef (d : DA) (z : Int) : DA := fun δ P => d δ fun xs => P (xs ++ [.int z])
end
end L3
set_option Elab.async false
set_option linter.all false
set_option maxRecDepth 100000
set_option maxHeartbeats 4000000
namespace L3
open PySem L2
section
variable {K : PySem.W.Frag} {ρ : Bool} {Γr Γl Γ Γ1 Γ2 Γn M : List Nat} {R : Addr → Prop} {t u : TS} {te ta tb tx t1 t2 tz : TE} {de da db dx d1 d2 dz : DE} {d e : DS}
variable {B0 : Hp} {fps : Nat → List Addr} {δ : Dl} {σ : St} {H H' : Hp}
def flatD : D → Bool
  | .tup ds => ds.all D.scal
  | d => D.scal d
theorem Rf.flat0 {H : Hp} : ∀ {d : D} {v : V} {fp : List Addr}, Rf K H d v fp → flatD d = true → fp = []
  | .tup ds, v, fp, h, f => by
    obtain ⟨a, xs, e1, e2, h⟩ := h
    exact (h.scals f).2
  | .non, _, _, h, _ => h.2
  | .bl _, _, _, h, _ => h.2
  | .int _, _, _, h, _ => h.2
  | .str _, _, _, h, _ => h.2
  | .lst _, _, _, _, f => by simp [flatD, D.scal] at f
  | .dic _, _, _, _, f => by simp [flatD, D.scal] at f
  | .dit _, _, _, _, f => by simp [flatD, D.scal] at f
  | .scr _, _, _, h, _ => by obtain ⟨a, e1, e2, e3⟩ := h; exact e3
  | .pin _ _, _, _, _, f => by simp [flatD, D.scal] at f
  | .ins _ _ _, _, _, _, f => by simp [flatD, D.scal] at f
theorem Rfs.flat0 {H : Hp} : ∀ {ds : List D} {vs : List V} {fp : List Addr}, Rfs K H ds vs fp → ds.all flatD = true → fp = []
  | [], _, _, h, _ => h.2
  | d :: ds, vs, fp, h, f => by
    obtain ⟨x, r, f1, f2, e1, e2, h1, h2⟩ := h
    rw [List.all_cons, Bool.and_eq_true] at f
    rw [e2, h1.flat0 f.1, h2.flat0 f.2]; rfl
def vCatF (x : D) (y : D) (P : DK) : Prop := match x, y with | .lst a, .lst b => (a.all flatD = true ∧ b.all flatD = true ∧ a.length + b.length ≤ 1000) ∧ P (.lst (a ++ b)) | _, _ => False
theorem o_catF : OpV K rCat vCatF := ⟨fun x y P P' k h => by unfold vCatF at h ⊢; revert h; split <;> first | exact fun h => ⟨h.1, k _ h.2⟩ | exact id, fun {H x y v w Q} r1 r2 h => by
  unfold vCatF at h
  split at h
  · rename_i a b
    obtain ⟨⟨s1, s2, hl⟩, h⟩ := h
    obtain ⟨f1, l1, xs, q1, rfl, e1, _, hr1⟩ := r1
    obtain ⟨f2, l2, ys, q2, rfl, e2, _, hr2⟩ := r2
    obtain rfl := hr1.flat0 s1
    obtain rfl := hr2.flat0 s2
    refine ⟨l1, l2, _, _, rfl, rfl, e1, e2, by rw [hr1.length, hr2.length]; exact le1000 hl, fun p hp => ?_⟩
    exact h _ _ [p] (Same.new' hp) ⟨p, _, [], rfl, upd_same, rfl, (hr1.append hr2).same (Same.new' hp)⟩ ⟨by simp, fun b hb => by cases List.mem_singleton.mp hb; exact .inl ⟨_, upd_same⟩, fun b hb => by cases List.mem_singleton.mp hb; exact .inl hp⟩
  · exact h.elim⟩
theorem SX.post {t : XK → TS} (h : SX K ρ Γr Γl R t Γ Γ1 d) (s : ∀ i ∈ Γn, i ∈ Γ1 := by decide) : SX K ρ Γr Γl R t Γ Γn d := fun _ _ _ _ _ _ _ _ x k o q => h x ⟨fun o h => k.nx (o.sub s) h, k.bk, k.ct, k.rt⟩ o q
theorem sx_for {wi : TI} {di : DI} {g : TG} {dg : D → Dl → (Dl → Prop) → Prop} {tb : XK → TS} {db : DS} (hi : IT K Γ wi di) (hg : GT K Γ g dg) (hb : SX K ρ Γr Γ R tb Γ Γ db) : SX K ρ Γr Γl R (fun Ex => tFor wi g (tb Ex)) Γ Γ (vFor di dg db) := by
  intro B0 Dn E Ex fps δ σ H x k o h
  refine hi.run o (hi.mono _ _ _ (fun ds z J H1 fq s1 n1 hit => ?_) h)
  obtain ⟨B1, sB, o1, ag⟩ := (o.same s1).rebase
  have hJ : ItOk K J B1 ds := hit B1 o1.b0 (fun a ha => ag a fun j hj => n1 j hj a ha) fun a u e im => by
    rw [ag a fun j hj ha => ((o1.own j hj).2 a ha).2.notup u e im]; exact e
  refine ⟨fun i m σ H => m = ds.length - i ∧ i ≤ ds.length ∧ ∃ fps δ, Ok K B1 Γ fps δ σ H ∧ vLoop dg db E (ds.drop i) δ, ⟨ds.length, by omega, Nat.zero_le _, fps, δ, o1, by rw [List.drop_zero]; exact z⟩, ?_⟩
  rintro i m σ2 H2 ⟨rfl, hi2, fps2, δ2, o2, z2⟩
  by_cases hlt : i < ds.length
  · refine .inr ⟨hJ.go o2.b0 hlt, _, fun σ' H' q => q, fun x3 H3 hy => ?_⟩
    obtain ⟨s3, fp, r3, n3⟩ := hJ.yld o2.b0 hy (List.getElem?_eq_getElem hlt)
    rw [List.drop_eq_getElem_cons hlt] at z2
    refine hg.run (o2.same s3) r3 (fun j hj a ha hz => n3 a ha ((o2.own j hj).2 a hz).1) (hg.mono _ _ _ _ (fun δ' z' fps' σ' o' e' => ?_) z2)
    exact hb (E := { nx := vLoop dg db E (ds.drop (i + 1)), ct := vLoop dg db E (ds.drop (i + 1)), bk := E.nx, rt := E.rt }) (fun C H' s z => x C H' (sB.trans s) z) ⟨fun o4 z4 => ⟨ds.length - (i + 1), by omega, rfl, hlt, _, _, o4, z4⟩, fun o4 z4 => k.nx (o4.base sB) z4, fun o4 z4 => ⟨ds.length - (i + 1), by omega, rfl, hlt, _, _, o4, z4⟩, fun o4 r4 i4 z4 => k.rt (o4.base sB) r4 (fun y => (i4 y).base sB) z4⟩ o' z'
  · have e : i = ds.length := by omega
    subst e
    rw [List.drop_length] at z2
    exact .inl ⟨hJ.stop o2.b0 (Nat.le_refl _), k.nx (o2.base sB) z2⟩
def spXR (K : PySem.W.Frag) (S : DSX) : Sp := fun vs H Q E => ∃ ds, Rps K H ds vs ∧ S ds (fun x => ∀ v H', Same H H' → Rp K H' x v → Q v H') (fun C => ∀ H', Same H H' → E (.ref C) none H')
theorem spXR_len {S : DSX} {n : Nat} (hS : ∀ ds P R, S ds P R → ds.length = n) {vs : List V} {H : Hp} {Q : VK} {E : XK} (h : spXR K S vs H Q E) : vs.length = n := by
  obtain ⟨ds, ⟨fp, r⟩, h⟩ := h
  rw [r.length]; exact hS _ _ _ h
theorem fn_valXR {S : DSX} {t : XK → TS} {N : List Str} {dR : (Addr → Prop) → DS} (hs : ∀ R, SX K false [] [] R t [] Γn (dR R)) (hd : ∀ ds P R, S ds P R → dR R (endsD P) (startD N ds)) :
    ∀ {vs H Q E}, spXR K S vs H Q E → t E { nx := fun _ H' => Q .non H', rt := Q } (L2.start N vs) H := by
  rintro vs H Q E ⟨ds, r, h⟩
  obtain ⟨fps, o⟩ := start_ok (N := N) r
  refine hs _ (E := endsD _) (Ex := E) (fun C H' s z => z H' s) ⟨fun {fps δ σ H'} o z => ?_, fun o (z : False) => z.elim, fun o (z : False) => z.elim, fun o r i z => ?_⟩ o (hd ds _ _ h)
  · exact z _ H' o.b0 ⟨[], rfl, rfl⟩
  · exact z _ _ o.b0 ⟨_, r⟩
def vTryEq (C : Addr) (S : DSX) (da : DA) (db : DE) (rv : D2) (dh : DS) (E : DEnds) (δ : Dl) : Prop :=
  da δ fun xs => S xs (fun x => db δ fun y => rv x y fun z => E.rt z δ) fun C' => C' = C ∧ dh { nx := fun _ => False, rt := E.rt, bk := fun _ => False, ct := fun _ => False } δ
theorem st_tryEq {C : Addr} {S : DSX} {ta : TA} {da : DA} {th : TS} {dh : DS} {r : R2} {rv : D2} (hS : DMonoX S) (ho : OpV K r rv) (ha : AR K [] ta da) (hb : ER K [] tb db) (hh : ST K ρ [] Γl th [] Γn dh) : ST K ρ [] Γl (tTryEq C (spXR K S) ta tb r th) [] Γn (vTryEq C S da db rv dh) :=
  fun {B0 Dn E fps δ σ H} k o h => ha.run o (ha.mono _ _ _ (fun xs z vs H1 s1 r1 => ⟨xs, r1, hS _ _ _ _ _
    (fun x z v H2 s2 rx => hb.run (o.same (s1.trans s2)) (hb.mono _ _ _ (fun y z w H3 s3 ry => ho.run (rx.same s3) ry (ho.mono _ _ _ _ (fun q z u H4 fp s4 rq n => k.rt ((o.same (s1.trans s2)).same (s3.trans s4)) rq (fun _ => ⟨n.nd, n.mu, fun a ha => (n.src a ha).elim (fun e => ((o.same (s1.trans s2)).same s3).b0.free e) (fun ⟨j, hj, _⟩ => (nomatch hj)), fun j hj => (nomatch hj)⟩) z) z)) z))
    (fun C' z H2 s2 => ⟨congrArg Value.ref z.1, hh (E := { nx := fun _ => False, rt := E.rt, bk := fun _ => False, ct := fun _ => False })
      ⟨fun _ (z : False) => z.elim, fun _ (z : False) => z.elim, fun _ (z : False) => z.elim, k.rt⟩ (o.same (s1.trans s2)) z.2⟩) z⟩) h)
def vAsgM2 (i j : Nat) (de : DE) (E : DEnds) (δ : Dl) : Prop := de δ fun x => ∃ a b, x = .lst [a, b] ∧ E.nx ((δ.set i (some a)).set j (some b))
theorem st_asgM2 (i j : Nat) {n : Nat} (he : EM K Γ [] te de) (hij : i ≠ j := by decide) (hn : n = 2 := by rfl) :
    ST K ρ Γr Γl (tAsg te (gLst K n (gCons (gName i) (gCons (gName j) gNil)))) Γ (j :: minus (minus (i :: minus (minus Γ []) [i]) []) [j]) (vAsgM2 i j de) := by
  intro B0 Dn E fps δ σ H k o h
  refine he.run o (he.mono _ _ _ (fun x z v H' fp s r n' => ?_) h)
  obtain ⟨a, b, rfl, z⟩ := z
  obtain ⟨p, xs, fq, rfl, hl, rfl, rs⟩ := r
  obtain ⟨v1, r1, f1, f2, rfl, rfl, h1, rs⟩ := rs
  obtain ⟨v2, r2, f3, f4, rfl, rfl, h2, h3⟩ := rs
  obtain ⟨rfl, rfl⟩ : r2 = [] ∧ f4 = [] := h3
  rw [List.append_nil] at n'
  have nd := (List.nodup_cons.mp n'.nd).2
  have nd2 := List.nodup_append.mp nd
  have fr : ∀ b ∈ f1 ++ f3, H b = none := fun b hb => by
    rcases n'.src b (List.mem_cons_of_mem _ hb) with q | ⟨j, hj, _⟩
    · exact q
    · exact (nomatch hj)
  have o1 := o.setMv i (M := []) (fun j hj => (nomatch hj)) s h1 ⟨nd2.1, fun b hb => n'.mu b (List.mem_cons_of_mem _ (List.mem_append_left _ hb)), fun b hb => .inl (fr b (List.mem_append_left _ hb))⟩
  have o2 := o1.setNew j h2 nd2.2.1 fun b hb => ⟨o.b0.free (fr b (List.mem_append_right _ hb)), n'.mu b (List.mem_cons_of_mem _ (List.mem_append_right _ hb)), fun l q => by
    by_cases hl : l = i
    · rw [if_pos hl] at q
      split at q
      · exact nd2.2.2 b q b hb rfl
      · exact (nomatch q)
    · rw [if_neg hl, if_neg (fun y => (nomatch y))] at q
      exact o.dom q (fr b (List.mem_append_right _ hb))⟩
  subst hn
  exact ⟨p, _, rfl, .inl (.inl hl), rfl, v1, [v2], rfl, v2, [], rfl, rfl, k.nx o2 z⟩
abbrev DSJ := List D → (D → D → Prop) → Prop
def DMonoJ (S : DSJ) : Prop := ∀ xs (P P' : D → D → Prop), (∀ r x, P r x → P' r x) → S xs P → S xs P'
def PostJ (K : PySem.W.Frag) (vs : List V) (B : Hp) (Q : VK) (x' y' : D) : Prop :=
  ∀ H' fp fq v u, Same B H' → vs[0]? = some v → vs[1]? = some u → Rf K H' x' v fp → Rf K H' y' u fq → fp.Nodup → fq.Nodup → (∀ b ∈ fp, B b = none ∧ Mu H' b ∧ b ∉ fq) → (∀ b ∈ fq, B b = none ∧ Mu H' b) → Q .non H'
def spJ (K : PySem.W.Frag) (S : DSJ) : Sp := fun vs H Q _ => ∃ B fv ds, Ok K B [0, 1] fv (ds.map some) (vs.map some) H ∧ (∃ a b, vs[0]? = some (.ref a) ∧ vs[1]? = some (.ref b)) ∧ S ds (PostJ K vs B Q)
theorem spJ_len {S : DSJ} {n : Nat} (hS : ∀ ds P, S ds P → ds.length = n) {vs : List V} {H : Hp} {Q : VK} {E : XK} (h : spJ K S vs H Q E) : vs.length = n := by
  obtain ⟨B, fv, ds, o, _, h⟩ := h
  have := o.len
  rw [List.length_map, List.length_map] at this
  rw [this]; exact hS _ _ h
abbrev endsJ (a b : Addr) (P : D → D → Prop) : DEnds := ⟨fun δ => slotP δ 0 fun a' x => a' = a ∧ slotP δ 1 fun b' y => b' = b ∧ P x y, fun _ _ => False, fun _ => False, fun _ => False⟩
theorem startJ_ok {N : List Str} {ds : List D} {vs : List V} {fv : Nat → List Addr} {a b : Addr} (o : Ok K B0 [0, 1] fv (ds.map some) (vs.map some) H) (ha : vs[0]? = some (.ref a)) (hb : vs[1]? = some (.ref b)) {x y : D} (hx : ds[0]? = some x) (hy : ds[1]? = some y) :
    Ok K B0 [0, 1] fv (startD N ((ds.set 0 (.pin a x)).set 1 (.pin b y))) (L2.start N vs) H := by
  have hl : vs.length = ds.length := by have := o.len; rwa [List.length_map, List.length_map] at this
  have o1 : Ok K B0 [0, 1] fv ((ds.map some).set 0 (some (.pin a x))) (vs.map some) H := o.redata (x := x) (by rw [List.getElem?_map, hx]; rfl) fun v hv r => ⟨by rw [List.getElem?_map, ha] at hv; cases hv; rfl, r⟩
  have o1 : Ok K B0 [0, 1] fv (((ds.map some).set 0 (some (.pin a x))).set 1 (some (.pin b y))) (vs.map some) H := o1.redata (x := y) (by rw [List.getElem?_set_ne (by decide), List.getElem?_map, hy]; rfl) fun v hv r => ⟨by rw [List.getElem?_map, hb] at hv; cases hv; rfl, r⟩
  have e : ((ds.map some).set 0 (some (.pin a x))).set 1 (some (.pin b y)) = ((ds.set 0 (.pin a x)).set 1 (.pin b y)).map some := by rw [List.map_set, List.map_set]
  rw [e] at o1
  have hl1 : ((ds.set 0 (.pin a x)).set 1 (.pin b y)).length = ds.length := by rw [List.length_set, List.length_set]
  generalize (ds.set 0 (.pin a x)).set 1 (.pin b y) = ds1 at *
  unfold startD L2.start
  refine ⟨by rw [List.length_append, List.length_append, List.length_map, List.length_map, List.length_replicate, List.length_replicate]; omega, o1.b0, fun i d q => ?_, fun i q => ?_, o1.own, o1.dj⟩
  · by_cases hi : i < ds1.length
    · rw [List.getElem?_append_left (by simpa using hi)] at q
      rw [List.getElem?_append_left (by rw [List.length_map]; omega)]
      exact o1.val i d q
    · rw [List.getElem?_append_right (by simpa using hi), List.getElem?_replicate] at q
      split at q <;> cases q
  · refine o1.non i fun d z => q d ?_
    have : i < ds1.length := by simpa using (List.getElem?_eq_some_iff.mp z).1
    rw [List.getElem?_append_left (by simpa using this)]
    exact z
theorem fn_valJ {N : List Str} {S : DSJ} (hs : ST K true [0, 1] [] t [0, 1] Γn d) (hd : ∀ ds P a b x y, S ds P → ds[0]? = some x → ds[1]? = some y → d (endsJ a b P) (startD N ((ds.set 0 (.pin a x)).set 1 (.pin b y)))) (hΓ : 0 ∈ Γn := by decide) (hΓ1 : 1 ∈ Γn := by decide) (hS : ∀ ds P, S ds P → 1 < ds.length) :
    ∀ {vs H Q E}, spJ K S vs H Q E → t { nx := fun _ H' => Q .non H', rt := Q } (L2.start N vs) H := by
  rintro vs H Q E ⟨B, fv, ds, o, ⟨a, b, ha, hb⟩, h⟩
  have hlt := hS _ _ h
  obtain ⟨x, hx⟩ : ∃ x, ds[0]? = some x := ⟨_, List.getElem?_eq_getElem (by omega)⟩
  obtain ⟨y, hy⟩ : ∃ x, ds[1]? = some x := ⟨_, List.getElem?_eq_getElem hlt⟩
  refine hs (E := endsJ a b (PostJ K vs B Q)) ⟨fun {fps δ σ H'} o' z => ?_, fun _ (z : False) => z.elim, fun _ (z : False) => z.elim, fun _ _ _ (z : False) => z.elim⟩ (startJ_ok o ha hb hx hy) (hd ds _ a b x y h hx hy)
  obtain ⟨a', x', e, ea, z2⟩ := slotP_out z
  subst ea
  obtain ⟨b', y', e', eb, z3⟩ := slotP_out z2
  subst eb
  obtain ⟨v, h1, h2⟩ := o'.val 0 _ e
  obtain rfl : v = .ref a' := h2.1
  obtain ⟨u, h3, h4⟩ := o'.val 1 _ e'
  obtain rfl : u = .ref b' := h4.1
  exact z3 H' (fps 0) (fps 1) _ _ o'.b0 ha hb h2.2 h4.2 (o'.own 0 hΓ).1 (o'.own 1 hΓ1).1 (fun b hb => ⟨((o'.own 0 hΓ).2 b hb).1, ((o'.own 0 hΓ).2 b hb).2, o'.dj 0 hΓ 1 (by decide) b hb⟩) (fun b hb => (o'.own 1 hΓ1).2 b hb)
def vCallJ (i j : Nat) (S : DSJ) (dz : DE) (E : DEnds) (δ : Dl) : Prop := vVar i δ fun x => vVar j δ fun y => dz δ fun z => (x.isRef = true ∧ y.isRef = true ∧ z.scal = true) ∧ S [x, y, z] fun x' y' => E.nx ((δ.set i (some x')).set j (some y'))
theorem st_callJ {Ex : XK} {S : DSJ} (i j : Nat) (hS : DMonoJ S) (hz : ER K Γ tz dz) (hi : i ∈ Γ := by decide) (hj : j ∈ Γ := by decide) (hij : i ≠ j := by decide) :
    ST K ρ Γr Γl (tDrop (tCall (spJ K S) [] Ex (tCons (tVar i) (tCons (tVar j) (tCons tz tNil))))) Γ Γ (vCallJ i j S dz) := by
  intro B0 Dn E fps δ σ H k o h
  obtain ⟨x, ex, h⟩ := vVar_out h
  obtain ⟨y, ey, h⟩ := vVar_out h
  obtain ⟨v, hv, rv⟩ := o.val i x ex
  obtain ⟨u, hu, ru⟩ := o.val j y ey
  refine ⟨v, hv, u, hu, hz.run o (hz.mono _ _ _ (fun z zz w H1 s1 r => ?_) h)⟩
  obtain ⟨⟨zx, zy, zs⟩, zz⟩ := zz
  obtain ⟨fz, r⟩ := r
  obtain ⟨rfl, rfl⟩ := r.scal zs
  obtain ⟨a, rfl⟩ := rv.isRef zx
  obtain ⟨b, rfl⟩ := ru.isRef zy
  have o1 := o.same s1
  obtain ⟨B1, sB, oB, eB⟩ := (o1.sub (Γ' := [i, j]) (fun l hl => by rcases List.mem_cons.mp hl with rfl | hl; exact hi; cases List.mem_singleton.mp hl; exact hj)).rebase
  have mi : i ∈ [i, j] := List.mem_cons_self
  have mj : j ∈ [i, j] := List.mem_cons_of_mem _ List.mem_cons_self
  refine ⟨B1, fun l => match l with | 0 => fps i | 1 => fps j | _ => [], [x, y, z], ⟨rfl, oB.b0, fun l d e => ?_, fun l e => ?_, fun l hl => ?_, fun l hl m hm c hc => ?_⟩, ⟨a, b, rfl, rfl⟩, hS _ _ _ (fun x' y' z' => ?_) zz⟩
  · match l, e with
    | 0, e => cases e; exact ⟨_, rfl, rv.same s1⟩
    | 1, e => cases e; exact ⟨_, rfl, ru.same s1⟩
    | 2, e => cases e; exact ⟨_, rfl, r⟩
    | n + 3, e => cases e
  · match l, e with
    | 0, e => exact absurd rfl (e x)
    | 1, e => exact absurd rfl (e y)
    | n + 2, e => rfl
  · rcases List.mem_cons.mp hl with rfl | hl
    · exact oB.own i mi
    · cases List.mem_singleton.mp hl; exact oB.own j mj
  · rcases List.mem_cons.mp hl with rfl | hl
    · match m, hm with
      | 0, hm => exact absurd rfl hm
      | 1, _ => exact oB.dj i mi j (Ne.symm hij) c hc
      | n + 2, _ => exact List.not_mem_nil
    · cases List.mem_singleton.mp hl
      match m, hm with
      | 0, _ => exact oB.dj j mj i hij c hc
      | 1, hm => exact absurd rfl hm
      | n + 2, _ => exact List.not_mem_nil
  · intro H' fp fq v' u' sB' e1 e2 r1 r2 nd1 nd2 m1 m2
    cases e1
    cases e2
    have sb : Same B0 H' := sB.trans sB'
    have fresh : ∀ c, B1 c = none → c ∈ fps i ∨ c ∈ fps j ∨ (B0 c = none ∧ ∀ l, c ∉ fps l) := fun c hc => by
      by_cases q1 : c ∈ fps i
      · exact .inl q1
      · by_cases q2 : c ∈ fps j
        · exact .inr (.inl q2)
        · have := eB c (fun l hl => by rcases List.mem_cons.mp hl with rfl | hl; exact q1; cases List.mem_singleton.mp hl; exact q2)
          rw [hc] at this
          exact .inr (.inr ⟨o1.b0.free this.symm, fun l z => o1.dom z this.symm⟩)
    have b0n : ∀ c, B1 c = none → B0 c = none := fun c hc => by
      rcases fresh c hc with q | q | q
      · exact ((o1.own i hi).2 c q).1
      · exact ((o1.own j hj).2 c q).1
      · exact q.1
    have keep : ∀ c q, c ∉ fps i → c ∉ fps j → H1 c = some q → H' c = some q := fun c q h1 h2 e => by
      have := eB c (fun l hl => by rcases List.mem_cons.mp hl with rfl | hl; exact h1; cases List.mem_singleton.mp hl; exact h2)
      exact sB' c q (this.trans e)
    have out : ∀ l, l ≠ i → l ≠ j → ∀ c ∈ fps l, c ∉ fp ∧ c ∉ fq ∧ c ∉ fps i ∧ c ∉ fps j := fun l h1 h2 c hc => by
      have n1 : c ∉ fps i := fun z => o1.dj i hi l h1 c z hc
      have n2 : c ∉ fps j := fun z => o1.dj j hj l h2 c z hc
      have nb : B1 c ≠ none := fun z => by
        rcases fresh c z with q | q | q
        · exact n1 q
        · exact n2 q
        · exact q.2 l hc
      exact ⟨fun z => nb (m1 c z).1, fun z => nb (m2 c z).1, n1, n2⟩
    have li : i < δ.length := (List.getElem?_eq_some_iff.mp ex).1
    have lj : j < δ.length := (List.getElem?_eq_some_iff.mp ey).1
    refine k.nx (fps := fun l => if l = i then fp else if l = j then fq else fps l) ⟨by rw [List.length_set, List.length_set]; exact o1.len, sb, fun l d' e => ?_, fun l e => ?_, fun l hl => ?_, fun l hl m hm c hc => ?_⟩ z'
    · by_cases q1 : l = i
      · subst q1
        rw [List.getElem?_set_ne (Ne.symm hij), List.getElem?_set_self li] at e
        cases e
        rw [if_pos rfl]
        exact ⟨_, hv, r1⟩
      · by_cases q2 : l = j
        · subst q2
          rw [List.getElem?_set_self (by rw [List.length_set]; exact lj)] at e
          cases e
          rw [if_neg q1, if_pos rfl]
          exact ⟨_, hu, r2⟩
        · rw [List.getElem?_set_ne (Ne.symm q2), List.getElem?_set_ne (Ne.symm q1)] at e
          rw [if_neg q1, if_neg q2]
          obtain ⟨w', e1, e2⟩ := o1.val l d' e
          refine ⟨w', e1, e2.mono (fun c hc q eq => keep c q (out l q1 q2 c hc).2.2.1 (out l q1 q2 c hc).2.2.2 eq) fun c q eq im => keep c q (fun z => ((o1.own i hi).2 c z).2.notup q eq im) (fun z => ((o1.own j hj).2 c z).2.notup q eq im) eq⟩
    · by_cases q1 : l = i
      · subst q1
        exact absurd (by rw [List.getElem?_set_ne (Ne.symm hij), List.getElem?_set_self li]) (e x')
      · by_cases q2 : l = j
        · subst q2
          exact absurd (by rw [List.getElem?_set_self (by rw [List.length_set]; exact lj)]) (e y')
        · rw [if_neg q1, if_neg q2]
          exact o1.non l fun d' z => e d' (by rw [List.getElem?_set_ne (Ne.symm q2), List.getElem?_set_ne (Ne.symm q1)]; exact z)
    · by_cases q1 : l = i
      · rw [if_pos q1]
        exact ⟨nd1, fun c hc => ⟨b0n c (m1 c hc).1, (m1 c hc).2.1⟩⟩
      · rw [if_neg q1]
        by_cases q2 : l = j
        · rw [if_pos q2]
          exact ⟨nd2, fun c hc => ⟨b0n c (m2 c hc).1, (m2 c hc).2⟩⟩
        · rw [if_neg q2]
          refine ⟨(o1.own l hl).1, fun c hc => ⟨((o1.own l hl).2 c hc).1, ?_⟩⟩
          have n1 := (out l q1 q2 c hc).2.2.1
          have n2 := (out l q1 q2 c hc).2.2.2
          rcases ((o1.own l hl).2 c hc).2 with ⟨x, z⟩ | ⟨x, z⟩ | ⟨x, z⟩ | ⟨C, dx, fs, z⟩
          · exact .inl ⟨x, keep c _ n1 n2 z⟩
          · exact .inr (.inl ⟨x, keep c _ n1 n2 z⟩)
          · exact .inr (.inr (.inl ⟨x, keep c _ n1 n2 z⟩))
          · exact .inr (.inr (.inr ⟨C, dx, fs, keep c _ n1 n2 z⟩))
    · by_cases q1 : l = i
      · rw [if_pos q1] at hc
        by_cases q2 : m = i
        · exact absurd (q2.trans q1.symm) hm
        · rw [if_neg q2]
          by_cases q3 : m = j
          · rw [if_pos q3]; exact (m1 c hc).2.2
          · rw [if_neg q3]; exact fun z => (out m q2 q3 c z).1 hc
      · rw [if_neg q1] at hc
        by_cases q2 : l = j
        · rw [if_pos q2] at hc
          by_cases q3 : m = i
          · rw [if_pos q3]; exact fun z => (m1 c z).2.2 hc
          · rw [if_neg q3]
            by_cases q4 : m = j
            · exact absurd (q4.trans q2.symm) hm
            · rw [if_neg q4]; exact fun z => (out m q3 q4 c z).2.1 hc
        · rw [if_neg q2] at hc
          by_cases q3 : m = i
          · rw [if_pos q3]; exact (out l q1 q2 c hc).1
          · rw [if_neg q3]
            by_cases q4 : m = j
            · rw [if_pos q4]; exact (out l q1 q2 c hc).2.1
            · rw [if_neg q4]; exact o1.dj l hl m hm c hc
end
end L3
set_option Elab.async false
set_option linter.all false
set_option maxRecDepth 100000
set_option maxHeartbeats 4000000
namespace L3
open PySem L2
section
variable {K : PySem.W.Frag} {ρ : Bool} {Γr Γl Γ Γ1 Γ2 Γn M : List Nat} {R : Addr → Prop} {t u : TS} {te ta tb tx t1 t2 tz : TE} {de da db dx d1 d2 dz : DE} {d e : DS}
variable {B0 : Hp} {fps : Nat → List Addr} {δ : Dl} {σ : St} {H H' : Hp}
theorem Rfs.cons0 {d : D} {v : V} {ds : List D} {vs : List V} (h : Rf K H d v []) (r : Rfs K H ds vs []) : Rfs K H (d :: ds) (v :: vs) [] := ⟨v, vs, [], [], rfl, rfl, h, r⟩
theorem Rfs.app0 {ds es : List D} {vs ws : List V} (h : Rfs K H ds vs []) (r : Rfs K H es ws []) : Rfs K H (ds ++ es) (vs ++ ws) [] := h.append r
theorem Rfs.tail0 {d : D} {ds : List D} {vs : List V} (r : Rfs K H (d :: ds) vs []) : ∃ v ws, vs = v :: ws ∧ Rf K H d v [] ∧ Rfs K H ds ws [] := by
  obtain ⟨v, ws, f1, f2, rfl, e, h1, h2⟩ := r
  obtain ⟨rfl, rfl⟩ := List.append_eq_nil_iff.mp e.symm
  exact ⟨v, ws, rfl, h1, h2⟩
theorem Rfs.erase0 : ∀ {ds : List D} {vs : List V} (k : Nat), Rfs K H ds vs [] → Rfs K H (ds.eraseIdx k) (vs.eraseIdx k) []
  | [], vs, k, r => by obtain ⟨rfl, _⟩ : vs = [] ∧ _ := r; exact ⟨by simp, rfl⟩
  | d :: ds, vs, 0, r => by obtain ⟨v, ws, rfl, h1, h2⟩ := r.tail0; exact h2
  | d :: ds, vs, k + 1, r => by obtain ⟨v, ws, rfl, h1, h2⟩ := r.tail0; exact .cons0 h1 (Rfs.erase0 k h2)
theorem Rfs.drop0 : ∀ {ds : List D} {vs : List V} (k : Nat), Rfs K H ds vs [] → Rfs K H (ds.drop k) (vs.drop k) []
  | ds, vs, 0, r => r
  | [], vs, k + 1, r => by obtain ⟨rfl, _⟩ : vs = [] ∧ _ := r; exact ⟨by simp, rfl⟩
  | d :: ds, vs, k + 1, r => by obtain ⟨v, ws, rfl, h1, h2⟩ := r.tail0; exact Rfs.drop0 k h2
theorem Rfs.take0 : ∀ {ds : List D} {vs : List V} (k : Nat), Rfs K H ds vs [] → Rfs K H (ds.take k) (vs.take k) []
  | ds, vs, 0, r => ⟨rfl, rfl⟩
  | [], vs, k + 1, r => by obtain ⟨rfl, _⟩ : vs = [] ∧ _ := r; exact ⟨by simp, rfl⟩
  | d :: ds, vs, k + 1, r => by obtain ⟨v, ws, rfl, h1, h2⟩ := r.tail0; exact .cons0 h1 (Rfs.take0 k h2)
theorem newF {p : Addr} {ds : List D} {vs : List V} (r : Rfs K H ds vs []) (hp : H p = none) : Same H (upd H p (.lst vs)) ∧ Rf K (upd H p (.lst vs)) (.lst ds) (.ref p) [p] ∧ Nw H (upd H p (.lst vs)) nf [] [p] :=
  ⟨Same.new' hp, ⟨p, _, [], rfl, upd_same, rfl, r.same (Same.new' hp)⟩, ⟨by simp, fun b hb => by cases List.mem_singleton.mp hb; exact .inl ⟨_, upd_same⟩, fun b hb => by cases List.mem_singleton.mp hb; exact .inl hp⟩⟩
def vListF (xs : List D) (P : DK) : Prop := match xs with | [x] => asLst (some x) fun ds => ds.all flatD = true ∧ P (.lst ds) | _ => False
theorem c_listF : CallV K (fun xs H Q => ∃ p ys, xs = [.ref p] ∧ (SqL K H p ys ∨ SqT K H p ys) ∧ ∀ l, H l = none → Q (.ref l) (upd H l (.lst ys))) vListF := ⟨fun xs P P' k h => by
    unfold vListF at h ⊢
    revert h
    split
    · exact fun h => by obtain ⟨ds, e, z⟩ := asLst_out h; exact asLst_in e ⟨z.1, k _ z.2⟩
    · exact id,
  fun {H xs vs Q} r h => by
    unfold vListF at h
    split at h
    · obtain ⟨v, rfl, r0⟩ := r.one
      obtain ⟨ds, e, hsc, hq⟩ := asLst_out h
      cases e
      obtain ⟨fp, a, ys, fq, rfl, hl, _, rs⟩ := r0
      obtain rfl := rs.flat0 hsc
      refine ⟨a, _, rfl, .inl (.inl (.inl hl)), fun l hl => ?_⟩
      obtain ⟨n1, n2, n3⟩ := newF rs hl
      exact hq _ _ _ n1 n2 n3
    · exact h.elim⟩
def vSlF (de : DE) (dl dh : DO) (δ : Dl) (P : DK) : Prop := de δ fun x => dl δ fun l => dh δ fun u => asLst (some x) fun ds => ds.all flatD = true ∧ P (.lst (cutD ds l u))
theorem em_slF {tl th : TO} {dl dh : DO} (he : ER K Γ te de) (hl : OR K Γ tl dl) (hh : OR K Γ th dh) : EM K Γ [] (tSl (rSlL K) te tl th) (vSlF de dl dh) :=
  ⟨fun δ P P' k h => he.mono _ _ _ (fun x z => hl.mono _ _ _ (fun l z => hh.mono _ _ _ (fun u z => by obtain ⟨ds, e, z⟩ := asLst_out z; exact asLst_in e ⟨z.1, k _ z.2⟩) z) z) h,
   fun {B0 fps δ σ H Q} o h => he.run o (he.mono _ _ _ (fun x z v H1 s1 r1 => hl.run (o.same s1) (hl.mono _ _ _ (fun l z H2 s2 => hh.run ((o.same s1).same s2) (hh.mono _ _ _ (fun u z H3 s3 => by
    obtain ⟨ds, e, zz⟩ := asLst_out z
    cases e
    obtain ⟨fp, a, xs, fq, rfl, hs, _, hr⟩ := r1.same (s2.trans s3)
    obtain rfl := hr.flat0 zz.1
    refine ⟨a, _, rfl, .inl (.inl hs), fun p hp => ?_⟩
    have hr' : Rfs K H3 (cutD ds l u) (cutV xs l u) [] := by
      unfold cutD cutV
      rw [hr.length]
      exact Rfs.take0 _ (Rfs.drop0 _ hr)
    obtain ⟨n1, n2, n3⟩ := newF hr' hp
    exact zz.2 _ _ _ (((s1.trans s2).trans s3).trans n1) n2 (n3.any.later ((s1.trans s2).trans s3))) z)) z)) h)⟩
theorem flat_write (o : Ok K B0 Γ fps δ σ H) {i : Nat} (hi : i ∈ Γ) {ds : List D} (e : δ[i]? = some (some (.lst ds))) (hf : ds.all flatD = true) :
    ∃ a xs, σ[i]? = some (some (.ref a)) ∧ H a = some (.lst xs) ∧ Rfs K H ds xs [] ∧ ∀ {ds' : List D} {xs' : List V}, Rfs K H ds' xs' [] → Ok K B0 Γ (fun j => if j = i then [a] else fps j) (δ.set i (some (.lst ds'))) σ (upd H a (.lst xs')) := by
  obtain ⟨a, xs, fq, h1, h2, h3, h4⟩ := o.ownL e
  obtain rfl := h4.flat0 hf
  have hown := o.own i hi
  rw [h3] at hown
  have nt := (hown.2 a List.mem_cons_self).2.notup
  refine ⟨a, xs, h1, h2, h4, fun {ds' xs'} r => o.write hi (d' := .lst ds') (fp' := [a]) h1 ⟨a, xs', [], rfl, upd_same, rfl, r.upd (fun z => (nomatch z)) nt⟩ (by simp) (fun b hb => ?_) (fun b hb => ?_) ?_⟩
  · cases List.mem_singleton.mp hb; exact .inl ⟨_, upd_same⟩
  · cases List.mem_singleton.mp hb; rw [h3]; exact .inl List.mem_cons_self
  · rw [h3]; exact updKeep List.mem_cons_self
def vAppF (i : Nat) (de : DE) (E : DEnds) (δ : Dl) : Prop := slotL δ i fun ds => de δ fun x => (ds.all flatD = true ∧ flatD x = true ∧ ds.length < 1000) ∧ E.nx (δ.set i (some (.lst (ds ++ [x]))))
theorem st0_appF (i : Nat) (he : ER K Γ te de) (hi : i ∈ Γ := by decide) : ST0 K (tDrop (tBM K "list" rAppend (tVar i) (tCons te tNil))) Γ Γ (vAppF i de) := by
  intro B0 Dn E fps δ σ H k o h
  obtain ⟨ds, e, h⟩ := slotL_out h
  obtain ⟨a0, xs0, fq, g1, g2, g3, g4⟩ := o.ownL e
  refine ⟨.ref a0, g1, .inl ⟨rfl, xs0, .inl (.inl g2)⟩, he.run o (he.mono _ _ _ (fun x z v H1 s r => ?_) h)⟩
  obtain ⟨⟨z1, z2, z3⟩, z⟩ := z
  obtain ⟨fp, r⟩ := r
  obtain rfl := r.flat0 z2
  obtain ⟨a, xs, h1, h2, h3, h4⟩ := flat_write (o.same s) hi e z1
  rw [g1] at h1; cases h1
  exact ⟨a0, xs, v, rfl, rfl, h2, by rw [h3.length]; exact Nat.lt_of_lt_of_le z3 (le1000 (Nat.le_refl _)), k (h4 (Rfs.app0 h3 (Rfs.one r))) z⟩
def vPopF (i : Nat) (de : DE) (E : DEnds) (δ : Dl) : Prop := slotL δ i fun ds => de δ fun x => asI [x] fun m => (ds.all flatD = true ∧ 0 ≤ m ∧ m < ds.length ∧ ds.length ≤ 1000) ∧ E.nx (δ.set i (some (.lst (ds.eraseIdx m.toNat))))
theorem st0_popF (i : Nat) (he : ER K Γ te de) (hi : i ∈ Γ := by decide) : ST0 K (tDrop (tBM K "list" rPopAt (tVar i) (tCons te tNil))) Γ Γ (vPopF i de) := by
  intro B0 Dn E fps δ σ H k o h
  obtain ⟨ds, e, h⟩ := slotL_out h
  obtain ⟨a0, xs0, fq, g1, g2, g3, g4⟩ := o.ownL e
  refine ⟨.ref a0, g1, .inl ⟨rfl, xs0, .inl (.inl g2)⟩, he.run o (he.mono _ _ _ (fun x z v H1 s r => ?_) h)⟩
  obtain ⟨m, em, z⟩ := asI1_out z
  subst em
  obtain ⟨⟨z1, z2, z3, z4⟩, z⟩ := z
  obtain ⟨a, xs, h1, h2, h3, h4⟩ := flat_write (o.same s) hi e z1
  rw [g1] at h1; cases h1
  have hl := h3.length
  have hk : m.toNat < xs.length := by omega
  exact ⟨a0, xs, m, m.toNat, _, rfl, by rw [r.int], h2, by omega, by omega, by rw [seqIndex_of z2 (by omega)], List.getElem?_eq_getElem hk, k (h4 (Rfs.erase0 _ h3)) z⟩
def vEqN (x : D) (y : D) (P : DK) : Prop := vEqL false x y P ∨ (x = .non ∧ (∃ ds, y = .lst ds) ∧ P (.bl false))
theorem o_eqN : OpV K rEqN vEqN := ⟨fun x y P P' k h => h.elim (fun h => .inl (o_eqL (K := K).mono x y _ _ k h)) (fun ⟨a, b, c⟩ => .inr ⟨a, b, k _ c⟩), fun {H x y v w Q} r1 r2 h => by
  rcases h with h | ⟨rfl, ⟨ds, rfl⟩, q⟩
  · exact .inl (o_eqL.run r1 r2 h)
  · obtain ⟨fp, r1⟩ := r1
    obtain rfl : v = .non := r1.1
    obtain ⟨fp2, b, ys, fq, rfl, hb, _⟩ := r2
    exact .inr ⟨rfl, b, ys, rfl, hb, q _ H [] (Same.refl H) ⟨rfl, rfl⟩ Nw.nil⟩⟩
theorem Rfs.set0 {x : D} {v : V} : ∀ {ds : List D} {vs : List V} (k : Nat), Rf K H x v [] → Rfs K H ds vs [] → Rfs K H (ds.set k x) (vs.set k v) []
  | [], vs, k, h, r => by obtain ⟨rfl, _⟩ : vs = [] ∧ _ := r; exact ⟨by simp, rfl⟩
  | d :: ds, vs, 0, h, r => by obtain ⟨w, ws, rfl, h1, h2⟩ := r.tail0; exact .cons0 h h2
  | d :: ds, vs, k + 1, h, r => by obtain ⟨w, ws, rfl, h1, h2⟩ := r.tail0; exact .cons0 h1 (Rfs.set0 k h h2)
def vSub2 (i : Nat) (de d1 d2 : DE) (E : DEnds) (δ : Dl) : Prop := de δ fun z => ∃ x y, z = .tup [x, y] ∧ flatD x = true ∧ flatD y = true ∧ slotL δ i fun ds => ds.all flatD = true ∧ d1 δ fun a => asI [a] fun p => (0 ≤ p ∧ p < ds.length) ∧ d2 (δ.set i (some (.lst (ds.set p.toNat x)))) fun b => asI [b] fun q => (0 ≤ q ∧ q < ds.length) ∧ E.nx ((δ.set i (some (.lst (ds.set p.toNat x)))).set i (some (.lst ((ds.set p.toNat x).set q.toNat y))))
theorem st0_sub2 (i : Nat) {n : Nat} (he : EM K Γ [] te de) (h1 : ER K Γ t1 d1) (h2 : ER K Γ t2 d2) (hi : i ∈ Γ := by decide) (hn : n = 2 := by rfl) :
    ST0 K (tAsg te (gTup K n (gCons (gSub (tVar i) t1 rSetL) (gCons (gSub (tVar i) t2 rSetL) gNil)))) Γ Γ (vSub2 i de d1 d2) := by
  intro B0 Dn E fps δ σ H k o h
  subst hn
  refine he.run o (he.mono _ _ _ (fun z zz v H1 fp s1 r1 n1 => ?_) h)
  obtain ⟨x, y, rfl, fx, fy, zz⟩ := zz
  obtain ⟨a, vs, rfl, hT, rs⟩ := r1
  obtain rfl := rs.flat0 (by rw [List.all_cons, List.all_cons, fx, fy]; rfl)
  obtain ⟨v1, ws, rfl, rx, rs⟩ := rs.tail0
  obtain ⟨v2, ws, rfl, ry, rs⟩ := rs.tail0
  obtain ⟨rfl, _⟩ : ws = [] ∧ _ := rs
  obtain ⟨ds, e, hf, zy⟩ := slotL_out zz
  have o1 := o.same s1
  obtain ⟨b0, xs0, fq, g1, g2, g3, g4⟩ := o1.ownL e
  refine ⟨a, _, rfl, .inl (.inl hT), rfl, v1, [v2], rfl, .ref b0, g1, h1.run o1 (h1.mono _ _ _ (fun y1 z1 w1 H2 s2 r2 => ?_) zy)⟩
  obtain ⟨p, ep, ⟨p0, p1⟩, z1'⟩ := asI1_out z1
  subst ep
  have o2 := o1.same s2
  obtain ⟨b, xs, k1, k2, k3, k4⟩ := flat_write o2 hi e hf
  rw [g1] at k1; cases k1
  have hl := k3.length
  have ou := k4 (Rfs.set0 p.toNat (rx.same s2) k3)
  refine ⟨b0, xs, p, p.toNat, rfl, r2.int, k2, ixN_nat p0 (by omega), v2, [], rfl, .ref b0, g1, h2.run ou (h2.mono _ _ _ (fun y2 z2 w2 H3 s3 r3 => ?_) z1')⟩
  obtain ⟨q, eq, ⟨q0, q1⟩, z2'⟩ := asI1_out z2
  subst eq
  have lt : i < δ.length := (List.getElem?_eq_some_iff.mp e).1
  have e2 : (δ.set i (some (.lst (ds.set p.toNat x))))[i]? = some (some (.lst (ds.set p.toNat x))) := List.getElem?_set_self lt
  have hf2 : (ds.set p.toNat x).all flatD = true := by
    rw [List.all_eq_true] at hf ⊢
    intro d hd
    rcases List.mem_or_eq_of_mem_set hd with z | z
    · exact hf d z
    · rw [z]; exact fx
  obtain ⟨b', xs', m1, m2, m3, m4⟩ := flat_write (ou.same s3) hi e2 hf2
  rw [g1] at m1; cases m1
  have hl2 := m3.length
  rw [List.length_set] at hl2
  have ry' : Rf K H3 y v2 [] := ((ry.same s2).upd (fun z => (nomatch z)) ((o2.own i hi).2 b0 (by rw [(show fps i = b0 :: fq from g3)]; exact List.mem_cons_self)).2.notup).same s3
  exact ⟨b0, xs', q, q.toNat, rfl, r3.int, m2, ixN_nat q0 (by omega), rfl, k (m4 (Rfs.set0 q.toNat ry' m3)) z2'⟩
end
end L3
set_option Elab.async false
set_option linter.all false
set_option maxRecDepth 100000
set_option maxHeartbeats 4000000
namespace Mine
open PySem L3
open L2 hiding D Rf Rfs Rp dI dT
open PyProof.Rows hiding St
local macro_rules | `(tactic| walk_at "v1") => `(tactic| simp only [vFld, asF_ins, vMeth, isI_ins, vOrE, vIsC, vRevM, vSub2, vCatF, vAsgM2, vCallJ, vTryEq, vSlF, vListF, vAppF, vPopF, vNext, vSeq, vSetM, vSet, vDrop, vRet, vRetN, vIfS, vAsg, vgName, vgTup2, vgCons_c, vgNil_n, vFor, vIf, vVar, vC, vOp, vUn, vI0_int, vI_int, vU_int, vTest, asB_bl, vAnd, vOr, vNot, vAndV, vOrV, vNotV, vChain, vNil, vCons, vInts, vLst, vTup, vCall, vItL, vRng1, vRng2, asI_int, asII_int, asL_lst, asL_scr, vIxL_lst, vIxL_scr, vIxT_tup, vNoPart, vPart, vLen_lst, vLen_scr, vLen_tup, slotL, vAppend, vClear, vIs, tyn_int, tyn_bl, tyn_lst, tyn_tup, tyn_str, tyn_non, isB_ii, isB_ib, isB_ll, isB_tt, isB_ss, isB_bb, isB_bi, isB_il, isB_nl, vIsN_non, D.isNon, vScal, D.scal, vFlat, flat_int, flat_bl, flat_tup2, flat_tup3, flat_tup4, vAbs, vIntB, asIB_int, asIB_bl, vMax2, vMin2, vYes, vCat_lst, vRep_lst, vList_lst, vList_scr, vSum_ints, asNs_ints, vSorted, vRev, vSl, vSlR, vCatR_lst, vRepR_lst, vListR_lst, vRevR, vAll_bools, vAny_bools, vMinL_ints, vMaxL_ints, vListRng, vAppPop, vPin, slotP, vVarP, vCallI, vSetI, vDGet, vDIn, vDPut, slotD, asDic_dic, vIndex, vSort_ints, vLenD_dic, vClearTs, vClearTL, vTupOf_lst, vTupR_lst, asTI_in, asDit_dit, vDInT, vDPutT, vClearT, slotT, isRef_lst, isRef_dic, ofV_int, ofV_bl, ofV_non, D.toV, Option.some.injEq, forall_eq', vEqS_bl, vEqS_str, vPar, vgLst, vTryI, vTry, vKnow, vWhen, vRaise, vDropX, vSetX, vRetX, noX, vDef, atI_c0, atI_c1, atI_c2, atI_c3, asO_some, kill, List.foldl_nil, List.foldl_cons, List.set_cons_zero, List.set_cons_succ, List.getElem?_cons_zero, List.getElem?_cons_succ, List.getElem?_nil, endsD, vEqS_int, Bool.false_eq_true, Bool.not_false, Bool.not_true, if_true, if_false, ite_true, ite_false, true_and, and_true, List.length_cons, List.length_nil, decide_eq_true_eq, Bool.not_eq_true', decide_eq_false_iff_not, List.length_map, Bool.true_eq_false, eq_self, not_true_eq_false, not_false_eq_true, Int.reduceToNat, Int.reduceEq, Int.reduceLT, Int.reduceLE, Int.reducePow, Int.reduceAdd, Int.reduceMul, Int.reduceSub, Int.reduceNeg, Int.toNat_natCast])
local macro_rules | `(tactic| walk_at "vb1") => `(tactic| simp only [vFld, asF_ins, vMeth, isI_ins, vOrE, vIsC, vRevM, vSub2, vCatF, vAsgM2, vCallJ, vTryEq, vSlF, vListF, vAppF, vPopF, vNext, vSeq, vSetM, vSet, vDrop, vRet, vRetN, vIfS, vAsg, vgName, vgTup2, vgCons_c, vgNil_n, vFor, vIf, vVar, vC, vOp, vUn, vI0_int, vI_int, vU_int, vTest, asB_bl, vAnd, vOr, vNot, vAndV, vOrV, vNotV, vChain, vNil, vCons, vInts, vLst, vTup, vCall, vItL, vRng1, vRng2, asI_int, asII_int, asL_lst, asL_scr, vIxL_lst, vIxL_scr, vIxT_tup, vNoPart, vPart, vLen_lst, vLen_scr, vLen_tup, slotL, vAppend, vClear, vIs, tyn_int, tyn_bl, tyn_lst, tyn_tup, tyn_str, tyn_non, isB_ii, isB_ib, isB_ll, isB_tt, isB_ss, isB_bb, isB_bi, isB_il, isB_nl, vIsN_non, D.isNon, vScal, D.scal, vFlat, flat_int, flat_bl, flat_tup2, flat_tup3, flat_tup4, vAbs, vIntB, asIB_int, asIB_bl, vMax2, vMin2, vYes, vCat_lst, vRep_lst, vList_lst, vList_scr, vSum_ints, asNs_ints, vSorted, vRev, vSl, vSlR, vCatR_lst, vRepR_lst, vListR_lst, vRevR, vAll_bools, vAny_bools, vMinL_ints, vMaxL_ints, vListRng, vAppPop, vPin, slotP, vVarP, vCallI, vSetI, vDGet, vDIn, vDPut, slotD, asDic_dic, vIndex, vSort_ints, vLenD_dic, vClearTs, vClearTL, vTupOf_lst, vTupR_lst, asTI_in, asDit_dit, vDInT, vDPutT, vClearT, slotT, isRef_lst, isRef_dic, ofV_int, ofV_bl, ofV_non, D.toV, Option.some.injEq, forall_eq', vEqS_bl, vEqS_str, vPar, vgLst, vTryI, vTry, vKnow, vWhen, vRaise, vDropX, vSetX, vRetX, noX, vDef, atI_c0, atI_c1, atI_c2, atI_c3, asO_some, kill, List.foldl_nil, List.foldl_cons, List.set_cons_zero, List.set_cons_succ, List.getElem?_cons_zero, List.getElem?_cons_succ, List.getElem?_nil, endsD, vEqS_int, Bool.false_eq_true, Bool.not_false, Bool.not_true, if_true, if_false, ite_true, ite_false, true_and, and_true, List.length_cons, List.length_nil, decide_eq_true_eq, Bool.not_eq_true', decide_eq_false_iff_not, List.length_map, Bool.true_eq_false, eq_self, not_true_eq_false, not_false_eq_true, Int.reduceToNat, Int.reduceEq, Int.reduceLT, Int.reduceLE, Int.reducePow, Int.reduceAdd, Int.reduceMul, Int.reduceSub, Int.reduceNeg, Int.toNat_natCast, vBody, cbaseD, List.reduceReplicate, List.replicate_succ, List.replicate_zero, List.map_cons, List.map_nil, Option.getD_some, List.cons_append, List.nil_append, Nat.reduceAdd])
local macro_rules | `(tactic| walk_at "v") => `(tactic| try (walk_at "v1"))
local macro_rules | `(tactic| walk_at "vb") => `(tactic| try (walk_at "vb1"))
local macro_rules | `(tactic| walk_at "cd") => `(tactic| first | exact ⟨by decide, 100, by decide, by decide⟩ | exact ⟨by omega, 100, by omega, by decide⟩ | omega | decide | rfl | exact ⟨by decide, by decide, by decide⟩ | exact ⟨64, 64, by omega, by omega, by decide⟩ | exact ⟨200, 200, by omega, by omega, by decide⟩ | exact scal_ints)
local macro_rules | `(tactic| walk_at "go") => `(tactic| repeat (first | (walk_at "v1") | ((with_reducible refine And.intro ?k1 ?_); (case k1 => walk_at "cd"))))
local macro_rules | `(tactic| walk_at "gb") => `(tactic| repeat (first | (walk_at "vb1") | ((with_reducible refine And.intro ?k1 ?_); (case k1 => walk_at "cd"))))
def top (i : Nat) : Stmt := PySem.Challenge.pw_evenmix_k65_step_and_bar_papers.main.body.getD i (.Pass ⟨0, 0, 0, 0⟩)
def mtop (i j : Nat) : Stmt := (match top i with | .ClassDef _ _ _ b _ _ _ _ _ _ _ => b | _ => []).getD j (.Pass ⟨0, 0, 0, 0⟩)
abbrev s_falling : Stmt := top 4
abbrev N_falling : List Str := ["row"]
abbrev P_falling : List Str := ["row"]
theorem sc_falling : FnScope N_falling P_falling (defScope s_falling) := ⟨rfl, rfl, rfl, by decide +kernel, rfl, by decide +kernel, by decide +kernel⟩
abbrev s_heads_of : Stmt := top 5
abbrev N_heads_of : List Str := ["row", "heads", "head", "number"]
abbrev P_heads_of : List Str := ["row"]
theorem sc_heads_of : FnScope N_heads_of P_heads_of (defScope s_heads_of) := ⟨rfl, rfl, rfl, by decide +kernel, rfl, by decide +kernel, by decide +kernel⟩
abbrev s_is_place : Stmt := top 7
abbrev N_is_place : List Str := ["number", "many"]
abbrev P_is_place : List Str := ["number", "many"]
theorem sc_is_place : FnScope N_is_place P_is_place (defScope s_is_place) := ⟨rfl, rfl, rfl, by decide +kernel, rfl, by decide +kernel, by decide +kernel⟩
abbrev s_can_step : Stmt := top 9
abbrev N_can_step : List Str := ["row", "step", "giver", "taker"]
abbrev P_can_step : List Str := ["row", "step"]
theorem sc_can_step : FnScope N_can_step P_can_step (defScope s_can_step) := ⟨rfl, rfl, rfl, by decide +kernel, rfl, by decide +kernel, by decide +kernel⟩
abbrev s_step_made : Stmt := top 10
abbrev N_step_made : List Str := ["row", "step", "made"]
abbrev P_step_made : List Str := ["row", "step"]
theorem sc_step_made : FnScope N_step_made P_step_made (defScope s_step_made) := ⟨rfl, rfl, rfl, by decide +kernel, rfl, by decide +kernel, by decide +kernel⟩
abbrev s_row_behind : Stmt := top 11
abbrev N_row_behind : List Str := ["row", "steps", "step"]
abbrev P_row_behind : List Str := ["row", "steps"]
theorem sc_row_behind : FnScope N_row_behind P_row_behind (defScope s_row_behind) := ⟨rfl, rfl, rfl, by decide +kernel, rfl, by decide +kernel, by decide +kernel⟩
abbrev s_StepPaper_init : Stmt := mtop 14 0
abbrev N_StepPaper_init : List Str := ["self", "one", "other", "steps"]
abbrev P_StepPaper_init : List Str := ["self", "one", "other", "steps"]
theorem sc_StepPaper_init : FnScope N_StepPaper_init P_StepPaper_init (defScope s_StepPaper_init) := ⟨rfl, rfl, rfl, by decide +kernel, rfl, by decide +kernel, by decide +kernel⟩
abbrev s_StepPaper_holds : Stmt := mtop 14 1
abbrev N_StepPaper_holds : List Str := ["self"]
abbrev P_StepPaper_holds : List Str := ["self"]
theorem sc_StepPaper_holds : FnScope N_StepPaper_holds P_StepPaper_holds (defScope s_StepPaper_holds) := ⟨rfl, rfl, rfl, by decide +kernel, rfl, by decide +kernel, by decide +kernel⟩
abbrev s_BarPaper_init : Stmt := mtop 15 0
abbrev N_BarPaper_init : List Str := ["self", "one", "other", "k"]
abbrev P_BarPaper_init : List Str := ["self", "one", "other", "k"]
theorem sc_BarPaper_init : FnScope N_BarPaper_init P_BarPaper_init (defScope s_BarPaper_init) := ⟨rfl, rfl, rfl, by decide +kernel, rfl, by decide +kernel, by decide +kernel⟩
abbrev s_BarPaper_holds : Stmt := mtop 15 1
abbrev N_BarPaper_holds : List Str := ["self"]
abbrev P_BarPaper_holds : List Str := ["self"]
theorem sc_BarPaper_holds : FnScope N_BarPaper_holds P_BarPaper_holds (defScope s_BarPaper_holds) := ⟨rfl, rfl, rfl, by decide +kernel, rfl, by decide +kernel, by decide +kernel⟩
abbrev s_law_fold : Stmt := top 17
abbrev N_law_fold : List Str := ["_law_script", "_law_number", "_law_cell"]
abbrev P_law_fold : List Str := ["_law_script", "_law_number"]
theorem sc_law_fold : FnScope N_law_fold P_law_fold (defScope s_law_fold) := ⟨rfl, rfl, rfl, by decide +kernel, rfl, by decide +kernel, by decide +kernel⟩
abbrev s_law_next : Stmt := top 18
abbrev N_law_next : List Str := ["_law_number"]
abbrev P_law_next : List Str := ["_law_number"]
theorem sc_law_next : FnScope N_law_next P_law_next (defScope s_law_next) := ⟨rfl, rfl, rfl, by decide +kernel, rfl, by decide +kernel, by decide +kernel⟩
abbrev s_law_judged : Stmt := top 19
abbrev N_law_judged : List Str := ["_law_paper", "_law_due", "_law_turn", "_law_found"]
abbrev P_law_judged : List Str := ["_law_paper", "_law_due"]
theorem sc_law_judged : FnScope N_law_judged P_law_judged (defScope s_law_judged) := ⟨rfl, rfl, rfl, by decide +kernel, rfl, by decide +kernel, by decide +kernel⟩
abbrev s_law_row : Stmt := top 20
abbrev N_law_row : List Str := ["_law_number", "_law_great", "_law_found", "_law_k"]
abbrev P_law_row : List Str := ["_law_number"]
theorem sc_law_row : FnScope N_law_row P_law_row (defScope s_law_row) := ⟨rfl, rfl, rfl, by decide +kernel, rfl, by decide +kernel, by decide +kernel⟩
abbrev s_law_steps : Stmt := top 21
abbrev N_law_steps : List Str := ["_law_row_here", "_law_script", "_law_made_here", "_law_steps_here", "_law_cell", "_law_giver", "_law_taker", "_law_gap", "_law_amount"]
abbrev P_law_steps : List Str := ["_law_row_here", "_law_script"]
theorem sc_law_steps : FnScope N_law_steps P_law_steps (defScope s_law_steps) := ⟨rfl, rfl, rfl, by decide +kernel, rfl, by decide +kernel, by decide +kernel⟩
abbrev s_law_made : Stmt := top 22
abbrev N_law_made : List Str := ["_law_row_here", "_law_steps_here", "_law_made_here", "_law_giver", "_law_taker", "_law_amount"]
abbrev P_law_made : List Str := ["_law_row_here", "_law_steps_here"]
theorem sc_law_made : FnScope N_law_made P_law_made (defScope s_law_made) := ⟨rfl, rfl, rfl, by decide +kernel, rfl, by decide +kernel, by decide +kernel⟩
abbrev s_law_spoiled : Stmt := top 23
abbrev N_law_spoiled : List Str := ["_law_one", "_law_steps_here", "_law_number", "_law_way", "_law_at", "_law_giver", "_law_taker", "_law_amount"]
abbrev P_law_spoiled : List Str := ["_law_one", "_law_steps_here", "_law_number"]
theorem sc_law_spoiled : FnScope N_law_spoiled P_law_spoiled (defScope s_law_spoiled) := ⟨rfl, rfl, rfl, by decide +kernel, rfl, by decide +kernel, by decide +kernel⟩
abbrev s_law_barred : Stmt := top 24
abbrev N_law_barred : List Str := ["_law_one", "_law_other", "_law_k"]
abbrev P_law_barred : List Str := ["_law_one", "_law_other", "_law_k"]
theorem sc_law_barred : FnScope N_law_barred P_law_barred (defScope s_law_barred) := ⟨rfl, rfl, rfl, by decide +kernel, rfl, by decide +kernel, by decide +kernel⟩
abbrev s_law_put_in : Stmt := top 25
abbrev N_law_put_in : List Str := ["_law_row_here", "_law_steps_here", "_law_number", "_law_many", "_law_at", "_law_kind", "_law_giver", "_law_taker", "_law_amount"]
abbrev P_law_put_in : List Str := ["_law_row_here", "_law_steps_here", "_law_number"]
theorem sc_law_put_in : FnScope N_law_put_in P_law_put_in (defScope s_law_put_in) := ⟨rfl, rfl, rfl, by decide +kernel, rfl, by decide +kernel, by decide +kernel⟩
abbrev s_law_blind : Stmt := top 26
abbrev N_law_blind : List Str := ["_law_row_here", "_law_steps_here", "_law_made_here", "_law_giver", "_law_taker", "_law_amount"]
abbrev P_law_blind : List Str := ["_law_row_here", "_law_steps_here"]
theorem sc_law_blind : FnScope N_law_blind P_law_blind (defScope s_law_blind) := ⟨rfl, rfl, rfl, by decide +kernel, rfl, by decide +kernel, by decide +kernel⟩
abbrev s_law : Stmt := top 27
abbrev N_law : List Str := ["_law_script", "_law_number", "_law_other", "_law_one", "_law_steps_here", "_law_k", "_law_bent", "_law_turn"]
abbrev P_law : List Str := ["_law_script"]
theorem sc_law : FnScope N_law P_law (defScope s_law) := ⟨rfl, rfl, rfl, by decide +kernel, rfl, by decide +kernel, by decide +kernel⟩
structure Txt (K : PySem.W.Frag) (mg : Str → Option Value) : Prop where
  len_ : mg "len" = none
  isinstance_ : mg "isinstance" = none
  int_ : mg "int" = none
  bool_ : mg "bool" = none
  list_ : mg "list" = none
  range_ : mg "range" = none
  sum_ : mg "sum" = none
  sorted_ : mg "sorted" = none
  min_ : mg "min" = none
  max_ : mg "max" = none
  ValueError_ : mg "ValueError" = none
structure Cs where
  (MixError NoStep Paper StepPaper BarPaper : Addr)
structure Fns (K : PySem.W.Frag) (mg : Str → Option Value) (c : Cs) : Prop where
  h_falling : ∃ f fd, FnAt K mg "falling" s_falling P_falling f fd
  h_heads_of : ∃ f fd, FnAt K mg "heads_of" s_heads_of P_heads_of f fd
  h_is_place : ∃ f fd, FnAt K mg "is_place" s_is_place P_is_place f fd
  h_can_step : ∃ f fd, FnAt K mg "can_step" s_can_step P_can_step f fd
  h_step_made : ∃ f fd, FnAt K mg "step_made" s_step_made P_step_made f fd
  h_row_behind : ∃ f fd, FnAt K mg "row_behind" s_row_behind P_row_behind f fd
  h_StepPaper_init : ∃ f fd, MkAt K mg "StepPaper" c.StepPaper "StepPaper.__init__" s_StepPaper_init P_StepPaper_init f fd
  h_StepPaper_holds : ∃ f fd, MtAt K c.StepPaper "holds" "StepPaper.holds" s_StepPaper_holds P_StepPaper_holds f fd
  h_BarPaper_init : ∃ f fd, MkAt K mg "BarPaper" c.BarPaper "BarPaper.__init__" s_BarPaper_init P_BarPaper_init f fd
  h_BarPaper_holds : ∃ f fd, MtAt K c.BarPaper "holds" "BarPaper.holds" s_BarPaper_holds P_BarPaper_holds f fd
  h_law_fold : ∃ f fd, FnAt K mg "_law_fold" s_law_fold P_law_fold f fd
  h_law_next : ∃ f fd, FnAt K mg "_law_next" s_law_next P_law_next f fd
  h_law_judged : ∃ f fd, FnAt K mg "_law_judged" s_law_judged P_law_judged f fd
  h_law_row : ∃ f fd, FnAt K mg "_law_row" s_law_row P_law_row f fd
  h_law_steps : ∃ f fd, FnAt K mg "_law_steps" s_law_steps P_law_steps f fd
  h_law_made : ∃ f fd, FnAt K mg "_law_made" s_law_made P_law_made f fd
  h_law_spoiled : ∃ f fd, FnAt K mg "_law_spoiled" s_law_spoiled P_law_spoiled f fd
  h_law_barred : ∃ f fd, FnAt K mg "_law_barred" s_law_barred P_law_barred f fd
  h_law_put_in : ∃ f fd, FnAt K mg "_law_put_in" s_law_put_in P_law_put_in f fd
  h_law_blind : ∃ f fd, FnAt K mg "_law_blind" s_law_blind P_law_blind f fd
  h_law : ∃ f fd, FnAt K mg "law" s_law P_law f fd
structure Exs (K : PySem.W.Frag) (mg : Str → Option Value) (base : Heap) (c : Cs) : Prop where
  m_MixError : mg "MixError" = some (.ref c.MixError)
  m_NoStep : mg "NoStep" = some (.ref c.NoStep)
  m_Paper : mg "Paper" = some (.ref c.Paper)
  m_StepPaper : mg "StepPaper" = some (.ref c.StepPaper)
  m_BarPaper : mg "BarPaper" = some (.ref c.BarPaper)
  i_StepPaper : ICls K c.StepPaper
  kp_StepPaper : PySem.W.kitOne K (.ref c.StepPaper) (.ref c.Paper) = some true
  n_StepPaper_one : NoAttr K c.StepPaper "one"
  n_StepPaper_other : NoAttr K c.StepPaper "other"
  n_StepPaper_steps : NoAttr K c.StepPaper "steps"
  i_BarPaper : ICls K c.BarPaper
  kp_BarPaper : PySem.W.kitOne K (.ref c.BarPaper) (.ref c.Paper) = some true
  n_BarPaper_one : NoAttr K c.BarPaper "one"
  n_BarPaper_other : NoAttr K c.BarPaper "other"
  n_BarPaper_k : NoAttr K c.BarPaper "k"
  o_MixError : ExcObj base c.MixError []
  o_NoStep : ExcObj base c.NoStep [c.MixError]
  k_NoStep : PySem.W.ExcK K c.NoStep
theorem isP {K : PySem.W.Frag} {mg : Str → Option Value} {base : Heap} {c : Cs} (xs : Exs K mg base c) : ∀ C ∈ [c.StepPaper, c.BarPaper], ICls K C ∧ PySem.W.kitOne K (.ref C) (.ref c.Paper) = some true := fun C hC => by
  simp only [List.mem_cons, List.not_mem_nil, or_false] at hC
  rcases hC with z | z
  · rw [z]; exact ⟨xs.i_StepPaper, xs.kp_StepPaper⟩
  · rw [z]; exact ⟨xs.i_BarPaper, xs.kp_BarPaper⟩
section
variable {P : Program} {w : World} {K : PySem.W.Frag} {mg : Str → Option Value} {base : Heap}
def S_falling : DSp := fun ds P => ∃ ns, ds = [dI ns] ∧ ns.length < 64 ∧ P (dI (fall ns))
theorem mono_falling : DMono S_falling := by
  intro xs P P' k h
  unfold S_falling at h ⊢
  grind
theorem len_falling : ∀ ds P, S_falling ds P → ds.length = 1 := by
  intro ds P h
  obtain ⟨_, e, _⟩ := h
  rw [e]; rfl
theorem ok_falling {c : Cs} {f : Addr} {fd : FuncData} (F : FnAt K mg "falling" s_falling P_falling f fd) (A_ : Fns K mg c) (T : Txt K mg) (xs : Exs K mg base c) : FnOk P w K mg base CX0 1 f fd P_falling (spP K S_falling) := by
  refine F.fn.ok sc_falling (fun vs H Q E h => spP_len len_falling h) (fun cdv A outer s H vs Q E hr h => ?_)
  refine ⟨_, (pss_one (ps_ret (pe_callBK (call_sortedRevK (K := K) rfl) (by rfl) T.sorted_ boot_sorted (pa_cons (pv 0) pa_nil) (pk_cons pe_bl pk_nil)))), fn_val (Γn := []) (N := N_falling) (st_ret (M := []) (em_sortedRev (ar_cons (ES.er (es_var 0)) ar_nil))) (fun ds P hS => ?_) h⟩
  obtain ⟨ns, rfl, hl, hP⟩ := hS
  rw [show startD N_falling [dI ns] = [some (dI ns)] from rfl]
  walk_at "v"
  refine ⟨hl, fun ms hp ho => ?_⟩
  rw [fall_eq hp ho]
  exact hP
def headsL (ns : List Int) : List Int := (List.range ns.length).map fun (i : Nat) => Maj.topk ns (i + 1)
theorem headsL_len {ns : List Int} : (headsL ns).length = ns.length := by unfold headsL; rw [List.length_map, List.length_range]
theorem headsL_at {ns : List Int} {i : Nat} (h : i < ns.length) : (headsL ns).getD i 0 = Maj.topk ns (i + 1) := by
  unfold headsL
  rw [List.getD_eq_getElem?_getD, List.getElem?_map, List.getElem?_range h]; rfl
def S_heads_of : DSp := fun ds P => ∃ ns, ds = [dI ns] ∧ ns.length < 64 ∧ P (dI (headsL ns))
theorem mono_heads_of : DMono S_heads_of := by
  intro xs P P' k h
  unfold S_heads_of at h ⊢
  grind
theorem len_heads_of : ∀ ds P, S_heads_of ds P → ds.length = 1 := by
  intro ds P h
  obtain ⟨_, e, _⟩ := h
  rw [e]; rfl
theorem ok_heads_of {c : Cs} {f : Addr} {fd : FuncData} (F : FnAt K mg "heads_of" s_heads_of P_heads_of f fd) (A_ : Fns K mg c) (T : Txt K mg) (xs : Exs K mg base c) : FnOk P w K mg base CX0 2 f fd P_heads_of (spP K S_heads_of) := by
  obtain ⟨f0, d0, E_falling⟩ := A_.h_falling
  have G_falling : FnOk P w K mg base CX0 1 f0 d0 P_falling (spP K S_falling) := ok_falling E_falling A_ T xs
  refine F.fn.ok sc_heads_of (fun vs H Q E h => spP_len len_heads_of h) (fun cdv A outer s H vs Q E hr h => ?_)
  refine ⟨_, (pss_cons (ps_set (i := 1) sc_heads_of.nd rfl (by first | exact Or.inl rfl | exact Or.inr rfl) (pe_lst pa_nil))
      (pss_cons (ps_set (i := 2) sc_heads_of.nd rfl (by first | exact Or.inl rfl | exact Or.inr rfl) pe_int)
      (pss_cons (ps_for PassesOwn.never rfl (pi_listK (K := K) rfl (pe_call G_falling (hr.mono (by decide)) rfl E_falling.mg E_falling.fn.kp E_falling.bd .nil pass0 (pa_cons (pv 0) pa_nil))) (pg_name (i := 3) sc_heads_of.nd rfl (by first | exact Or.inl rfl | exact Or.inr rfl)) (pss_cons (ps_set (i := 2) sc_heads_of.nd rfl (by first | exact Or.inl rfl | exact Or.inr rfl) (pe_op op_add (pv 2) (pv 3)))
      (pss_one (ps_expr (pe_bm PySem.F.plainAttrs_list PySem.F.slot_list_append PySem.F.type_list_append mt_append (pv 1) (pa_cons (pv 2) pa_nil))))))
      (pss_one (ps_ret (pv 1)))))), fn_val (Γn := [1]) (N := N_heads_of) (st_seq (ST.post (Γn := [1]) (st_setM (M := []) 1 (em_lst am_nil)))
      (st_seq (ST.post (Γn := [1]) (st_setS 2 (EM.es em_int)))
      (st_seq (st_for (it_list (EM.es (em_call (S := S_falling) mono_falling (ar_cons (ES.er (es_var 0)) ar_nil)))) (gt_name 3) (st_seq (ST.post (Γn := [1]) (st_setS 2 (EM.es (em_op o_int (ES.er (es_var 2)) (ES.er (es_var 3))))))
      (ST.post (Γn := [1]) (st_append (M := []) 1 (ER.scal (ES.er (es_var 2)))))))
      (st_ret (M := [1]) (em_var 1))))) (fun ds P hS => ?_) h⟩
  obtain ⟨ns, rfl, hl, hP⟩ := hS
  rw [show startD N_heads_of [dI ns] = [some (dI ns), none, none, none] from rfl]
  walk_at "go"
  refine ⟨ns, rfl, hl, ?_⟩
  walk_at "v"
  have hfl := fall_length ns
  refine loop_any (as := fall ns) (f := L3.D.int) (fun i δ => ∃ o3 : Option D, δ = [some (dI ns), some (dI ((List.range i).map fun (j : Nat) => Maj.topk ns (j + 1))), some (.int (Maj.topk ns i)), o3]) ⟨none, rfl⟩ ?_ ?_
  · rintro i a δ N e ⟨o3, rfl⟩ hN
    obtain ⟨h1, h2⟩ := List.getElem?_eq_some_iff.mp e
    have et : Maj.topk ns i + a = Maj.topk ns (i + 1) := by
      unfold Maj.topk
      rw [List.take_add_one, e, List.sum_append]; simp
    walk_at "go"
    rw [et, snoc_dI]
    have er : (List.range (i + 1)).map (fun (j : Nat) => Maj.topk ns (j + 1)) = (List.range i).map (fun (j : Nat) => Maj.topk ns (j + 1)) ++ [Maj.topk ns (i + 1)] := by rw [List.range_succ, List.map_append]; rfl
    exact ⟨by rw [List.length_range]; omega, hN _ ⟨some (.int a), by rw [er]⟩⟩
  · rintro δ ⟨o3, rfl⟩
    walk_at "v"
    rw [hfl]
    exact hP
def S_is_place : DSp := fun ds P => ∃ x m, ds = [.int x, .int m] ∧ P (.bl (decide (0 ≤ x ∧ x < m)))
theorem mono_is_place : DMono S_is_place := by
  intro xs P P' k h
  unfold S_is_place at h ⊢
  grind
theorem len_is_place : ∀ ds P, S_is_place ds P → ds.length = 2 := by
  intro ds P h
  obtain ⟨_, _, e, _⟩ := h
  rw [e]; rfl
theorem ok_is_place {c : Cs} {f : Addr} {fd : FuncData} (F : FnAt K mg "is_place" s_is_place P_is_place f fd) (A_ : Fns K mg c) (T : Txt K mg) (xs : Exs K mg base c) : FnOk P w K mg base CX0 1 f fd P_is_place (spP K S_is_place) := by
  refine F.fn.ok sc_is_place (fun vs H Q E h => spP_len len_is_place h) (fun cdv A outer s H vs Q E hr h => ?_)
  refine ⟨_, (pss_one (ps_ret (pe_chain op_le op_lt pe_int (pv 0) (pv 1)))), fn_val (Γn := []) (N := N_is_place) (st_ret (M := []) (em_chain o_bl o_bl (EM.er em_int) (ES.er (es_var 0)) (ES.er (es_var 1)))) (fun ds P hS => ?_) h⟩
  obtain ⟨x, m, rfl, hP⟩ := hS
  rw [show startD N_is_place [.int x, .int m] = [some (.int x), some (.int m)] from rfl]
  walk_at "v"
  split
  · rename_i c
    have e : decide (0 ≤ x ∧ x < m) = decide (x < m) := by rw [Bool.eq_iff_iff, decide_eq_true_eq, decide_eq_true_eq]; exact ⟨fun z => z.2, fun z => ⟨c, z⟩⟩
    rw [e] at hP
    exact hP
  · rename_i c
    rw [decide_eq_false (fun z => c z.1)] at hP
    exact hP
def StepOk (xs : List Int) (g t a : Int) : Prop := 0 ≤ g ∧ g < xs.length ∧ 0 ≤ t ∧ t < xs.length ∧ 1 ≤ a ∧ a ≤ xs.getD g.toNat 0 - xs.getD t.toNat 0
instance {xs : List Int} {g t a : Int} : Decidable (StepOk xs g t a) := by unfold StepOk; infer_instance
def dS (g t a : Int) : D := .tup [.int g, .int t, .int a]
def S_can_step : DSp := fun ds P => ∃ xs g t a, ds = [dI xs, dS g t a] ∧ P (.bl (decide (StepOk xs g t a)))
theorem mono_can_step : DMono S_can_step := by
  intro xs P P' k h
  unfold S_can_step at h ⊢
  grind
theorem len_can_step : ∀ ds P, S_can_step ds P → ds.length = 2 := by
  intro ds P h
  obtain ⟨_, _, _, _, e, _⟩ := h
  rw [e]; rfl
theorem ok_can_step {c : Cs} {f : Addr} {fd : FuncData} (F : FnAt K mg "can_step" s_can_step P_can_step f fd) (A_ : Fns K mg c) (T : Txt K mg) (xs : Exs K mg base c) : FnOk P w K mg base CX0 2 f fd P_can_step (spP K S_can_step) := by
  obtain ⟨f0, d0, E_is_place⟩ := A_.h_is_place
  have G_is_place : FnOk P w K mg base CX0 1 f0 d0 P_is_place (spP K S_is_place) := ok_is_place E_is_place A_ T xs
  refine F.fn.ok sc_can_step (fun vs H Q E h => spP_len len_can_step h) (fun cdv A outer s H vs Q E hr h => ?_)
  refine ⟨_, (pss_cons (ps_set (i := 2) sc_can_step.nd rfl (by first | exact Or.inl rfl | exact Or.inr rfl) (pe_ix (ix_tupK (K := K) rfl) (pv 1) pe_int (fun _ _ => rfl)))
      (pss_cons (ps_set (i := 3) sc_can_step.nd rfl (by first | exact Or.inl rfl | exact Or.inr rfl) (pe_ix (ix_tupK (K := K) rfl) (pv 1) pe_int (fun _ _ => rfl)))
      (pss_cons (ps_if (PW.pt (pw_or (pt_not (pt_val (pe_call G_is_place (hr.mono (by decide)) rfl E_is_place.mg E_is_place.fn.kp E_is_place.bd .nil pass0 (pa_cons (pv 2) (pa_cons (pe_callB (call_lenK (K := K) rfl) (by rfl) T.len_ PySem.boot_len (pa_cons (pv 0) pa_nil)) pa_nil))))) (pw_or1 (pt_not (pt_val (pe_call G_is_place (hr.mono (by decide)) rfl E_is_place.mg E_is_place.fn.kp E_is_place.bd .nil pass0 (pa_cons (pv 3) (pa_cons (pe_callB (call_lenK (K := K) rfl) (by rfl) T.len_ PySem.boot_len (pa_cons (pv 0) pa_nil)) pa_nil)))))))) (pss_one (ps_ret pe_bl)) pss_nil)
      (pss_one (ps_ret (pe_chain op_le op_le pe_int (pe_ix (ix_tupK (K := K) rfl) (pv 1) pe_int (fun _ _ => rfl)) (pe_op op_sub (pe_ix (ix_listK (K := K) rfl) (pv 0) (pv 2) (fun _ _ => rfl)) (pe_ix (ix_listK (K := K) rfl) (pv 0) (pv 3) (fun _ _ => rfl))))))))), fn_val (Γn := []) (N := N_can_step) (st_seq (ST.post (Γn := []) (st_setS 2 (es_ixT (es_var 1) (EM.er em_int))))
      (st_seq (ST.post (Γn := []) (st_setS 3 (es_ixT (es_var 1) (EM.er em_int))))
      (st_seq (st_if (tr_or (tr_not (tr_b (EM.er (em_call (S := S_is_place) mono_is_place (ar_cons (ES.er (es_var 2)) (ar_cons (EM.er (em_cb c_len (ar_cons (ES.er (es_var 0)) ar_nil))) ar_nil)))))) (tr_not (tr_b (EM.er (em_call (S := S_is_place) mono_is_place (ar_cons (ES.er (es_var 3)) (ar_cons (EM.er (em_cb c_len (ar_cons (ES.er (es_var 0)) ar_nil))) ar_nil))))))) (st_ret (M := []) em_bl) st_next)
      (st_ret (M := []) (em_chain o_bl o_bl (EM.er em_int) (ES.er (es_ixT (es_var 1) (EM.er em_int))) (EM.er (em_op o_int (ES.er (es_ixL (es_var 0) (ES.er (es_var 2)))) (ES.er (es_ixL (es_var 0) (ES.er (es_var 3))))))))))) (fun ds P hS => ?_) h⟩
  obtain ⟨xs, g, t, a, rfl, hP⟩ := hS
  rw [show startD N_can_step [dI xs, dS g t a] = [some (dI xs), some (dS g t a), none, none] from rfl]
  unfold dS
  walk_at "v"
  refine ⟨_, _, rfl, ?_⟩
  by_cases hg : 0 ≤ g ∧ g < (xs.length : Int)
  · rw [decide_eq_true hg]
    walk_at "v"
    refine ⟨_, _, rfl, ?_⟩
    by_cases ht : 0 ≤ t ∧ t < (xs.length : Int)
    · rw [decide_eq_true ht]
      walk_at "v"
      split
      · rename_i ha
        refine asO_ints hg (asO_ints ht ?_)
        walk_at "v"
        have e : decide (StepOk xs g t a) = decide (a ≤ xs.getD g.toNat 0 - xs.getD t.toNat 0) := by
          rw [Bool.eq_iff_iff, decide_eq_true_eq, decide_eq_true_eq]
          exact ⟨fun z => z.2.2.2.2.2, fun z => ⟨hg.1, hg.2, ht.1, ht.2, ha, z⟩⟩
        rw [e] at hP; exact hP
      · rename_i ha
        rw [decide_eq_false (fun z => ha z.2.2.2.2.1)] at hP; exact hP
    · rw [decide_eq_false ht]
      walk_at "v"
      rw [decide_eq_false (fun z => ht ⟨z.2.2.1, z.2.2.2.1⟩)] at hP; exact hP
  · rw [decide_eq_false hg]
    walk_at "v"
    rw [decide_eq_false (fun z => hg ⟨z.1, z.2.1⟩)] at hP; exact hP
def S_step_made (c : Cs) : DSX := fun ds P R => ∃ xs g t a, ds = [dI xs, dS g t a] ∧ (StepOk xs g t a → P (dI (Maj.stepped xs g.toNat t.toNat a))) ∧ (¬ StepOk xs g t a → R c.NoStep)
theorem mono_step_made {c : Cs} : DMonoX (S_step_made c) := by
  intro xs P P' R R' k kr h
  obtain ⟨ys, g, t, a, e, h1, h2⟩ := h
  exact ⟨ys, g, t, a, e, fun z => k _ (h1 z), fun z => kr _ (h2 z)⟩
theorem len_step_made {c : Cs} : ∀ ds P R, S_step_made c ds P R → ds.length = 2 := by
  intro ds P R h
  unfold S_step_made at h
  grind
theorem ok_step_made {c : Cs} {f : Addr} {fd : FuncData} (F : FnAt K mg "step_made" s_step_made P_step_made f fd) (A_ : Fns K mg c) (T : Txt K mg) (xs : Exs K mg base c) : FnOk P w K mg base (CXR P w) 3 f fd P_step_made (spX K (S_step_made c)) := by
  obtain ⟨f0, d0, E_can_step⟩ := A_.h_can_step
  have G_can_step : FnOk P w K mg base CX0 2 f0 d0 P_can_step (spP K S_can_step) := ok_can_step E_can_step A_ T xs
  refine F.fn.okX sc_step_made (fun vs H Q E h => spX_len len_step_made h) (fun cdv A outer s H vs Q E hr h => ?_)
  refine ⟨_, (pss_cons (ps_if (PT.nox (pt_not (pt_val (pe_call G_can_step (hr.mono (by decide)) rfl E_can_step.mg E_can_step.fn.kp E_can_step.bd .nil pass0 (pa_cons (pv 0) (pa_cons (pv 1) pa_nil)))))) (pss_one (ps_raise (xs.o_NoStep.own xs.m_NoStep) PySem.F.excBase_ValueError rfl rfl raise_x (pa_cons pe_str pa_nil))) pss_nil)
      (PSs.nox (pss_cons (ps_set (i := 2) sc_step_made.nd rfl (by first | exact Or.inl rfl | exact Or.inr rfl) (pe_callTy (call_listK (K := K) rfl) (by rfl) T.list_ boot_list (pa_cons (pv 0) pa_nil)))
      (pss_cons (ps_asg (pe_op op_sub (pe_ix (ix_listK (K := K) rfl) (pv 2) (pe_ix (ix_tupK (K := K) rfl) (pv 1) pe_int (fun _ _ => rfl)) (fun _ _ => rfl)) (pe_ix (ix_tupK (K := K) rfl) (pv 1) pe_int (fun _ _ => rfl))) (pg_sub (pv 2) (pe_ix (ix_tupK (K := K) rfl) (pv 1) pe_int (fun _ _ => rfl)) set_list))
      (pss_cons (ps_asg (pe_op op_add (pe_ix (ix_listK (K := K) rfl) (pv 2) (pe_ix (ix_tupK (K := K) rfl) (pv 1) pe_int (fun _ _ => rfl)) (fun _ _ => rfl)) (pe_ix (ix_tupK (K := K) rfl) (pv 1) pe_int (fun _ _ => rfl))) (pg_sub (pv 2) (pe_ix (ix_tupK (K := K) rfl) (pv 1) pe_int (fun _ _ => rfl)) set_list))
      (pss_one (ps_ret (pv 2)))))))), fn_valX (Γn := [2]) (N := N_step_made) (fun R => (sx_seq (sx_if (tr_not (tr_b (EM.er (em_call (S := S_can_step) mono_can_step (ar_cons (ES.er (es_var 0)) (ar_cons (ES.er (es_var 1)) ar_nil)))))) (sx_raise (ar_cons (EM.er em_str) ar_nil)) (ST.sx st_next))
      (ST.sx (st_seq (ST.post (Γn := [2]) (st_setM (M := []) 2 (em_cb c_list (ar_cons (ES.er (es_var 0)) ar_nil))))
      (st_seq (st_setItem 2 (em_op o_int (er_ixL (er_var 2) (ES.er (es_ixT (es_var 1) (EM.er em_int)))) (ES.er (es_ixT (es_var 1) (EM.er em_int)))) (ES.er (es_ixT (es_var 1) (EM.er em_int))))
      (st_seq (st_setItem 2 (em_op o_int (er_ixL (er_var 2) (ES.er (es_ixT (es_var 1) (EM.er em_int)))) (ES.er (es_ixT (es_var 1) (EM.er em_int)))) (ES.er (es_ixT (es_var 1) (EM.er em_int))))
      (st_ret (M := [2]) (em_var 2)))))))) (fun ds P R hS => ?_) h⟩
  obtain ⟨xs, g, t, a, rfl, hP, hR⟩ := hS
  rw [show startD N_step_made [dI xs, dS g t a] = [some (dI xs), some (dS g t a), none] from rfl]
  walk_at "v"
  refine ⟨xs, g, t, a, rfl, ?_⟩
  by_cases h : StepOk xs g t a
  · rw [decide_eq_true h]
    obtain ⟨g1, g2, t1, t2, a1, a2⟩ := id h
    have hP := hP h
    walk_at "go"
    refine setItem_ints (r := xs) (a := g) (v := xs.getD g.toNat 0 - a) rfl (fun R h => ?_) (fun R h => ?_) (by omega) ?_
    · unfold dS
      walk_at "v"
      refine asO_ints (by omega) ?_
      walk_at "v"
      exact h
    · unfold dS
      walk_at "v"
      exact h
    · walk_at "v"
      refine setItem_ints (r := xs.set g.toNat (xs.getD g.toNat 0 - a)) (a := t) (v := (xs.set g.toNat (xs.getD g.toNat 0 - a)).getD t.toNat 0 + a) rfl (fun R h => ?_) (fun R h => ?_) (by rw [List.length_set]; omega) ?_
      · unfold dS
        walk_at "v"
        refine asO_ints (by rw [List.length_set]; omega) ?_
        walk_at "v"
        exact h
      · unfold dS
        walk_at "v"
        exact h
      · walk_at "v"
        exact hP
  · rw [decide_eq_false h]
    walk_at "go"
    exact hR h
def dS3 (q : Int × Int × Int) : D := dS q.1 q.2.1 q.2.2
def goL : List Int → List (Int × Int × Int) → Option (List Int)
  | xs, [] => some xs
  | xs, (g, t, a) :: r => if StepOk xs g t a then goL (Maj.stepped xs g.toNat t.toNat a) r else none
theorem goL_ok {xs : List Int} {g t a : Int} {r : List (Int × Int × Int)} (h : StepOk xs g t a) : goL xs ((g, t, a) :: r) = goL (Maj.stepped xs g.toNat t.toNat a) r := by rw [goL, if_pos h]
theorem goL_no {xs : List Int} {g t a : Int} {r : List (Int × Int × Int)} (h : ¬ StepOk xs g t a) : goL xs ((g, t, a) :: r) = none := by rw [goL, if_neg h]
def S_row_behind (c : Cs) : DSX := fun ds P R => ∃ (xs : List Int) (ss : List (Int × Int × Int)), ds = [dI xs, .lst (ss.map dS3)] ∧ (∀ ys, goL xs ss = some ys → P (dI ys)) ∧ (goL xs ss = none → R c.NoStep)
theorem mono_row_behind {c : Cs} : DMonoX (S_row_behind c) := by
  intro xs P P' R R' k kr h
  obtain ⟨ys, ss, e, h1, h2⟩ := h
  exact ⟨ys, ss, e, fun z y => k _ (h1 z y), fun z => kr _ (h2 z)⟩
theorem len_row_behind {c : Cs} : ∀ ds P R, S_row_behind c ds P R → ds.length = 2 := by
  intro ds P R h
  unfold S_row_behind at h
  grind
theorem ok_row_behind {c : Cs} {f : Addr} {fd : FuncData} (F : FnAt K mg "row_behind" s_row_behind P_row_behind f fd) (A_ : Fns K mg c) (T : Txt K mg) (xs : Exs K mg base c) : FnOk P w K mg base (CXR P w) 4 f fd P_row_behind (spXR K (S_row_behind c)) := by
  obtain ⟨f0, d0, E_step_made⟩ := A_.h_step_made
  have G_step_made : FnOk P w K mg base (CXR P w) 3 f0 d0 P_step_made (spX K (S_step_made c)) := ok_step_made E_step_made A_ T xs
  refine F.fn.okX sc_row_behind (fun vs H Q E h => spXR_len len_row_behind h) (fun cdv A outer s H vs Q E hr h => ?_)
  refine ⟨_, (pss_cons (ps_for PassesOwn.leaving rfl (pi_listK (K := K) rfl (pv 1)) (pg_name (i := 2) sc_row_behind.nd rfl (by first | exact Or.inl rfl | exact Or.inr rfl)) (pss_one (ps_set (i := 0) sc_row_behind.nd rfl (by first | exact Or.inl rfl | exact Or.inr rfl) (pe_call G_step_made (hr.mono (by decide)) rfl E_step_made.mg E_step_made.fn.kp E_step_made.bd .nil pass_x (PA.nox (pa_cons (pv 0) (pa_cons (pv 2) pa_nil)))))))
      (PSs.nox (pss_one (ps_ret (pv 0))))), fn_valXR (Γn := []) (N := N_row_behind) (fun R => (sx_seq (sx_for (it_list (es_var 1)) (gt_name 2) (SX.post (Γn := []) (sx_set 0 mono_step_made (ar_cons (ES.er (es_var 0)) (ar_cons (ES.er (es_var 2)) ar_nil)))))
      (ST.sx (st_retR (ES.er (es_var 0)))))) (fun ds P R hS => ?_) h⟩
  obtain ⟨xs, ss, rfl, hP, hR⟩ := hS
  rw [show startD N_row_behind [dI xs, .lst (ss.map dS3)] = [some (dI xs), some (.lst (ss.map dS3)), none] from rfl]
  walk_at "go"
  refine loop_any (as := ss) (f := dS3) (fun i δ => ∃ (zs : List Int) (o2 : Option D), δ = [some (dI zs), some (.lst (ss.map dS3)), o2] ∧ goL zs (ss.drop i) = goL xs ss) ⟨xs, none, rfl, rfl⟩ ?_ ?_
  · rintro i ⟨g, t, a⟩ δ N e ⟨zs, o2, rfl, hW⟩ hN
    obtain ⟨h1, h2⟩ := List.getElem?_eq_some_iff.mp e
    rw [List.drop_eq_getElem_cons h1, h2] at hW
    walk_at "go"
    refine ⟨zs, g, t, a, rfl, fun h => hN _ ⟨_, _, rfl, by rw [← hW, goL_ok h]⟩, fun h => hR (by rw [← hW, goL_no h])⟩
  · rintro δ ⟨zs, o2, rfl, hW⟩
    rw [List.drop_length] at hW
    walk_at "go"
    exact hP zs hW.symm
abbrev stpNs : List Str := ["one", "other", "steps"]
abbrev stpD (c : Cs) (one other : List Int) (ss : List (Int × Int × Int)) : D := .ins c.StepPaper stpNs [dI one, dI other, .lst (ss.map dS3)]
theorem flat_S3 {ss : List (Int × Int × Int)} : (ss.map dS3).all L3.flatD = true := by
  rw [List.all_map, List.all_eq_true]; exact fun _ _ => rfl
def S_StepPaper_init (c : Cs) : DSp := fun ds P => ∃ (one other : List Int) (ss : List (Int × Int × Int)), ds = [dI one, dI other, .lst (ss.map dS3)] ∧ P (stpD c one other ss)
theorem mono_StepPaper_init {c : Cs} : DMono (S_StepPaper_init c) := by
  intro xs P P' k h
  unfold S_StepPaper_init at h ⊢
  grind
theorem len_StepPaper_init {c : Cs} : ∀ ds P, (S_StepPaper_init c) ds P → ds.length = 3 := by
  intro ds P h
  obtain ⟨_, _, _, e, _⟩ := h
  rw [e]; rfl
theorem ins_StepPaper_init {c : Cs} : ∀ ds P, (S_StepPaper_init c) ds P → (S_StepPaper_init c) ds fun d => (∃ ns dd, d = .ins c.StepPaper ns dd) ∧ P d := by
  intro ds P h
  unfold S_StepPaper_init at h ⊢
  grind
theorem ok_StepPaper_init {c : Cs} {f : Addr} {fd : FuncData} (F : MkAt K mg "StepPaper" c.StepPaper "StepPaper.__init__" s_StepPaper_init P_StepPaper_init f fd) (A_ : Fns K mg c) (T : Txt K mg) (xs : Exs K mg base c) : FnOk P w K mg base CX0 1 f fd P_StepPaper_init (spN K c.StepPaper (S_StepPaper_init c)) := by
  refine F.fn.ok sc_StepPaper_init (fun vs H Q E h => spN_len len_StepPaper_init h) (fun cdv A outer s H vs Q E hr h => ?_)
  refine ⟨_, (pss_cons (ps_fldK (K := K) rfl (pv 0) (pe_callTy (call_listK (K := K) rfl) (by rfl) T.list_ boot_list (pa_cons (pv 1) pa_nil)) rfl)
      (pss_cons (ps_fldK (K := K) rfl (pv 0) (pe_callTy (call_listK (K := K) rfl) (by rfl) T.list_ boot_list (pa_cons (pv 2) pa_nil)) rfl)
      (pss_one (ps_fldK (K := K) rfl (pv 0) (pe_callTy (call_listK (K := K) rfl) (by rfl) T.list_ boot_list (pa_cons (pv 3) pa_nil)) rfl)))), fn_ini (N := N_StepPaper_init) (ini_cons xs.i_StepPaper.cl xs.n_StepPaper_one (em_cb c_list (ar_cons (ES.er (es_var 1)) ar_nil)) (ini_cons xs.i_StepPaper.cl xs.n_StepPaper_other (em_cb c_list (ar_cons (ES.er (es_var 2)) ar_nil)) (ini_one xs.i_StepPaper.cl xs.n_StepPaper_steps (em_cb c_listF (ar_cons (ES.er (es_var 3)) ar_nil))))) (fun ds P hS => ?_) (by decide) (by decide +kernel) (by decide) h⟩
  obtain ⟨one, other, ss, rfl, hP⟩ := hS
  rw [show startD (N_StepPaper_init.drop 1) [dI one, dI other, .lst (ss.map dS3)] = [some (dI one), some (dI other), some (.lst (ss.map dS3))] from rfl]
  walk_at "go"
  exact ⟨flat_S3, hP⟩
def S_StepPaper_holds (c : Cs) : DSp := fun ds P => ∃ (one other : List Int) (ss : List (Int × Int × Int)), ds = [stpD c one other ss] ∧ P (.bl (decide (goL other ss = some one)))
theorem mono_StepPaper_holds {c : Cs} : DMono (S_StepPaper_holds c) := by
  intro xs P P' k h
  unfold S_StepPaper_holds at h ⊢
  grind
theorem len_StepPaper_holds {c : Cs} : ∀ ds P, (S_StepPaper_holds c) ds P → ds.length = 1 := by
  intro ds P h
  obtain ⟨_, _, _, e, _⟩ := h
  rw [e]; rfl
theorem ok_StepPaper_holds {c : Cs} {f : Addr} {fd : FuncData} (F : MtAt K c.StepPaper "holds" "StepPaper.holds" s_StepPaper_holds P_StepPaper_holds f fd) (A_ : Fns K mg c) (T : Txt K mg) (xs : Exs K mg base c) : FnOk P w K mg base CX0 5 f fd P_StepPaper_holds (spP K (S_StepPaper_holds c)) := by
  obtain ⟨f0, d0, E_row_behind⟩ := A_.h_row_behind
  have G_row_behind : FnOk P w K mg base (CXR P w) 4 f0 d0 P_row_behind (spXR K (S_row_behind c)) := ok_row_behind E_row_behind A_ T xs
  refine F.fn.ok sc_StepPaper_holds (fun vs H Q E h => spP_len len_StepPaper_holds h) (fun cdv A outer s H vs Q E hr h => ?_)
  refine ⟨_, (pss_one (ps_tryEq rfl rfl G_row_behind (hr.mono (by decide)) rfl E_row_behind.mg E_row_behind.fn.kp E_row_behind.bd (pa_cons (pe_fldK (K := K) rfl (pv 0) rfl) (pa_cons (pe_fldK (K := K) rfl (pv 0) rfl) pa_nil)) (pe_fldK (K := K) rfl (pv 0) rfl) (op_eqL hr.units) xs.o_NoStep xs.o_NoStep xs.m_NoStep rfl (by simp) (fun a oe hc => (pss_one (ps_ret pe_bl))) (nomark _))), fn_val (Γn := []) (N := N_StepPaper_holds) (st_tryEq mono_row_behind o_eqL (ar_cons (ES.er (es_fld ["one", "other", "steps"] 1 xs.i_StepPaper.cl xs.n_StepPaper_other (es_var 0))) (ar_cons (ES.er (es_fld ["one", "other", "steps"] 2 xs.i_StepPaper.cl xs.n_StepPaper_steps (es_var 0))) ar_nil)) (ES.er (es_fld ["one", "other", "steps"] 0 xs.i_StepPaper.cl xs.n_StepPaper_one (es_var 0))) (st_ret (M := []) em_bl)) (fun ds P hS => ?_) h⟩
  obtain ⟨one, other, ss, rfl, hP⟩ := hS
  rw [show startD N_StepPaper_holds [stpD c one other ss] = [some (stpD c one other ss)] from rfl]
  walk_at "go"
  refine ⟨other, ss, rfl, fun ys e => ?_, fun e => ⟨rfl, ?_⟩⟩
  · refine vEqL_ints ?_
    have e2 : decide (goL other ss = some one) = decide (ys = one) := by
      rw [e, Bool.eq_iff_iff, decide_eq_true_eq, decide_eq_true_eq]
      exact ⟨fun z => Option.some.inj z, fun z => by rw [z]⟩
    rw [e2] at hP
    exact hP
  · rw [decide_eq_false (by rw [e]; exact fun z => (nomatch z))] at hP
    exact hP
abbrev barNs : List Str := ["one", "other", "k"]
abbrev barP (c : Cs) (one other : List Int) (k : Int) : D := .ins c.BarPaper barNs [dI one, dI other, .int k]
def S_BarPaper_init (c : Cs) : DSp := fun ds P => ∃ (one other : List Int) (k : Int), ds = [dI one, dI other, .int k] ∧ P (barP c one other k)
theorem mono_BarPaper_init {c : Cs} : DMono (S_BarPaper_init c) := by
  intro xs P P' k h
  unfold S_BarPaper_init at h ⊢
  grind
theorem len_BarPaper_init {c : Cs} : ∀ ds P, (S_BarPaper_init c) ds P → ds.length = 3 := by
  intro ds P h
  obtain ⟨_, _, _, e, _⟩ := h
  rw [e]; rfl
theorem ins_BarPaper_init {c : Cs} : ∀ ds P, (S_BarPaper_init c) ds P → (S_BarPaper_init c) ds fun d => (∃ ns dd, d = .ins c.BarPaper ns dd) ∧ P d := by
  intro ds P h
  unfold S_BarPaper_init at h ⊢
  grind
theorem ok_BarPaper_init {c : Cs} {f : Addr} {fd : FuncData} (F : MkAt K mg "BarPaper" c.BarPaper "BarPaper.__init__" s_BarPaper_init P_BarPaper_init f fd) (A_ : Fns K mg c) (T : Txt K mg) (xs : Exs K mg base c) : FnOk P w K mg base CX0 1 f fd P_BarPaper_init (spN K c.BarPaper (S_BarPaper_init c)) := by
  refine F.fn.ok sc_BarPaper_init (fun vs H Q E h => spN_len len_BarPaper_init h) (fun cdv A outer s H vs Q E hr h => ?_)
  refine ⟨_, (pss_cons (ps_fldK (K := K) rfl (pv 0) (pe_callTy (call_listK (K := K) rfl) (by rfl) T.list_ boot_list (pa_cons (pv 1) pa_nil)) rfl)
      (pss_cons (ps_fldK (K := K) rfl (pv 0) (pe_callTy (call_listK (K := K) rfl) (by rfl) T.list_ boot_list (pa_cons (pv 2) pa_nil)) rfl)
      (pss_one (ps_fldK (K := K) rfl (pv 0) (pv 3) rfl)))), fn_ini (N := N_BarPaper_init) (ini_cons xs.i_BarPaper.cl xs.n_BarPaper_one (em_cb c_list (ar_cons (ES.er (es_var 1)) ar_nil)) (ini_cons xs.i_BarPaper.cl xs.n_BarPaper_other (em_cb c_list (ar_cons (ES.er (es_var 2)) ar_nil)) (ini_one xs.i_BarPaper.cl xs.n_BarPaper_k (ER.scal (ES.er (es_var 3)))))) (fun ds P hS => ?_) (by decide) (by decide +kernel) (by decide) h⟩
  obtain ⟨one, other, k, rfl, hP⟩ := hS
  rw [show startD (N_BarPaper_init.drop 1) [dI one, dI other, .int k] = [some (dI one), some (dI other), some (.int k)] from rfl]
  walk_at "go"
  exact hP
def BarOk (one other : List Int) (k : Int) : Prop := one.length = other.length ∧ one.sum = other.sum ∧ 1 ≤ k ∧ k ≤ one.length ∧ Maj.topk other k.toNat < Maj.topk one k.toNat
instance {one other : List Int} {k : Int} : Decidable (BarOk one other k) := by unfold BarOk; infer_instance
def S_BarPaper_holds (c : Cs) : DSp := fun ds P => ∃ (one other : List Int) (k : Int), ds = [barP c one other k] ∧ one.length < 64 ∧ other.length < 64 ∧ P (.bl (decide (BarOk one other k)))
theorem mono_BarPaper_holds {c : Cs} : DMono (S_BarPaper_holds c) := by
  intro xs P P' k h
  unfold S_BarPaper_holds at h ⊢
  grind
theorem len_BarPaper_holds {c : Cs} : ∀ ds P, (S_BarPaper_holds c) ds P → ds.length = 1 := by
  intro ds P h
  obtain ⟨_, _, _, e, _⟩ := h
  rw [e]; rfl
theorem ok_BarPaper_holds {c : Cs} {f : Addr} {fd : FuncData} (F : MtAt K c.BarPaper "holds" "BarPaper.holds" s_BarPaper_holds P_BarPaper_holds f fd) (A_ : Fns K mg c) (T : Txt K mg) (xs : Exs K mg base c) : FnOk P w K mg base CX0 3 f fd P_BarPaper_holds (spP K (S_BarPaper_holds c)) := by
  obtain ⟨f0, d0, E_heads_of⟩ := A_.h_heads_of
  have G_heads_of : FnOk P w K mg base CX0 2 f0 d0 P_heads_of (spP K S_heads_of) := ok_heads_of E_heads_of A_ T xs
  refine F.fn.ok sc_BarPaper_holds (fun vs H Q E h => spP_len len_BarPaper_holds h) (fun cdv A outer s H vs Q E hr h => ?_)
  refine ⟨_, (pss_cons (ps_if (PW.pt (pw_or (pt_cmpR op_ne (pe_callB (call_lenK (K := K) rfl) (by rfl) T.len_ PySem.boot_len (pa_cons (pe_fldK (K := K) rfl (pv 0) rfl) pa_nil)) (pe_callB (call_lenK (K := K) rfl) (by rfl) T.len_ PySem.boot_len (pa_cons (pe_fldK (K := K) rfl (pv 0) rfl) pa_nil)) (nomark _)) (pw_or1 (pt_cmpR op_ne (pe_callB (call_sumK (K := K) rfl rfl) (by rfl) T.sum_ boot_sum (pa_cons (pe_fldK (K := K) rfl (pv 0) rfl) pa_nil)) (pe_callB (call_sumK (K := K) rfl rfl) (by rfl) T.sum_ boot_sum (pa_cons (pe_fldK (K := K) rfl (pv 0) rfl) pa_nil)) (nomark _))))) (pss_one (ps_ret pe_bl)) pss_nil)
      (pss_cons (ps_if (pt_not (pt_chain op_le op_le pe_int (pe_fldK (K := K) rfl (pv 0) rfl) (pe_callB (call_lenK (K := K) rfl) (by rfl) T.len_ PySem.boot_len (pa_cons (pe_fldK (K := K) rfl (pv 0) rfl) pa_nil)))) (pss_one (ps_ret pe_bl)) pss_nil)
      (pss_one (ps_ret (pe_cmpR op_gt (pe_ix (ix_listK (K := K) rfl) (pe_call G_heads_of (hr.mono (by decide)) rfl E_heads_of.mg E_heads_of.fn.kp E_heads_of.bd .nil pass0 (pa_cons (pe_fldK (K := K) rfl (pv 0) rfl) pa_nil)) (pe_op op_sub (pe_fldK (K := K) rfl (pv 0) rfl) pe_int) (fun _ _ => rfl)) (pe_ix (ix_listK (K := K) rfl) (pe_call G_heads_of (hr.mono (by decide)) rfl E_heads_of.mg E_heads_of.fn.kp E_heads_of.bd .nil pass0 (pa_cons (pe_fldK (K := K) rfl (pv 0) rfl) pa_nil)) (pe_op op_sub (pe_fldK (K := K) rfl (pv 0) rfl) pe_int) (fun _ _ => rfl)) (nomark _)))))), fn_val (Γn := []) (N := N_BarPaper_holds) (st_seq (st_if (tr_or (tr_test (EM.er (em_op o_ne (EM.er (em_cb c_len (ar_cons (ES.er (es_fld ["one", "other", "k"] 0 xs.i_BarPaper.cl xs.n_BarPaper_one (es_var 0))) ar_nil))) (EM.er (em_cb c_len (ar_cons (ES.er (es_fld ["one", "other", "k"] 1 xs.i_BarPaper.cl xs.n_BarPaper_other (es_var 0))) ar_nil)))))) (tr_test (EM.er (em_op o_ne (EM.er (em_cb c_sum (ar_cons (ES.er (es_fld ["one", "other", "k"] 0 xs.i_BarPaper.cl xs.n_BarPaper_one (es_var 0))) ar_nil))) (EM.er (em_cb c_sum (ar_cons (ES.er (es_fld ["one", "other", "k"] 1 xs.i_BarPaper.cl xs.n_BarPaper_other (es_var 0))) ar_nil))))))) (st_ret (M := []) em_bl) st_next)
      (st_seq (st_if (tr_not (tr_test (EM.er (em_chain o_bl o_bl (EM.er em_int) (ES.er (es_fld ["one", "other", "k"] 2 xs.i_BarPaper.cl xs.n_BarPaper_k (es_var 0))) (EM.er (em_cb c_len (ar_cons (ES.er (es_fld ["one", "other", "k"] 0 xs.i_BarPaper.cl xs.n_BarPaper_one (es_var 0))) ar_nil))))))) (st_ret (M := []) em_bl) st_next)
      (st_ret (M := []) (em_op o_bl (ES.er (es_ixL (EM.es (em_call (S := S_heads_of) mono_heads_of (ar_cons (ES.er (es_fld ["one", "other", "k"] 0 xs.i_BarPaper.cl xs.n_BarPaper_one (es_var 0))) ar_nil))) (EM.er (em_op o_int (ES.er (es_fld ["one", "other", "k"] 2 xs.i_BarPaper.cl xs.n_BarPaper_k (es_var 0))) (EM.er em_int))))) (ES.er (es_ixL (EM.es (em_call (S := S_heads_of) mono_heads_of (ar_cons (ES.er (es_fld ["one", "other", "k"] 1 xs.i_BarPaper.cl xs.n_BarPaper_other (es_var 0))) ar_nil))) (EM.er (em_op o_int (ES.er (es_fld ["one", "other", "k"] 2 xs.i_BarPaper.cl xs.n_BarPaper_k (es_var 0))) (EM.er em_int))))))))) (fun ds P hS => ?_) h⟩
  obtain ⟨one, other, k, rfl, h1, h2, hP⟩ := hS
  rw [show startD N_BarPaper_holds [barP c one other k] = [some (barP c one other k)] from rfl]
  walk_at "go"
  by_cases e1 : one.length = other.length
  · rw [if_neg (fun z => z (by rw [e1]))]
    by_cases e2 : one.sum = other.sum
    · rw [if_neg (fun z => z e2)]
      by_cases e3 : 1 ≤ k
      · rw [if_pos e3]
        by_cases e4 : k ≤ (one.length : Int)
        · rw [if_neg (fun z => z e4)]
          have e5 : (k - 1).toNat + 1 = k.toNat := by omega
          refine ⟨one, rfl, h1, ?_⟩
          walk_at "go"
          refine asO_ints (by rw [headsL_len]; omega) ?_
          refine ⟨other, rfl, h2, ?_⟩
          walk_at "go"
          refine asO_ints (by rw [headsL_len]; omega) ?_
          rw [headsL_at (by omega), headsL_at (by omega), e5]
          walk_at "go"
          have e6 : decide (BarOk one other k) = decide (Maj.topk other k.toNat < Maj.topk one k.toNat) := by
            rw [Bool.eq_iff_iff, decide_eq_true_eq, decide_eq_true_eq]
            exact ⟨fun z => z.2.2.2.2, fun z => ⟨e1, e2, e3, e4, z⟩⟩
          rw [e6] at hP
          exact hP
        · rw [if_pos e4]
          rw [decide_eq_false (fun z => e4 z.2.2.2.1)] at hP
          exact hP
      · rw [if_neg e3]
        rw [decide_eq_false (fun z => e3 z.2.2.1)] at hP
        exact hP
    · rw [if_pos e2]
      rw [decide_eq_false (fun z => e2 z.2.1)] at hP
      exact hP
  · rw [if_pos (fun z => e1 (by omega))]
    rw [decide_eq_false (fun z => e1 z.1)] at hP
    exact hP
theorem band_n {a b : Nat} : Builtin.bitAnd (a : Int) (b : Int) = ((a &&& b : Nat) : Int) := by
  unfold Builtin.bitAnd
  rw [decide_eq_true (show (0 : Int) ≤ a by omega), decide_eq_true (show (0 : Int) ≤ b by omega)]
  simp
theorem bor_n {a b : Nat} : Builtin.bitOr (a : Int) (b : Int) = ((a ||| b : Nat) : Int) := by
  unfold Builtin.bitOr Builtin.bitAnd Builtin.bitNot
  rw [decide_eq_false (show ¬ (0 : Int) ≤ -(a : Int) - 1 by omega), decide_eq_false (show ¬ (0 : Int) ≤ -(b : Int) - 1 by omega)]
  simp only
  rw [show (-(-(a : Int) - 1) - 1).toNat = a by omega, show (-(-(b : Int) - 1) - 1).toNat = b by omega]
  omega
theorem bxor_bd {x y : Int} {k : Nat} (hx : 0 ≤ x ∧ x < 2 ^ k) (hy : 0 ≤ y ∧ y < 2 ^ k) : 0 ≤ Builtin.bitXor x y ∧ Builtin.bitXor x y < 2 ^ k := by
  obtain ⟨a, rfl⟩ : ∃ a : Nat, x = a := ⟨x.toNat, by omega⟩
  obtain ⟨b, rfl⟩ : ∃ b : Nat, y = b := ⟨y.toNat, by omega⟩
  have ha : a < 2 ^ k := by have := hx.2; exact_mod_cast this
  have hb : b < 2 ^ k := by have := hy.2; exact_mod_cast this
  unfold Builtin.bitXor
  rw [bor_n, band_n]
  have h1 : a &&& b ≤ a := Nat.and_le_left
  have h2 : a ≤ a ||| b := Nat.left_le_or
  have h3 : a ||| b < 2 ^ k := Nat.or_lt_two_pow ha hb
  have h4 : ((a ||| b : Nat) : Int) < 2 ^ k := by exact_mod_cast h3
  omega
theorem band_bd {x : Int} {m : Nat} (hx : 0 ≤ x) : 0 ≤ Builtin.bitAnd x (m : Int) ∧ Builtin.bitAnd x (m : Int) ≤ m := by
  obtain ⟨a, rfl⟩ : ∃ a : Nat, x = a := ⟨x.toNat, by omega⟩
  rw [band_n]
  have : a &&& m ≤ m := Nat.and_le_right
  omega
def S_law_fold : DSp := fun ds P => ∃ (ns : List Int) (x : Int), ds = [.scr ns, .int x] ∧ 0 ≤ x ∧ x < 2 ^ 64 ∧ ∀ y : Int, 0 ≤ y → y < 2 ^ 64 → P (.int y)
theorem mono_law_fold : DMono S_law_fold := by
  intro xs P P' k h
  unfold S_law_fold at h ⊢
  grind
theorem len_law_fold : ∀ ds P, S_law_fold ds P → ds.length = 2 := by
  intro ds P h
  obtain ⟨_, _, e, _⟩ := h
  rw [e]; rfl
theorem ok_law_fold {c : Cs} {f : Addr} {fd : FuncData} (F : FnAt K mg "_law_fold" s_law_fold P_law_fold f fd) (A_ : Fns K mg c) (T : Txt K mg) (xs : Exs K mg base c) : FnOk P w K mg base CX0 1 f fd P_law_fold (spP K S_law_fold) := by
  refine F.fn.ok sc_law_fold (fun vs H Q E h => spP_len len_law_fold h) (fun cdv A outer s H vs Q E hr h => ?_)
  refine ⟨_, (pss_cons (ps_for PassesOwn.never rfl (pi_listK (K := K) rfl (pv 0)) (pg_name (i := 2) sc_law_fold.nd rfl (by first | exact Or.inl rfl | exact Or.inr rfl)) (pss_cons (ps_set (i := 1) sc_law_fold.nd rfl (by first | exact Or.inl rfl | exact Or.inr rfl) (pe_op op_mod (pe_op op_mulB (pe_op op_xor (pv 1) (pe_op op_mod (pv 2) (pe_op op_pow pe_int pe_int))) pe_int) (pe_op op_pow pe_int pe_int)))
      (pss_one (ps_set (i := 1) sc_law_fold.nd rfl (by first | exact Or.inl rfl | exact Or.inr rfl) (pe_op op_xor (pv 1) (pe_op op_fdivB (pv 1) (pe_op op_pow pe_int pe_int)))))))
      (pss_one (ps_ret (pv 1)))), fn_val (Γn := []) (N := N_law_fold) (st_seq (st_for (it_list (es_var 0)) (gt_name 2) (st_seq (ST.post (Γn := []) (st_setS 1 (EM.es (em_op o_intC (EM.er (em_op o_intC (EM.er (em_op o_int (ES.er (es_var 1)) (EM.er (em_op o_intC (ES.er (es_var 2)) (EM.er (em_op o_intC (EM.er em_int) (EM.er em_int))))))) (EM.er em_int))) (EM.er (em_op o_intC (EM.er em_int) (EM.er em_int)))))))
      (ST.post (Γn := []) (st_setS 1 (EM.es (em_op o_int (ES.er (es_var 1)) (EM.er (em_op o_intC (ES.er (es_var 1)) (EM.er (em_op o_intC (EM.er em_int) (EM.er em_int)))))))))))
      (st_ret (M := []) (ER.scal (ES.er (es_var 1))))) (fun ds P hS => ?_) h⟩
  obtain ⟨ns, x, rfl, h0, h1, hP⟩ := hS
  rw [show startD N_law_fold [.scr ns, .int x] = [some (.scr ns), some (.int x), none] from rfl]
  walk_at "v"
  refine loop_any (as := ns) (f := L3.D.int) (fun i δ => ∃ (y : Int) (o : Option D), δ = [some (.scr ns), some (.int y), o] ∧ 0 ≤ y ∧ y < 2 ^ 64) ⟨x, none, rfl, h0, h1⟩ ?_ ?_
  · rintro i a δ N e ⟨y, o, rfl, h0, h1⟩ hN
    have ha := emod_lt (x := a) (n := 18446744073709551616) (by decide)
    have hb := bxor_bd (k := 64) ⟨h0, h1⟩ (show 0 ≤ a % 18446744073709551616 ∧ a % 18446744073709551616 < 2 ^ 64 from ⟨ha.1, by have := ha.2; omega⟩)
    walk_at "go"
    have hc := emod_lt (x := Builtin.bitXor y (a % 18446744073709551616) * 3935559000370003845) (n := 18446744073709551616) (by decide)
    generalize Builtin.bitXor y (a % 18446744073709551616) * 3935559000370003845 % 18446744073709551616 = z at *
    have hd : 0 ≤ z / 2147483648 ∧ z / 2147483648 < 2 ^ 64 := by omega
    have he := bxor_bd (k := 64) (show 0 ≤ z ∧ z < 2 ^ 64 from ⟨hc.1, by have := hc.2; omega⟩) hd
    exact hN _ ⟨_, _, rfl, he.1, he.2⟩
  · rintro δ ⟨y, o, rfl, h0, h1⟩
    walk_at "v"
    exact hP y h0 h1
def S_law_next : DSp := fun ds P => ∃ x : Int, ds = [.int x] ∧ 0 ≤ x ∧ x < 2 ^ 65 ∧ ∀ y : Int, 0 ≤ y → y < 2 ^ 64 → P (.int y)
theorem mono_law_next : DMono S_law_next := by
  intro xs P P' k h
  unfold S_law_next at h ⊢
  grind
theorem len_law_next : ∀ ds P, S_law_next ds P → ds.length = 1 := by
  intro ds P h
  obtain ⟨_, e, _⟩ := h
  rw [e]; rfl
theorem ok_law_next {c : Cs} {f : Addr} {fd : FuncData} (F : FnAt K mg "_law_next" s_law_next P_law_next f fd) (A_ : Fns K mg c) (T : Txt K mg) (xs : Exs K mg base c) : FnOk P w K mg base CX0 1 f fd P_law_next (spP K S_law_next) := by
  refine F.fn.ok sc_law_next (fun vs H Q E h => spP_len len_law_next h) (fun cdv A outer s H vs Q E hr h => ?_)
  refine ⟨_, (pss_one (ps_ret (pe_op op_mod (pe_op op_mulB (pe_op op_xor (pv 0) (pe_op op_fdivB (pv 0) (pe_op op_pow pe_int pe_int))) pe_int) (pe_op op_pow pe_int pe_int)))), fn_val (Γn := []) (N := N_law_next) (st_ret (M := []) (em_op o_intC (EM.er (em_op o_intC (EM.er (em_op o_int (ES.er (es_var 0)) (EM.er (em_op o_intC (ES.er (es_var 0)) (EM.er (em_op o_intC (EM.er em_int) (EM.er em_int))))))) (EM.er em_int))) (EM.er (em_op o_intC (EM.er em_int) (EM.er em_int))))) (fun ds P hS => ?_) h⟩
  obtain ⟨x, rfl, h0, h1, hP⟩ := hS
  rw [show startD N_law_next [.int x] = [some (.int x)] from rfl]
  have hb := bxor_bd (k := 65) ⟨h0, h1⟩ (show 0 ≤ x / 134217728 ∧ x / 134217728 < 2 ^ 65 by omega)
  walk_at "go"
  try refine ⟨mulC ⟨65, 64, by omega, by decide, by decide⟩, ?_⟩
  walk_at "go"
  have hc := emod_lt (x := Builtin.bitXor x (x / 134217728) * 2685821657736338717) (n := 18446744073709551616) (by decide)
  exact hP _ hc.1 (by have := hc.2; omega)
def Hold (c : Cs) (d : D) (v : Bool) : Prop := (isI c.StepPaper stpNs d ∧ ∀ P : DK, P (.bl v) → S_StepPaper_holds c [d] P) ∨ (isI c.BarPaper barNs d ∧ ∀ P : DK, P (.bl v) → S_BarPaper_holds c [d] P)
def S_law_judged (c : Cs) : DSp := fun ds P => ∃ (d : D) (v : Bool), ds = [d, .bl v] ∧ Hold c d v ∧ P (.bl true)
theorem mono_law_judged {c : Cs} : DMono (S_law_judged c) := by
  intro xs P P' k h
  unfold S_law_judged at h ⊢
  grind
theorem len_law_judged {c : Cs} : ∀ ds P, (S_law_judged c) ds P → ds.length = 2 := by
  intro ds P h
  obtain ⟨_, _, e, _⟩ := h
  rw [e]; rfl
theorem ok_law_judged {c : Cs} {f : Addr} {fd : FuncData} (F : FnAt K mg "_law_judged" s_law_judged P_law_judged f fd) (A_ : Fns K mg c) (T : Txt K mg) (xs : Exs K mg base c) : FnOk P w K mg base CX0 6 f fd P_law_judged (spP K (S_law_judged c)) := by
  obtain ⟨f0, d0, E_StepPaper_holds⟩ := A_.h_StepPaper_holds
  have G_StepPaper_holds : FnOk P w K mg base CX0 5 f0 d0 P_StepPaper_holds (spP K (S_StepPaper_holds c)) := ok_StepPaper_holds E_StepPaper_holds A_ T xs
  obtain ⟨f1, d1, E_BarPaper_holds⟩ := A_.h_BarPaper_holds
  have G_BarPaper_holds : FnOk P w K mg base CX0 3 f1 d1 P_BarPaper_holds (spP K (S_BarPaper_holds c)) := ok_BarPaper_holds E_BarPaper_holds A_ T xs
  refine F.fn.ok sc_law_judged (fun vs H Q E h => spP_len len_law_judged h) (fun cdv A outer s H vs Q E hr h => ?_)
  refine ⟨_, (pss_cons (ps_for PassesOwn.never rfl (pi_range1 rfl T.range_ (pa_cons pe_int pa_nil)) (pg_name (i := 2) sc_law_judged.nd rfl (by first | exact Or.inl rfl | exact Or.inr rfl)) (pss_cons (ps_set (i := 3) sc_law_judged.nd rfl (by first | exact Or.inl rfl | exact Or.inr rfl) (pe_orE (pe_meth0 (pv 0) xs.i_StepPaper.cl E_StepPaper_holds.mt G_StepPaper_holds (hr.mono (by decide)) E_StepPaper_holds.bd .nil pass0) (pe_meth0 (pv 0) xs.i_BarPaper.cl E_BarPaper_holds.mt G_BarPaper_holds (hr.mono (by decide)) E_BarPaper_holds.bd .nil pass0)))
      (pss_one (ps_if (PW.pt (pw_or (pt_not (pt_val (pe_callB (call_isinstK (K := K) rfl) (by rfl) T.isinstance_ boot_isinstance (pa_cons (pv 3) (pa_cons (pe_bltn (v := .ty "bool") rfl T.bool_ boot_bool rfl) pa_nil))))) (pw_or1 (pt_cmpR op_ne (pv 3) (pv 1) (nomark _))))) (pss_one (ps_ret pe_bl)) pss_nil))))
      (pss_one (ps_ret (pe_callB (call_isC (K := K) (P := c.Paper) rfl) (by rfl) T.isinstance_ boot_isinstance (pa_cons (pv 0) (pa_cons (pe_glob (v := .ref c.Paper) rfl xs.m_Paper rfl) pa_nil)))))), fn_val (Γn := []) (N := N_law_judged) (st_seq (st_for (it_rng1 (ar_cons (EM.er em_int) ar_nil)) (gt_name 2) (st_seq (ST.post (Γn := []) (st_setS 3 (EM.es (em_orE (em_meth (C := c.StepPaper) ["one", "other", "steps"] mono_StepPaper_holds (ES.er (es_var 0)) ar_nil) (em_meth (C := c.BarPaper) ["one", "other", "k"] mono_BarPaper_holds (ES.er (es_var 0)) ar_nil)))))
      (st_if (tr_or (tr_not (tr_b (EM.er (em_isinst kit_bool (ES.er (es_var 3)))))) (tr_test (EM.er (em_op o_ne (ES.er (es_var 3)) (ES.er (es_var 1)))))) (st_ret (M := []) em_bl) st_next)))
      (st_ret (M := []) (em_isC _ (isP xs) (ES.er (es_var 0))))) (fun ds P hS => ?_) h⟩
  obtain ⟨d, v, rfl, hH, hP⟩ := hS
  rw [show startD N_law_judged [d, .bl v] = [some (d), some (.bl v), none, none] from rfl]
  walk_at "go"
  refine loop_rng (n := 2) (fun i δ => ∃ o2 o3 : Option D, δ = [some d, some (.bl v), o2, o3]) ⟨none, none, rfl⟩ ?_ ?_
  · rintro i δ N hi ⟨o2, o3, rfl⟩ hN
    walk_at "v"
    rcases hH with ⟨h1, h2⟩ | ⟨h1, h2⟩
    · refine .inl ⟨h1, h2 _ ?_⟩
      walk_at "go"
      exact hN _ ⟨_, _, rfl⟩
    · refine .inr ⟨h1, h2 _ ?_⟩
      walk_at "go"
      exact hN _ ⟨_, _, rfl⟩
  · rintro δ ⟨o2, o3, rfl⟩
    walk_at "v"
    refine ⟨?_, hP⟩
    rcases hH with ⟨h1, _⟩ | ⟨h1, _⟩
    · obtain ⟨ds, rfl⟩ := isI_out h1
      exact ⟨_, _, _, rfl, by simp⟩
    · obtain ⟨ds, rfl⟩ := isI_out h1
      exact ⟨_, _, _, rfl, by simp⟩
def S_law_row : DSp := fun ds P => ∃ x : Int, ds = [.int x] ∧ 0 ≤ x ∧ x < 2 ^ 64 ∧ ∀ xs : List Int, 1 ≤ xs.length → xs.length ≤ 8 → (∀ v ∈ xs, -1000000000000000000 ≤ v ∧ v ≤ 1000000000000000000) → P (dI xs)
theorem mono_law_row : DMono S_law_row := by
  intro xs P P' k h
  obtain ⟨x, e, h0, h1, h⟩ := h
  exact ⟨x, e, h0, h1, fun xs a b d => k _ (h xs a b d)⟩
theorem len_law_row : ∀ ds P, S_law_row ds P → ds.length = 1 := by
  intro ds P h
  obtain ⟨_, e, _⟩ := h
  rw [e]; rfl
theorem ok_law_row {c : Cs} {f : Addr} {fd : FuncData} (F : FnAt K mg "_law_row" s_law_row P_law_row f fd) (A_ : Fns K mg c) (T : Txt K mg) (xs : Exs K mg base c) : FnOk P w K mg base CX0 2 f fd P_law_row (spP K S_law_row) := by
  obtain ⟨f0, d0, E_law_next⟩ := A_.h_law_next
  have G_law_next : FnOk P w K mg base CX0 1 f0 d0 P_law_next (spP K S_law_next) := ok_law_next E_law_next A_ T xs
  refine F.fn.ok sc_law_row (fun vs H Q E h => spP_len len_law_row h) (fun cdv A outer s H vs Q E hr h => ?_)
  refine ⟨_, (pss_cons (ps_set (i := 1) sc_law_row.nd rfl (by first | exact Or.inl rfl | exact Or.inr rfl) (pe_ix (ix_listK (K := K) rfl) (pe_lst (pa_cons pe_int (pa_cons (pe_op op_pow pe_int pe_int) pa_nil))) (pe_op op_and (pe_op op_shr (pv 0) pe_int) pe_int) (fun _ _ => rfl)))
      (pss_cons (ps_set (i := 2) sc_law_row.nd rfl (by first | exact Or.inl rfl | exact Or.inr rfl) (pe_lst pa_nil))
      (pss_cons (ps_for PassesOwn.never rfl (pi_range1 rfl T.range_ (pa_cons (pe_op op_add pe_int (pe_op op_mod (pv 0) pe_int)) pa_nil)) (pg_name (i := 3) sc_law_row.nd rfl (by first | exact Or.inl rfl | exact Or.inr rfl)) (pss_cons (ps_set (i := 0) sc_law_row.nd rfl (by first | exact Or.inl rfl | exact Or.inr rfl) (pe_call G_law_next (hr.mono (by decide)) rfl E_law_next.mg E_law_next.fn.kp E_law_next.bd .nil pass0 (pa_cons (pv 0) pa_nil)))
      (pss_one (ps_expr (pe_bm PySem.F.plainAttrs_list PySem.F.slot_list_append PySem.F.type_list_append mt_append (pv 2) (pa_cons (pe_op op_sub (pe_op op_mod (pe_op op_fdivB (pv 0) pe_int) (pe_op op_add (pe_op op_mulB pe_int (pv 1)) pe_int)) (pv 1)) pa_nil))))))
      (pss_one (ps_ret (pv 2)))))), fn_val (Γn := [2]) (N := N_law_row) (st_seq (ST.post (Γn := []) (st_setS 1 (es_ixL (EM.es (em_lst (am_cons0 em_int (am_cons0 (em_op o_intC (EM.er em_int) (EM.er em_int)) am_nil)))) (EM.er (em_op o_int (EM.er (em_op o_intC (ES.er (es_var 0)) (EM.er em_int))) (EM.er em_int))))))
      (st_seq (ST.post (Γn := [2]) (st_setM (M := []) 2 (em_lst am_nil)))
      (st_seq (st_for (it_rng1 (ar_cons (EM.er (em_op o_int (EM.er em_int) (EM.er (em_op o_intC (ES.er (es_var 0)) (EM.er em_int))))) ar_nil)) (gt_name 3) (st_seq (ST.post (Γn := [2]) (st_setS 0 (EM.es (em_call (S := S_law_next) mono_law_next (ar_cons (ES.er (es_var 0)) ar_nil)))))
      (ST.post (Γn := [2]) (st_append (M := []) 2 (em_op o_int (EM.er (em_op o_intC (EM.er (em_op o_intC (ES.er (es_var 0)) (EM.er em_int))) (EM.er (em_op o_int (EM.er (em_op o_intC (EM.er em_int) (ES.er (es_var 1)))) (EM.er em_int))))) (ES.er (es_var 1)))))))
      (st_ret (M := [2]) (em_var 2))))) (fun ds P hS => ?_) h⟩
  obtain ⟨x, rfl, h0, h1, hP⟩ := hS
  rw [show startD N_law_row [.int x] = [some (.int x), none, none, none] from rfl]
  walk_at "go"
  have hb := band_bd (x := x / 1125899906842624) (m := 1) (by omega)
  have two : ∀ (a : Int) (Q : DK), (a = 0 ∨ a = 1) → (∀ g : Int, 0 ≤ g → g ≤ 1000000000000000000 → Q (.int g)) → asO (atI [L3.D.int 4, L3.D.int 1000000000000000000] a) Q := fun a Q ha hQ => by
    rcases ha with rfl | rfl
    · exact hQ 4 (by decide) (by decide)
    · exact hQ 1000000000000000000 (by decide) (by decide)
  refine two _ _ (by have e : ((1 : Nat) : Int) = 1 := rfl; rw [e] at hb; omega) fun g g0 g1 => ?_
  obtain ⟨n, en⟩ : ∃ n : Nat, (1 + x % 8 : Int) = n := ⟨(1 + x % 8).toNat, by omega⟩
  rw [en, Int.toNat_natCast]
  refine ⟨by omega, by omega, ?_⟩
  refine loop_rng (lo := 0) (n := n) (fun i δ => ∃ (y : Int) (xs : List Int) (o3 : Option D), δ = [some (.int y), some (.int g), some (dI xs), o3] ∧ 0 ≤ y ∧ y < 2 ^ 64 ∧ xs.length = i ∧ ∀ v ∈ xs, -1000000000000000000 ≤ v ∧ v ≤ 1000000000000000000) ⟨x, [], none, rfl, h0, h1, rfl, fun _ h => (nomatch h)⟩ ?_ ?_
  · rintro i δ N hi ⟨y, xs, o3, rfl, y0, y1, hl, hx⟩ hN
    walk_at "go"
    refine ⟨y, rfl, y0, by omega, fun z z0 z1 => ?_⟩
    have hm := emod_lt (x := z / 8) (n := 2 * g + 1) (by omega)
    walk_at "go"
    rw [snoc_dI]
    refine hN _ ⟨z, _, _, rfl, z0, z1, by rw [List.length_append, hl]; rfl, fun v hv => ?_⟩
    rcases List.mem_append.mp hv with q | q
    · exact hx v q
    · rw [List.mem_singleton.mp q]; omega
  · rintro δ ⟨y, xs, o3, rfl, y0, y1, hl, hx⟩
    walk_at "go"
    exact hP xs (by omega) (by omega) hx
def Bd (xs : List Int) : Prop := ∀ v ∈ xs, -1000000000000000000 ≤ v ∧ v ≤ 1000000000000000000
def Am (m : Nat) (ss : List (Int × Int × Int)) : Prop := ∀ q ∈ ss, q.2.2.natAbs < 2 ^ m
theorem goL_app : ∀ {a b : List (Int × Int × Int)} {xs : List Int}, goL xs (a ++ b) = (goL xs a).bind fun ys => goL ys b
  | [], b, xs => rfl
  | (g, t, a) :: r, b, xs => by
    by_cases h : StepOk xs g t a
    · rw [List.cons_append, goL_ok h, goL_ok h]; exact goL_app
    · rw [List.cons_append, goL_no h, goL_no h]; rfl
theorem goL_snoc {xs ys : List Int} {ss : List (Int × Int × Int)} {g t a : Int} (h : goL xs ss = some ys) (hs : StepOk ys g t a) : goL xs (ss ++ [(g, t, a)]) = some (Maj.stepped ys g.toNat t.toNat a) := by
  rw [goL_app, h]
  show goL ys [(g, t, a)] = _
  rw [goL_ok hs]; rfl
theorem goL_len : ∀ {ss : List (Int × Int × Int)} {xs ys : List Int}, goL xs ss = some ys → ys.length = xs.length
  | [], xs, ys, h => by cases h; rfl
  | (g, t, a) :: r, xs, ys, h => by
    by_cases hs : StepOk xs g t a
    · rw [goL_ok hs] at h
      rw [goL_len h, Maj.step_len]
    · rw [goL_no hs] at h; cases h
theorem Bd.getD {xs : List Int} (h : Bd xs) {i : Nat} (hi : i < xs.length) : -1000000000000000000 ≤ xs.getD i 0 ∧ xs.getD i 0 ≤ 1000000000000000000 := by
  rw [List.getD_eq_getElem?_getD, List.getElem?_eq_getElem hi]
  exact h _ (List.getElem_mem hi)
theorem Bd.set {xs : List Int} {i : Nat} {v : Int} (h : Bd xs) (hv : -1000000000000000000 ≤ v ∧ v ≤ 1000000000000000000) : Bd (xs.set i v) := fun x hx => by
  rcases List.mem_or_eq_of_mem_set hx with q | q
  · exact h x q
  · rw [q]; exact hv
theorem Bd.step {xs : List Int} {g t a : Int} (h : Bd xs) (hs : StepOk xs g t a) : Bd (Maj.stepped xs g.toNat t.toNat a) := by
  obtain ⟨g0, g1, t0, t1, a0, a1⟩ := hs
  have b1 := h.getD (i := g.toNat) (by omega)
  have b2 := h.getD (i := t.toNat) (by omega)
  have hne : g.toNat ≠ t.toNat := fun z => by rw [z] at a1; omega
  unfold Maj.stepped
  rw [Maj.getD_set_ne hne]
  exact (h.set (by omega)).set (by omega)
theorem goL_bd : ∀ {ss : List (Int × Int × Int)} {xs ys : List Int}, Bd xs → goL xs ss = some ys → Bd ys
  | [], xs, ys, hb, h => by cases h; exact hb
  | (g, t, a) :: r, xs, ys, hb, h => by
    by_cases hs : StepOk xs g t a
    · rw [goL_ok hs] at h
      exact goL_bd (hb.step hs) h
    · rw [goL_no hs] at h; cases h
theorem at_S3 {ss : List (Int × Int × Int)} {a : Int} {P : DK} (h0 : 0 ≤ a) (h1 : a < ss.length) (h : ∀ q ∈ ss, P (dS3 q)) : asO (atI (ss.map dS3) a) P := by
  refine asO_idx h0 (by rw [List.length_map]; exact h1) ?_
  rw [List.getElem?_map, List.getElem?_eq_getElem (by omega)]
  exact h _ (List.getElem_mem _)
def S_law_steps : DSp := fun ds P => ∃ (xs ns : List Int), ds = [dI xs, .scr ns] ∧ ns.length ≤ 63 ∧ 1 ≤ xs.length ∧ xs.length ≤ 8 ∧ Bd xs ∧ ∀ (ys : List Int) (ss : List (Int × Int × Int)), goL xs ss = some ys → ss.length ≤ 30 → Am 70 ss → P (.lst [dI ys, .lst (ss.map dS3)])
theorem mono_law_steps : DMono S_law_steps := by
  intro xs P P' k h
  obtain ⟨x, ns, e, h0, h1, h2, h3, h⟩ := h
  exact ⟨x, ns, e, h0, h1, h2, h3, fun ys ss a b d => k _ (h ys ss a b d)⟩
theorem len_law_steps : ∀ ds P, S_law_steps ds P → ds.length = 2 := by
  intro ds P h
  obtain ⟨_, _, e, _⟩ := h
  rw [e]; rfl
theorem ok_law_steps {c : Cs} {f : Addr} {fd : FuncData} (F : FnAt K mg "_law_steps" s_law_steps P_law_steps f fd) (A_ : Fns K mg c) (T : Txt K mg) (xs : Exs K mg base c) : FnOk P w K mg base CX0 1 f fd P_law_steps (spP K S_law_steps) := by
  refine F.fn.ok sc_law_steps (fun vs H Q E h => spP_len len_law_steps h) (fun cdv A outer s H vs Q E hr h => ?_)
  refine ⟨_, (pss_cons (ps_set (i := 2) sc_law_steps.nd rfl (by first | exact Or.inl rfl | exact Or.inr rfl) (pe_callTy (call_listK (K := K) rfl) (by rfl) T.list_ boot_list (pa_cons (pv 0) pa_nil)))
      (pss_cons (ps_set (i := 3) sc_law_steps.nd rfl (by first | exact Or.inl rfl | exact Or.inr rfl) (pe_lst pa_nil))
      (pss_cons (ps_for PassesOwn.never rfl (pi_listK (K := K) rfl (pe_slice (sl_listK (K := K) rfl) (pv 1) po_none (po_some pe_int))) (pg_name (i := 4) sc_law_steps.nd rfl (by first | exact Or.inl rfl | exact Or.inr rfl)) (pss_cons (ps_set (i := 5) sc_law_steps.nd rfl (by first | exact Or.inl rfl | exact Or.inr rfl) (pe_op op_mod (pv 4) (pe_callB (call_lenK (K := K) rfl) (by rfl) T.len_ PySem.boot_len (pa_cons (pv 2) pa_nil))))
      (pss_cons (ps_set (i := 6) sc_law_steps.nd rfl (by first | exact Or.inl rfl | exact Or.inr rfl) (pe_op op_mod (pe_op op_fdivB (pv 4) pe_int) (pe_callB (call_lenK (K := K) rfl) (by rfl) T.len_ PySem.boot_len (pa_cons (pv 2) pa_nil))))
      (pss_cons (ps_set (i := 7) sc_law_steps.nd rfl (by first | exact Or.inl rfl | exact Or.inr rfl) (pe_op op_sub (pe_ix (ix_listK (K := K) rfl) (pv 2) (pv 5) (fun _ _ => rfl)) (pe_ix (ix_listK (K := K) rfl) (pv 2) (pv 6) (fun _ _ => rfl))))
      (pss_one (ps_if (pt_cmpR op_gt (pv 7) pe_int (nomark _)) (pss_cons (ps_set (i := 8) sc_law_steps.nd rfl (by first | exact Or.inl rfl | exact Or.inr rfl) (pe_op op_add pe_int (pe_op op_mod (pe_op op_mul (pe_op op_fdivB (pv 4) pe_int) pe_int) (pv 7))))
      (pss_cons (ps_expr (pe_bm PySem.F.plainAttrs_list PySem.F.slot_list_append PySem.F.type_list_append mt_append (pv 3) (pa_cons (pe_tup (pa_cons (pv 5) (pa_cons (pv 6) (pa_cons (pv 8) pa_nil)))) pa_nil)))
      (pss_cons (ps_asg (pe_op op_sub (pe_ix (ix_listK (K := K) rfl) (pv 2) (pv 5) (fun _ _ => rfl)) (pv 8)) (pg_sub (pv 2) (pv 5) set_list))
      (pss_one (ps_asg (pe_op op_add (pe_ix (ix_listK (K := K) rfl) (pv 2) (pv 6) (fun _ _ => rfl)) (pv 8)) (pg_sub (pv 2) (pv 6) set_list)))))) pss_nil))))))
      (pss_one (ps_ret (pe_lst (pa_cons (pv 2) (pa_cons (pv 3) pa_nil)))))))), fn_val (Γn := [3, 2]) (N := N_law_steps) (st_seq (ST.post (Γn := [2]) (st_setM (M := []) 2 (em_cb c_list (ar_cons (ES.er (es_var 0)) ar_nil))))
      (st_seq (ST.post (Γn := [3, 2]) (st_setM (M := []) 3 (em_lst am_nil)))
      (st_seq (st_for (it_list (EM.es (em_sl (ES.er (es_var 1)) or_none (or_some (EM.er em_int))))) (gt_name 4) (st_seq (ST.post (Γn := [3, 2]) (st_setS 5 (EM.es (em_op o_intC (ES.er (es_var 4)) (EM.er (em_cb c_len (ar_cons (er_var 2) ar_nil)))))))
      (st_seq (ST.post (Γn := [3, 2]) (st_setS 6 (EM.es (em_op o_intC (EM.er (em_op o_intC (ES.er (es_var 4)) (EM.er em_int))) (EM.er (em_cb c_len (ar_cons (er_var 2) ar_nil)))))))
      (st_seq (ST.post (Γn := [3, 2]) (st_setS 7 (EM.es (em_op o_int (er_ixL (er_var 2) (ES.er (es_var 5))) (er_ixL (er_var 2) (ES.er (es_var 6)))))))
      (st_if (tr_test (EM.er (em_op o_bl (ES.er (es_var 7)) (EM.er em_int)))) (st_seq (ST.post (Γn := [3, 2]) (st_setS 8 (EM.es (em_op o_int (EM.er em_int) (EM.er (em_op o_intC (EM.er (em_op o_intC (EM.er (em_op o_intC (ES.er (es_var 4)) (EM.er em_int))) (EM.er em_int))) (ES.er (es_var 7))))))))
      (st_seq (ST.post (Γn := [3, 2]) (st_append (M := []) 3 (em_tup (am_cons0 (ER.scal (ES.er (es_var 5))) (am_cons0 (ER.scal (ES.er (es_var 6))) (am_cons0 (ER.scal (ES.er (es_var 8))) am_nil))))))
      (st_seq (st_setItem 2 (em_op o_int (er_ixL (er_var 2) (ES.er (es_var 5))) (ES.er (es_var 8))) (ES.er (es_var 5)))
      (st_setItem 2 (em_op o_int (er_ixL (er_var 2) (ES.er (es_var 6))) (ES.er (es_var 8))) (ES.er (es_var 6)))))) st_next)))))
      (st_ret (M := [2, 3]) (em_lst (am_cons (em_var 2) (am_cons (em_var 3) am_nil))))))) (fun ds P hS => ?_) h⟩
  obtain ⟨xs, ns, rfl, hz, h1, h8, hb, hP⟩ := hS
  rw [show startD N_law_steps [dI xs, .scr ns] = [some (dI xs), some (.scr ns), none, none, none, none, none, none, none] from rfl]
  walk_at "go"
  obtain ⟨ms, em2, hm⟩ := cut_ints (ns := ns) (lo := none) (hi := some 30)
  rw [em2]
  have hml : ms.length ≤ 30 := by
    rw [hm, List.length_take]
    have e : HT.sIx ns.length ns.length (some 30) ≤ 30 := by
      show HT.sIx ns.length ns.length (some ((30 : Nat) : Int)) ≤ 30
      rw [HT.sIx_nat]; omega
    omega
  refine loop_any (as := ms) (f := L3.D.int) (fun i δ => ∃ (ys : List Int) (ss : List (Int × Int × Int)) (o4 o5 o6 o7 o8 : Option D), δ = [some (dI xs), some (.scr ns), some (dI ys), some (.lst (ss.map dS3)), o4, o5, o6, o7, o8] ∧ goL xs ss = some ys ∧ ss.length ≤ i ∧ Am 70 ss) ⟨xs, [], none, none, none, none, none, rfl, rfl, Nat.le_refl _, fun _ h => (nomatch h)⟩ ?_ ?_
  · rintro i c δ N e ⟨ys, ss, o4, o5, o6, o7, o8, rfl, hg, hl, hA⟩ hN
    have hi : i < ms.length := (List.getElem?_eq_some_iff.mp e).1
    have ly := goL_len hg
    have by_ := goL_bd hb hg
    have hg1 := emod_lt (x := c) (n := (ys.length : Int)) (by omega)
    have hg2 := emod_lt (x := c / 8) (n := (ys.length : Int)) (by omega)
    walk_at "go"
    generalize hG : c % (ys.length : Int) = G at hg1 ⊢
    generalize hT : c / 8 % (ys.length : Int) = T at hg2 ⊢
    refine asO_ints (by omega) ?_
    refine asO_ints (by omega) ?_
    walk_at "go"
    have b1 := by_.getD (i := G.toNat) (by omega)
    have b2 := by_.getD (i := T.toNat) (by omega)
    split
    · rename_i hgap
      have hd := emod_lt (x := c / 64 * 7919) (n := ys.getD G.toNat 0 - ys.getD T.toNat 0) (by omega)
      walk_at "go"
      refine ⟨.inr ⟨by decide, by decide⟩, by omega, ?_⟩
      generalize hAm : 1 + c / 64 * 7919 % (ys.getD G.toNat 0 - ys.getD T.toNat 0) = A
      have hA1 : 1 ≤ A ∧ A ≤ ys.getD G.toNat 0 - ys.getD T.toNat 0 := by omega
      have hs : StepOk ys G T A := ⟨by omega, by omega, by omega, by omega, hA1.1, hA1.2⟩
      walk_at "go"
      refine setItem_ints (r := ys) (a := G) (v := ys.getD G.toNat 0 - A) rfl (fun R h => ?_) (fun R h => ?_) (by omega) ?_
      · walk_at "v"
        refine asO_ints (by omega) ?_
        walk_at "v"
        exact h
      · walk_at "v"
        exact h
      walk_at "v"
      refine setItem_ints (r := ys.set G.toNat (ys.getD G.toNat 0 - A)) (a := T) (v := (ys.set G.toNat (ys.getD G.toNat 0 - A)).getD T.toNat 0 + A) rfl (fun R h => ?_) (fun R h => ?_) (by rw [List.length_set]; omega) ?_
      · walk_at "v"
        refine asO_ints (by rw [List.length_set]; omega) ?_
        walk_at "v"
        exact h
      · walk_at "v"
        exact h
      walk_at "v"
      refine hN _ ⟨Maj.stepped ys G.toNat T.toNat A, ss ++ [(G, T, A)], _, _, _, _, _, by rw [List.map_append]; rfl, goL_snoc hg hs, by rw [List.length_append]; exact Nat.succ_le_succ hl, fun q hq => ?_⟩
      rcases List.mem_append.mp hq with z | z
      · exact hA q z
      · rw [List.mem_singleton.mp z]
        show A.natAbs < 2 ^ 70
        omega
    · exact hN _ ⟨ys, ss, _, _, _, _, _, rfl, hg, by omega, hA⟩
  · rintro δ ⟨ys, ss, o4, o5, o6, o7, o8, rfl, hg, hl, hA⟩
    walk_at "go"
    exact hP ys ss hg (by omega) hA
def optD : Option (List Int) → D | some xs => dI xs | none => .non
def S_law_made : DSp := fun ds P => ∃ (xs : List Int) (ss : List (Int × Int × Int)), ds = [dI xs, .lst (ss.map dS3)] ∧ P (optD (goL xs ss))
theorem mono_law_made : DMono S_law_made := by
  intro xs P P' k h
  unfold S_law_made at h ⊢
  grind
theorem len_law_made : ∀ ds P, S_law_made ds P → ds.length = 2 := by
  intro ds P h
  obtain ⟨_, _, e, _⟩ := h
  rw [e]; rfl
theorem ok_law_made {c : Cs} {f : Addr} {fd : FuncData} (F : FnAt K mg "_law_made" s_law_made P_law_made f fd) (A_ : Fns K mg c) (T : Txt K mg) (xs : Exs K mg base c) : FnOk P w K mg base CX0 1 f fd P_law_made (spP K S_law_made) := by
  refine F.fn.ok sc_law_made (fun vs H Q E h => spP_len len_law_made h) (fun cdv A outer s H vs Q E hr h => ?_)
  refine ⟨_, (pss_cons (ps_set (i := 2) sc_law_made.nd rfl (by first | exact Or.inl rfl | exact Or.inr rfl) (pe_callTy (call_listK (K := K) rfl) (by rfl) T.list_ boot_list (pa_cons (pv 0) pa_nil)))
      (pss_cons (ps_for PassesOwn.never rfl (pi_listK (K := K) rfl (pv 1)) (pg_tupK (K := K) rfl rfl (pgs_cons (pg_name (i := 3) sc_law_made.nd rfl (by first | exact Or.inl rfl | exact Or.inr rfl)) (pgs_cons (pg_name (i := 4) sc_law_made.nd rfl (by first | exact Or.inl rfl | exact Or.inr rfl)) (pgs_cons (pg_name (i := 5) sc_law_made.nd rfl (by first | exact Or.inl rfl | exact Or.inr rfl)) pgs_nil)))) (pss_cons (ps_if (PW.pt (pw_or (pt_cmpR op_lt (pe_callB (call_min2 rfl) (by rfl) T.min_ boot_min (pa_cons (pv 3) (pa_cons (pv 4) pa_nil))) pe_int (nomark _)) (pw_or (pt_cmpR op_ge (pe_callB (call_max2 rfl) (by rfl) T.max_ boot_max (pa_cons (pv 3) (pa_cons (pv 4) pa_nil))) (pe_callB (call_lenK (K := K) rfl) (by rfl) T.len_ PySem.boot_len (pa_cons (pv 2) pa_nil)) (nomark _)) (pw_or1 (pt_cmpR op_eq (pv 3) (pv 4) (nomark _)))))) (pss_one (ps_ret pe_non)) pss_nil)
      (pss_cons (ps_if (PW.pt (pw_or (pt_cmpR op_lt (pv 5) pe_int (nomark _)) (pw_or1 (pt_cmpR op_gt (pv 5) (pe_op op_sub (pe_ix (ix_listK (K := K) rfl) (pv 2) (pv 3) (fun _ _ => rfl)) (pe_ix (ix_listK (K := K) rfl) (pv 2) (pv 4) (fun _ _ => rfl))) (nomark _))))) (pss_one (ps_ret pe_non)) pss_nil)
      (pss_cons (ps_asg (pe_op op_sub (pe_ix (ix_listK (K := K) rfl) (pv 2) (pv 3) (fun _ _ => rfl)) (pv 5)) (pg_sub (pv 2) (pv 3) set_list))
      (pss_one (ps_asg (pe_op op_add (pe_ix (ix_listK (K := K) rfl) (pv 2) (pv 4) (fun _ _ => rfl)) (pv 5)) (pg_sub (pv 2) (pv 4) set_list)))))))
      (pss_one (ps_ret (pv 2))))), fn_val (Γn := [2]) (N := N_law_made) (st_seq (ST.post (Γn := [2]) (st_setM (M := []) 2 (em_cb c_list (ar_cons (ES.er (es_var 0)) ar_nil))))
      (st_seq (st_for (it_list (es_var 1)) (gt_tup (gts_cons (gt_name 3) (gts_cons (gt_name 4) (gts_cons (gt_name 5) gts_nil)))) (st_seq (st_if (tr_or (tr_test (EM.er (em_op o_bl (EM.er (em_cb c_min2 (ar_cons (ES.er (es_var 3)) (ar_cons (ES.er (es_var 4)) ar_nil)))) (EM.er em_int)))) (tr_or (tr_test (EM.er (em_op o_bl (EM.er (em_cb c_max2 (ar_cons (ES.er (es_var 3)) (ar_cons (ES.er (es_var 4)) ar_nil)))) (EM.er (em_cb c_len (ar_cons (er_var 2) ar_nil)))))) (tr_test (EM.er (em_op o_eq (ES.er (es_var 3)) (ES.er (es_var 4))))))) (st_ret (M := []) em_non) st_next)
      (st_seq (st_if (tr_or (tr_test (EM.er (em_op o_bl (ES.er (es_var 5)) (EM.er em_int)))) (tr_test (EM.er (em_op o_bl (ES.er (es_var 5)) (EM.er (em_op o_int (er_ixL (er_var 2) (ES.er (es_var 3))) (er_ixL (er_var 2) (ES.er (es_var 4))))))))) (st_ret (M := []) em_non) st_next)
      (st_seq (st_setItem 2 (em_op o_int (er_ixL (er_var 2) (ES.er (es_var 3))) (ES.er (es_var 5))) (ES.er (es_var 3)))
      (st_setItem 2 (em_op o_int (er_ixL (er_var 2) (ES.er (es_var 4))) (ES.er (es_var 5))) (ES.er (es_var 4)))))))
      (st_ret (M := [2]) (em_var 2)))) (fun ds P hS => ?_) h⟩
  obtain ⟨xs, ss, rfl, hP⟩ := hS
  rw [show startD N_law_made [dI xs, .lst (ss.map dS3)] = [some (dI xs), some (.lst (ss.map dS3)), none, none, none, none] from rfl]
  walk_at "go"
  refine loop_any (as := ss) (f := dS3) (fun i δ => ∃ (zs : List Int) (o3 o4 o5 : Option D), δ = [some (dI xs), some (.lst (ss.map dS3)), some (dI zs), o3, o4, o5] ∧ goL zs (ss.drop i) = goL xs ss) ⟨xs, none, none, none, rfl, rfl⟩ ?_ ?_
  · rintro i ⟨g, t, a⟩ δ N e ⟨zs, o3, o4, o5, rfl, hW⟩ hN
    obtain ⟨h1, h2⟩ := List.getElem?_eq_some_iff.mp e
    rw [List.drop_eq_getElem_cons h1, h2] at hW
    have no : ¬ StepOk zs g t a → P .non := fun h => by
      rw [goL_no h] at hW
      rw [← hW] at hP
      exact hP
    rw [show dS3 (g, t, a) = .tup [.int g, .int t, .int a] from rfl]
    walk_at "go"
    by_cases c1 : (if t < g then t else g) < 0
    · rw [if_pos c1]
      exact no fun z => by have := z.1; have := z.2.2.1; split at c1 <;> omega
    rw [if_neg c1]
    by_cases c2 : (zs.length : Int) ≤ if t > g then t else g
    · rw [if_pos c2]
      exact no fun z => by have := z.2.1; have := z.2.2.2.1; split at c2 <;> omega
    rw [if_neg c2]
    have gt : 0 ≤ g ∧ g < zs.length ∧ 0 ≤ t ∧ t < zs.length := by
      split at c1 <;> split at c2 <;> omega
    split
    · rename_i c3
      refine no fun z => ?_
      have z5 := z.2.2.2.2.1
      have z6 := z.2.2.2.2.2
      rw [c3] at z6
      omega
    split
    · rename_i c4
      exact no fun z => by have := z.2.2.2.2.1; omega
    rename_i c4
    refine asO_ints (by omega) ?_
    refine asO_ints (by omega) ?_
    walk_at "go"
    split
    · rename_i c5
      exact no fun z => by have := z.2.2.2.2.2; omega
    rename_i c5
    have hs : StepOk zs g t a := ⟨gt.1, gt.2.1, gt.2.2.1, gt.2.2.2, by omega, by omega⟩
    refine setItem_ints (r := zs) (a := g) (v := zs.getD g.toNat 0 - a) rfl (fun R h => ?_) (fun R h => ?_) (by omega) ?_
    · walk_at "v"
      refine asO_ints (by omega) ?_
      walk_at "v"
      exact h
    · walk_at "v"
      exact h
    walk_at "v"
    refine setItem_ints (r := zs.set g.toNat (zs.getD g.toNat 0 - a)) (a := t) (v := (zs.set g.toNat (zs.getD g.toNat 0 - a)).getD t.toNat 0 + a) rfl (fun R h => ?_) (fun R h => ?_) (by rw [List.length_set]; omega) ?_
    · walk_at "v"
      refine asO_ints (by rw [List.length_set]; omega) ?_
      walk_at "v"
      exact h
    · walk_at "v"
      exact h
    walk_at "v"
    exact hN _ ⟨_, _, _, _, rfl, by rw [← hW, goL_ok hs]; rfl⟩
  · rintro δ ⟨zs, o3, o4, o5, rfl, hW⟩
    rw [List.drop_length] at hW
    walk_at "go"
    rw [← hW] at hP
    exact hP
theorem peel {A R : DS} {E : DEnds} {δ : Dl} (h : ∀ R', R' = R → vSeq A R' E δ) : vSeq A R E δ := h R rfl
theorem ifS {dc : DT} {d e : DS} {E : DEnds} {δ : Dl} (p : Prop) [Decidable p] (ht : ∀ Q : Bool → Prop, Q (decide p) → dc δ Q) (h1 : p → d E δ) (h2 : ¬ p → e E δ) : vIfS dc d e E δ := by
  unfold vIfS
  refine ht _ ?_
  by_cases h : p
  · rw [decide_eq_true h]; exact h1 h
  · rw [decide_eq_false h]; exact h2 h
theorem block {d : DS} {E : DEnds} {δ : Dl} (h : ∀ E', (∀ δ', E.nx δ' → E'.nx δ') → d E' δ) : d E δ := h E fun _ z => z
theorem erase_map {α β : Type} {f : α → β} : ∀ {l : List α} {k : Nat}, (l.map f).eraseIdx k = (l.eraseIdx k).map f
  | [], k => rfl
  | a :: l, 0 => rfl
  | a :: l, k + 1 => by
    show f a :: (l.map f).eraseIdx k = f a :: (l.eraseIdx k).map f
    rw [erase_map]
theorem flat_I {xs : List Int} : (xs.map L3.D.int).all L3.flatD = true := by
  rw [List.all_map, List.all_eq_true]; exact fun _ _ => rfl
theorem Am.up {m : Nat} {ss : List (Int × Int × Int)} (h : Am m ss) : Am (m + 3) ss := fun q hq => by
  have := h q hq
  have e : 2 ^ (m + 3) = 8 * 2 ^ m := by rw [Nat.pow_add]; omega
  omega
theorem Am.set {m j : Nat} {ss : List (Int × Int × Int)} {q : Int × Int × Int} (h : Am m ss) (hq : q.2.2.natAbs < 2 ^ m) : Am m (ss.set j q) := fun p hp => by
  rcases List.mem_or_eq_of_mem_set hp with z | z
  · exact h p z
  · rw [z]; exact hq
theorem at_4 {a : Int} {v0 v1 v2 v3 : Int} {P : DK} (ha : 0 ≤ a ∧ a ≤ 3) (h0 : P (.int v0)) (h1 : P (.int v1)) (h2 : P (.int v2)) (h3 : P (.int v3)) : asO (atI [L3.D.int v0, L3.D.int v1, L3.D.int v2, L3.D.int v3] a) P := by
  rcases (show a = 0 ∨ a = 1 ∨ a = 2 ∨ a = 3 by omega) with rfl | rfl | rfl | rfl
  · exact h0
  · exact h1
  · exact h2
  · exact h3
theorem setItem_S3 {i : Nat} {δ : Dl} {de dx : DE} {E : DEnds} {ss : List (Int × Int × Int)} {a : Int} {Ok : Int × Int × Int → Prop} (hs : δ[i]? = some (some (.lst (ss.map dS3)))) (hde : ∀ R : DK, (∀ q, Ok q → R (dS3 q)) → de δ R) (hdx : ∀ R : DK, R (.int a) → dx δ R) (ha : 0 ≤ a ∧ a < ss.length) (h : ∀ q, Ok q → E.nx (δ.set i (some (.lst ((ss.set a.toNat q).map dS3))))) : vSetItem i de dx E δ := by
  unfold vSetItem
  refine hde _ fun q hq => (slotL_s hs).mpr (hdx _ ?_)
  show match ixN (ss.map dS3).length a with | some j => E.nx (δ.set i (some (.lst ((ss.map dS3).set j (dS3 q))))) | none => False
  rw [ixN_nat ha.1 (by rw [List.length_map]; exact ha.2)]
  show E.nx (δ.set i (some (.lst ((ss.map dS3).set a.toNat (dS3 q)))))
  rw [← List.map_set]; exact h q hq
def S_law_spoiled : DSJ := fun ds P => ∃ (one : List Int) (ss : List (Int × Int × Int)) (x : Int) (m : Nat), ds = [dI one, .lst (ss.map dS3), .int x] ∧ 0 ≤ x ∧ 1 ≤ one.length ∧ one.length ≤ 8 ∧ ss.length ≤ 31 ∧ m ≤ 1000 ∧ Am m ss ∧ ∀ (xs : List Int) (tt : List (Int × Int × Int)), 1 ≤ xs.length → xs.length ≤ 8 → tt.length ≤ 31 → Am (m + 3) tt → P (dI xs) (.lst (tt.map dS3))
theorem mono_law_spoiled : DMonoJ S_law_spoiled := by
  intro xs P P' k h
  obtain ⟨one, ss, x, m, e, h0, h1, h2, h3, h4, h5, h⟩ := h
  exact ⟨one, ss, x, m, e, h0, h1, h2, h3, h4, h5, fun xs tt a b c d => k _ _ (h xs tt a b c d)⟩
theorem len_law_spoiled : ∀ ds P, S_law_spoiled ds P → ds.length = 3 := by
  intro ds P h
  unfold S_law_spoiled at h
  grind
theorem ok_law_spoiled {c : Cs} {f : Addr} {fd : FuncData} (F : FnAt K mg "_law_spoiled" s_law_spoiled P_law_spoiled f fd) (A_ : Fns K mg c) (T : Txt K mg) (xs : Exs K mg base c) : FnOk P w K mg base CX0 1 f fd P_law_spoiled (spJ K S_law_spoiled) := by
  refine F.fn.ok sc_law_spoiled (fun vs H Q E h => spJ_len len_law_spoiled h) (fun cdv A outer s H vs Q E hr h => ?_)
  refine ⟨_, (pss_cons (ps_set (i := 3) sc_law_spoiled.nd rfl (by first | exact Or.inl rfl | exact Or.inr rfl) (pe_op op_mod (pv 2) pe_int))
      (pss_cons (ps_set (i := 4) sc_law_spoiled.nd rfl (by first | exact Or.inl rfl | exact Or.inr rfl) (pe_op op_mod (pe_op op_fdivB (pv 2) pe_int) (pe_callB (call_max2 rfl) (by rfl) T.max_ boot_max (pa_cons pe_int (pa_cons (pe_callB (call_lenK (K := K) rfl) (by rfl) T.len_ PySem.boot_len (pa_cons (pv 1) pa_nil)) pa_nil)))))
      (pss_cons (ps_if (pt_cmpR op_gt (pe_callB (call_lenK (K := K) rfl) (by rfl) T.len_ PySem.boot_len (pa_cons (pv 1) pa_nil)) pe_int (nomark _)) (pss_cons (ps_asg (pe_ix (ix_listK (K := K) rfl) (pv 1) (pv 4) (fun _ _ => rfl)) (pg_tupK (K := K) rfl rfl (pgs_cons (pg_name (i := 5) sc_law_spoiled.nd rfl (by first | exact Or.inl rfl | exact Or.inr rfl)) (pgs_cons (pg_name (i := 6) sc_law_spoiled.nd rfl (by first | exact Or.inl rfl | exact Or.inr rfl)) (pgs_cons (pg_name (i := 7) sc_law_spoiled.nd rfl (by first | exact Or.inl rfl | exact Or.inr rfl)) pgs_nil)))))
      (pss_cons (ps_if (pt_cmpR op_eq (pv 3) pe_int (nomark _)) (pss_one (ps_asg (pe_tup (pa_cons (pv 5) (pa_cons (pv 6) (pa_cons (pe_ix (ix_listK (K := K) rfl) (pe_lst (pa_cons pe_int (pa_cons (pe_un un_neg pe_int) (pa_cons (pe_op op_add (pv 7) pe_int) (pa_cons (pe_op op_add (pe_op op_mulB (pv 7) pe_int) pe_int) pa_nil))))) (pe_op op_and (pe_op op_shr (pv 2) pe_int) pe_int) (fun _ _ => rfl)) pa_nil)))) (pg_sub (pv 1) (pv 4) set_list))) pss_nil)
      (pss_cons (ps_if (pt_cmpR op_eq (pv 3) pe_int (nomark _)) (pss_one (ps_asg (pe_tup (pa_cons (pe_ix (ix_listK (K := K) rfl) (pe_lst (pa_cons (pe_un un_neg pe_int) (pa_cons (pe_callB (call_lenK (K := K) rfl) (by rfl) T.len_ PySem.boot_len (pa_cons (pv 0) pa_nil)) (pa_cons (pv 6) (pa_cons (pe_op op_sub (pv 5) (pe_callB (call_lenK (K := K) rfl) (by rfl) T.len_ PySem.boot_len (pa_cons (pv 0) pa_nil))) pa_nil))))) (pe_op op_and (pe_op op_shr (pv 2) pe_int) pe_int) (fun _ _ => rfl)) (pa_cons (pv 6) (pa_cons (pv 7) pa_nil)))) (pg_sub (pv 1) (pv 4) set_list))) pss_nil)
      (pss_cons (ps_if (pt_cmpR op_eq (pv 3) pe_int (nomark _)) (pss_one (ps_asg (pe_tup (pa_cons (pv 5) (pa_cons (pe_ix (ix_listK (K := K) rfl) (pe_lst (pa_cons (pe_un un_neg pe_int) (pa_cons (pe_callB (call_lenK (K := K) rfl) (by rfl) T.len_ PySem.boot_len (pa_cons (pv 0) pa_nil)) (pa_cons (pv 5) (pa_cons (pe_op op_sub (pv 6) (pe_callB (call_lenK (K := K) rfl) (by rfl) T.len_ PySem.boot_len (pa_cons (pv 0) pa_nil))) pa_nil))))) (pe_op op_and (pe_op op_shr (pv 2) pe_int) pe_int) (fun _ _ => rfl)) (pa_cons (pv 7) pa_nil)))) (pg_sub (pv 1) (pv 4) set_list))) pss_nil)
      (pss_cons (ps_if (pt_cmpR op_eq (pv 3) pe_int (nomark _)) (pss_one (ps_asg (pe_tup (pa_cons (pe_ix (ix_listK (K := K) rfl) (pv 1) pe_int (fun _ _ => rfl)) (pa_cons (pe_ix (ix_listK (K := K) rfl) (pv 1) (pv 4) (fun _ _ => rfl)) pa_nil))) (pg_tupK (K := K) rfl rfl (pgs_cons (pg_sub (pv 1) (pv 4) set_list) (pgs_cons (pg_sub (pv 1) pe_int set_list) pgs_nil))))) pss_nil)
      (pss_one (ps_if (pt_cmpR op_eq (pv 3) pe_int (nomark _)) (pss_one (ps_expr (pe_bm PySem.F.plainAttrs_list PySem.F.slot_list_pop PySem.F.type_list_pop mt_popAt (pv 1) (pa_cons (pv 4) pa_nil)))) pss_nil))))))) pss_nil)
      (pss_cons (ps_if (pt_cmpR op_eq (pv 3) pe_int (nomark _)) (pss_one (ps_asg (pe_op op_mod (pv 2) pe_int) (pg_sub (pv 0) (pe_op op_mod (pe_op op_fdivB (pv 2) pe_int) (pe_callB (call_lenK (K := K) rfl) (by rfl) T.len_ PySem.boot_len (pa_cons (pv 0) pa_nil))) set_list))) pss_nil)
      (pss_one (ps_if (PW.pt (pw_and (pt_cmpR op_eq (pv 3) pe_int (nomark _)) (pw_and1 (pt_cmpR op_lt (pe_callB (call_lenK (K := K) rfl) (by rfl) T.len_ PySem.boot_len (pa_cons (pv 0) pa_nil)) pe_int (nomark _))))) (pss_one (ps_expr (pe_bm PySem.F.plainAttrs_list PySem.F.slot_list_append PySem.F.type_list_append mt_append (pv 0) (pa_cons pe_int pa_nil)))) (pss_one (ps_if (pt_cmpR op_eq (pv 3) pe_int (nomark _)) (pss_one (ps_expr (pe_bm PySem.F.plainAttrs_list PySem.F.slot_list_pop PySem.F.type_list_pop mt_popAt (pv 0) (pa_cons pe_int pa_nil)))) pss_nil)))))))), fn_valJ (Γn := [0, 1]) (N := N_law_spoiled) (st_seq (ST.post (Γn := [0, 1]) (st_setS 3 (EM.es (em_op o_intC (ES.er (es_var 2)) (EM.er em_int)))))
      (st_seq (ST.post (Γn := [0, 1]) (st_setS 4 (EM.es (em_op o_intC (EM.er (em_op o_intC (ES.er (es_var 2)) (EM.er em_int))) (EM.er (em_cb c_max2 (ar_cons (EM.er em_int) (ar_cons (EM.er (em_cb c_len (ar_cons (er_varP 1) ar_nil))) ar_nil))))))))
      (st_seq (st_if (tr_test (EM.er (em_op o_bl (EM.er (em_cb c_len (ar_cons (er_varP 1) ar_nil))) (EM.er em_int)))) (st_seq (st_asgS (EM.es (ER.flat (er_ixL (er_varP 1) (ES.er (es_var 4))))) (gt_tup (gts_cons (gt_name 5) (gts_cons (gt_name 6) (gts_cons (gt_name 7) gts_nil)))))
      (st_seq (st_if (tr_test (EM.er (em_op o_eq (ES.er (es_var 3)) (EM.er em_int)))) (st_pin 1 (st0_setItem 1 (em_tup (am_cons0 (ER.flat (ES.er (es_var 5))) (am_cons0 (ER.flat (ES.er (es_var 6))) (am_cons0 (ER.flat (ES.er (es_ixL (EM.es (em_lst (am_cons0 em_int (am_cons0 (em_un u_int (EM.er em_int)) (am_cons0 (em_op o_int (ES.er (es_var 7)) (EM.er em_int)) (am_cons0 (em_op o_int (EM.er (em_op o_intC (ES.er (es_var 7)) (EM.er em_int))) (EM.er em_int)) am_nil)))))) (EM.er (em_op o_int (EM.er (em_op o_intC (ES.er (es_var 2)) (EM.er em_int))) (EM.er em_int)))))) am_nil)))) (ES.er (es_var 4)))) st_next)
      (st_seq (st_if (tr_test (EM.er (em_op o_eq (ES.er (es_var 3)) (EM.er em_int)))) (st_pin 1 (st0_setItem 1 (em_tup (am_cons0 (ER.flat (ES.er (es_ixL (EM.es (em_lst (am_cons0 (em_un u_int (EM.er em_int)) (am_cons0 (em_cb c_len (ar_cons (er_varP 0) ar_nil)) (am_cons0 (ER.flat (ES.er (es_var 6))) (am_cons0 (em_op o_int (ES.er (es_var 5)) (EM.er (em_cb c_len (ar_cons (er_varP 0) ar_nil)))) am_nil)))))) (EM.er (em_op o_int (EM.er (em_op o_intC (ES.er (es_var 2)) (EM.er em_int))) (EM.er em_int)))))) (am_cons0 (ER.flat (ES.er (es_var 6))) (am_cons0 (ER.flat (ES.er (es_var 7))) am_nil)))) (ES.er (es_var 4)))) st_next)
      (st_seq (st_if (tr_test (EM.er (em_op o_eq (ES.er (es_var 3)) (EM.er em_int)))) (st_pin 1 (st0_setItem 1 (em_tup (am_cons0 (ER.flat (ES.er (es_var 5))) (am_cons0 (ER.flat (ES.er (es_ixL (EM.es (em_lst (am_cons0 (em_un u_int (EM.er em_int)) (am_cons0 (em_cb c_len (ar_cons (er_varP 0) ar_nil)) (am_cons0 (ER.flat (ES.er (es_var 5))) (am_cons0 (em_op o_int (ES.er (es_var 6)) (EM.er (em_cb c_len (ar_cons (er_varP 0) ar_nil)))) am_nil)))))) (EM.er (em_op o_int (EM.er (em_op o_intC (ES.er (es_var 2)) (EM.er em_int))) (EM.er em_int)))))) (am_cons0 (ER.flat (ES.er (es_var 7))) am_nil)))) (ES.er (es_var 4)))) st_next)
      (st_seq (st_if (tr_test (EM.er (em_op o_eq (ES.er (es_var 3)) (EM.er em_int)))) (st_pin 1 (st0_sub2 1 (em_tup (am_cons0 (ER.flat (er_ixL (er_var 1) (EM.er em_int))) (am_cons0 (ER.flat (er_ixL (er_var 1) (ES.er (es_var 4)))) am_nil))) (ES.er (es_var 4)) (EM.er em_int))) st_next)
      (st_if (tr_test (EM.er (em_op o_eq (ES.er (es_var 3)) (EM.er em_int)))) (st_pin 1 (st0_popF 1 (ES.er (es_var 4)))) st_next)))))) st_next)
      (st_seq (st_if (tr_test (EM.er (em_op o_eq (ES.er (es_var 3)) (EM.er em_int)))) (st_pin 0 (st0_setItem 0 (em_op o_intC (ES.er (es_var 2)) (EM.er em_int)) (EM.er (em_op o_intC (EM.er (em_op o_intC (ES.er (es_var 2)) (EM.er em_int))) (EM.er (em_cb c_len (ar_cons (er_var 0) ar_nil))))))) st_next)
      (st_if (tr_and (tr_test (EM.er (em_op o_eq (ES.er (es_var 3)) (EM.er em_int)))) (tr_test (EM.er (em_op o_bl (EM.er (em_cb c_len (ar_cons (er_varP 0) ar_nil))) (EM.er em_int))))) (st_pin 0 (st0_appF 0 (EM.er em_int))) (st_if (tr_test (EM.er (em_op o_eq (ES.er (es_var 3)) (EM.er em_int)))) (st_pin 0 (st0_popF 0 (EM.er em_int))) st_next)))))) (fun ds P a b x y hS hx hy => ?_) (by decide) (by decide) (fun ds P h => by have := len_law_spoiled ds P h; omega) h⟩
  obtain ⟨one, ss, x, m, rfl, x0, o1, o8, s31, m9, hA, hP⟩ := hS
  cases hx
  cases hy
  simp only [List.set_cons_zero, List.set_cons_succ]
  rw [show startD N_law_spoiled [.pin a (dI one), .pin b (.lst (ss.map dS3)), .int x] = [some (.pin a (dI one)), some (.pin b (.lst (ss.map dS3))), some (.int x), none, none, none, none, none] from rfl]
  have z3 : 2 ^ (m + 3) = 8 * 2 ^ m := by rw [Nat.pow_add]; omega
  have z1 : 1 ≤ 2 ^ m := Nat.one_le_two_pow
  refine peel fun R1 e1 => ?_
  walk_at "go"
  subst e1
  refine peel fun R2 e2 => ?_
  walk_at "go"
  subst e2
  have A0 : 0 ≤ x / 8 % (if (ss.length : Int) > 1 then (ss.length : Int) else 1) ∧ ((0 : Int) < ss.length → x / 8 % (if (ss.length : Int) > 1 then (ss.length : Int) else 1) < ss.length) := by
    split
    · have := emod_lt (x := x / 8) (n := (ss.length : Int)) (by omega)
      exact ⟨this.1, fun _ => this.2⟩
    · have := emod_lt (x := x / 8) (n := 1) (by omega)
      exact ⟨this.1, fun _ => by omega⟩
  generalize x / 8 % (if (ss.length : Int) > 1 then (ss.length : Int) else 1) = A at A0 ⊢
  have bb : 0 ≤ Builtin.bitAnd (x / 1099511627776) 3 ∧ Builtin.bitAnd (x / 1099511627776) 3 ≤ 3 := band_bd (x := x / 1099511627776) (m := 3) (by omega)
  generalize hw : x % 8 = wy
  refine peel fun R3 e3 => ?_
  have k3 : ∀ (tt : List (Int × Int × Int)) (o5 o6 o7 : Option D), tt.length ≤ 31 → Am (m + 3) tt → R3 (endsJ a b P) [some (.pin a (dI one)), some (.pin b (.lst (tt.map dS3))), some (.int x), some (.int wy), some (.int A), o5, o6, o7] := by
    subst e3
    intro tt o5 o6 o7 ht hAt
    refine peel fun R4 e4 => ?_
    have k4 : ∀ xs : List Int, 1 ≤ xs.length → xs.length ≤ 8 → R4 (endsJ a b P) [some (.pin a (dI xs)), some (.pin b (.lst (tt.map dS3))), some (.int x), some (.int wy), some (.int A), o5, o6, o7] := by
      subst e4
      intro xs x1 x8
      walk_at "go"
      by_cases h7 : wy = 7
      · rw [if_pos h7]
        by_cases h8 : (xs.length : Int) < 8
        · rw [if_pos h8]
          refine ⟨⟨flat_I, rfl, by omega⟩, ?_⟩
          rw [snoc_dI]
          exact hP (xs ++ [0]) tt (by rw [List.length_append]; omega) (by rw [List.length_append, List.length_singleton]; omega) ht hAt
        · rw [if_neg h8, if_pos h7]
          refine ⟨⟨flat_I, by omega, by omega⟩, ?_⟩
          rw [erase_map]
          have le : (xs.eraseIdx 0).length = xs.length - 1 := List.length_eraseIdx_of_lt (by omega)
          exact hP (xs.eraseIdx 0) tt (by omega) (by omega) ht hAt
      · rw [if_neg h7, if_neg h7]
        exact hP xs tt x1 x8 ht hAt
    refine ifS (wy = 6) (fun Q h => by walk_at "go"; first | exact h | (split <;> simp_all)) (fun _ => ?_) (fun _ => ?_)
    · have ho := emod_lt (x := x / 512) (n := (one.length : Int)) (by omega)
      walk_at "go"
      refine setItem_ints (r := one) (a := x / 512 % (one.length : Int)) (v := x % 9) rfl (fun R h => ?_) (fun R h => ?_) (by omega) ?_
      · walk_at "go"
        exact h
      · walk_at "go"
        exact h
      walk_at "go"
      exact k4 _ (by rw [List.length_set]; exact o1) (by rw [List.length_set]; exact o8)
    · walk_at "go"
      exact k4 one o1 o8
  refine ifS ((0 : Int) < ss.length) (fun Q h => by walk_at "go"; first | exact h | (split <;> simp_all)) (fun hl => ?_) (fun hl => ?_)
  · have hA1 := A0.2 hl
    refine block fun E1 hE => ?_
    refine peel fun R0 e0 => ?_
    walk_at "go"
    refine at_S3 A0.1 hA1 fun q hq => ?_
    obtain ⟨g, t, am⟩ := q
    have hq2 : am.natAbs < 2 ^ m := hA _ hq
    rw [show dS3 (g, t, am) = .tup [.int g, .int t, .int am] from rfl]
    walk_at "go"
    subst e0
    obtain ⟨tt, ht, hAt, es⟩ : ∃ tt : List (Int × Int × Int), tt.length = ss.length ∧ Am (m + 3) tt ∧ tt = ss := ⟨ss, rfl, hA.up, rfl⟩
    rw [← es]
    clear es
    refine peel fun R11 e11 => ?_
    have k11 : ∀ tt : List (Int × Int × Int), tt.length = ss.length → Am (m + 3) tt → R11 E1 [some (.pin a (dI one)), some (.pin b (.lst (tt.map dS3))), some (.int x), some (.int wy), some (.int A), some (.int g), some (.int t), some (.int am)] := by
      subst e11
      clear ht hAt tt
      intro tt ht hAt
      refine peel fun R12 e12 => ?_
      have k12 : ∀ tt : List (Int × Int × Int), tt.length = ss.length → Am (m + 3) tt → R12 E1 [some (.pin a (dI one)), some (.pin b (.lst (tt.map dS3))), some (.int x), some (.int wy), some (.int A), some (.int g), some (.int t), some (.int am)] := by
        subst e12
        clear ht hAt tt
        intro tt ht hAt
        refine peel fun R13 e13 => ?_
        have k13 : ∀ tt : List (Int × Int × Int), tt.length = ss.length → Am (m + 3) tt → R13 E1 [some (.pin a (dI one)), some (.pin b (.lst (tt.map dS3))), some (.int x), some (.int wy), some (.int A), some (.int g), some (.int t), some (.int am)] := by
          subst e13
          clear ht hAt tt
          intro tt ht hAt
          refine peel fun R14 e14 => ?_
          have k14 : ∀ tt : List (Int × Int × Int), tt.length = ss.length → Am (m + 3) tt → R14 E1 [some (.pin a (dI one)), some (.pin b (.lst (tt.map dS3))), some (.int x), some (.int wy), some (.int A), some (.int g), some (.int t), some (.int am)] := by
            subst e14
            clear ht hAt tt
            intro tt ht hAt
            refine ifS (wy = 5) (fun Q h => by walk_at "go"; first | exact h | (split <;> simp_all)) (fun _ => ?_) (fun _ => ?_)
            · walk_at "go"
              refine ⟨⟨flat_S3, A0.1, by omega, by omega⟩, ?_⟩
              rw [erase_map]
              exact hE _ (k3 _ _ _ _ (Nat.le_trans (List.length_eraseIdx_le _ _) (by omega)) fun q hq => hAt q (List.mem_of_mem_eraseIdx hq))
            · walk_at "go"
              exact hE _ (k3 tt _ _ _ (by omega) hAt)
          refine ifS (wy = 4) (fun Q h => by walk_at "go"; first | exact h | (split <;> simp_all)) (fun _ => ?_) (fun _ => ?_)
          · walk_at "go"
            refine at_S3 (by omega) (by omega) fun q1 m1 => ⟨rfl, at_S3 A0.1 (by omega) fun q2 m2 => ⟨rfl, by decide, _, _, rfl, rfl, rfl, flat_S3, ⟨A0.1, by omega⟩, by omega, ?_⟩⟩
            rw [← List.map_set, ← List.map_set]
            exact k14 _ (by rw [List.length_set, List.length_set]; exact ht) ((hAt.set (hAt q1 m1)).set (hAt q2 m2))
          · walk_at "go"
            exact k14 tt ht hAt
        refine ifS (wy = 3) (fun Q h => by walk_at "go"; first | exact h | (split <;> simp_all)) (fun _ => ?_) (fun _ => ?_)
        · walk_at "go"
          refine setItem_S3 (ss := tt) (a := A) (Ok := fun q => q.2.2.natAbs < 2 ^ (m + 3)) rfl (fun R h => ?_) (fun R h => ?_) ⟨A0.1, by omega⟩ fun q hq3 => ?_
          · walk_at "go"
            refine at_4 bb ⟨rfl, by decide, h (g, -1, am) (by show am.natAbs < _; omega)⟩ ⟨rfl, by decide, h (g, (one.length : Int), am) (by show am.natAbs < _; omega)⟩ ⟨rfl, by decide, h (g, g, am) (by show am.natAbs < _; omega)⟩ ⟨rfl, by decide, h (g, t - one.length, am) (by show am.natAbs < _; omega)⟩
          · walk_at "v"
            exact h
          walk_at "go"
          exact k13 _ (by rw [List.length_set]; exact ht) (hAt.set hq3)
        · walk_at "go"
          exact k13 tt ht hAt
      refine ifS (wy = 2) (fun Q h => by walk_at "go"; first | exact h | (split <;> simp_all)) (fun _ => ?_) (fun _ => ?_)
      · walk_at "go"
        refine setItem_S3 (ss := tt) (a := A) (Ok := fun q => q.2.2.natAbs < 2 ^ (m + 3)) rfl (fun R h => ?_) (fun R h => ?_) ⟨A0.1, by omega⟩ fun q hq3 => ?_
        · walk_at "go"
          refine at_4 bb ⟨rfl, by decide, h (-1, t, am) (by show am.natAbs < _; omega)⟩ ⟨rfl, by decide, h ((one.length : Int), t, am) (by show am.natAbs < _; omega)⟩ ⟨rfl, by decide, h (t, t, am) (by show am.natAbs < _; omega)⟩ ⟨rfl, by decide, h (g - one.length, t, am) (by show am.natAbs < _; omega)⟩
        · walk_at "v"
          exact h
        walk_at "go"
        exact k12 _ (by rw [List.length_set]; exact ht) (hAt.set hq3)
      · walk_at "go"
        exact k12 tt ht hAt
    refine ifS (wy = 1) (fun Q h => by walk_at "go"; first | exact h | (split <;> simp_all)) (fun _ => ?_) (fun _ => ?_)
    · walk_at "go"
      refine setItem_S3 (ss := tt) (a := A) (Ok := fun q => q.2.2.natAbs < 2 ^ (m + 3)) rfl (fun R h => ?_) (fun R h => ?_) ⟨A0.1, by omega⟩ fun q hq3 => ?_
      · walk_at "go"
        refine ⟨⟨m, 2, by omega, by decide, by omega⟩, ?_⟩
        walk_at "go"
        refine at_4 (v0 := 0) (v1 := -1) (v2 := am + 1) (v3 := am * 3 + 7) bb ⟨rfl, by decide, h (g, t, 0) (by show (0 : Int).natAbs < _; omega)⟩ ⟨rfl, by decide, h (g, t, -1) (by show (-1 : Int).natAbs < _; omega)⟩ ⟨rfl, by decide, h (g, t, am + 1) (by show (am + 1).natAbs < _; omega)⟩ ⟨rfl, by decide, h (g, t, am * 3 + 7) (by show (am * 3 + 7).natAbs < _; omega)⟩
      · walk_at "v"
        exact h
      walk_at "go"
      exact k11 _ (by rw [List.length_set]; exact ht) (hAt.set hq3)
    · walk_at "go"
      exact k11 tt ht hAt
  · walk_at "go"
    exact k3 ss _ _ _ s31 hA.up
theorem asc_top {ms one : List Int} {k : Nat} (hp : ms.Perm one) (ho : ms.Pairwise (· ≤ ·)) : (ms.drop (one.length - k)).sum = Maj.topk one k := by
  have e : ms.reverse = fall one := fall_eq ((List.reverse_perm ms).trans hp) (List.pairwise_reverse.mpr ho)
  unfold Maj.topk
  rw [← e, List.take_reverse, List.sum_reverse, hp.length_eq]
def S_law_barred : DSp := fun ds P => ∃ (one other : List Int) (k : Int), ds = [dI one, dI other, .int k] ∧ one.length < 64 ∧ other.length < 64 ∧ P (.bl (decide (BarOk one other k)))
theorem mono_law_barred : DMono S_law_barred := by
  intro xs P P' k h
  unfold S_law_barred at h ⊢
  grind
theorem len_law_barred : ∀ ds P, S_law_barred ds P → ds.length = 3 := by
  intro ds P h
  obtain ⟨_, _, _, e, _⟩ := h
  rw [e]; rfl
theorem ok_law_barred {c : Cs} {f : Addr} {fd : FuncData} (F : FnAt K mg "_law_barred" s_law_barred P_law_barred f fd) (A_ : Fns K mg c) (T : Txt K mg) (xs : Exs K mg base c) : FnOk P w K mg base CX0 1 f fd P_law_barred (spP K S_law_barred) := by
  refine F.fn.ok sc_law_barred (fun vs H Q E h => spP_len len_law_barred h) (fun cdv A outer s H vs Q E hr h => ?_)
  refine ⟨_, (pss_cons (ps_if (PW.pt (pw_or (pt_cmpR op_ne (pe_callB (call_lenK (K := K) rfl) (by rfl) T.len_ PySem.boot_len (pa_cons (pv 0) pa_nil)) (pe_callB (call_lenK (K := K) rfl) (by rfl) T.len_ PySem.boot_len (pa_cons (pv 1) pa_nil)) (nomark _)) (pw_or (pt_cmpR op_ne (pe_callB (call_sumK (K := K) rfl rfl) (by rfl) T.sum_ boot_sum (pa_cons (pv 0) pa_nil)) (pe_callB (call_sumK (K := K) rfl rfl) (by rfl) T.sum_ boot_sum (pa_cons (pv 1) pa_nil)) (nomark _)) (pw_or (pt_cmpR op_lt (pv 2) pe_int (nomark _)) (pw_or1 (pt_cmpR op_gt (pv 2) (pe_callB (call_lenK (K := K) rfl) (by rfl) T.len_ PySem.boot_len (pa_cons (pv 0) pa_nil)) (nomark _))))))) (pss_one (ps_ret pe_bl)) pss_nil)
      (pss_one (ps_ret (pe_cmpR op_gt (pe_callB (call_sumK (K := K) rfl rfl) (by rfl) T.sum_ boot_sum (pa_cons (pe_slice (sl_listK (K := K) rfl) (pe_callB (call_sortedK (K := K) rfl) (by rfl) T.sorted_ boot_sorted (pa_cons (pv 0) pa_nil)) (po_some (pe_op op_sub (pe_callB (call_lenK (K := K) rfl) (by rfl) T.len_ PySem.boot_len (pa_cons (pv 0) pa_nil)) (pv 2))) po_none) pa_nil)) (pe_callB (call_sumK (K := K) rfl rfl) (by rfl) T.sum_ boot_sum (pa_cons (pe_slice (sl_listK (K := K) rfl) (pe_callB (call_sortedK (K := K) rfl) (by rfl) T.sorted_ boot_sorted (pa_cons (pv 1) pa_nil)) (po_some (pe_op op_sub (pe_callB (call_lenK (K := K) rfl) (by rfl) T.len_ PySem.boot_len (pa_cons (pv 1) pa_nil)) (pv 2))) po_none) pa_nil)) (nomark _))))), fn_val (Γn := []) (N := N_law_barred) (st_seq (st_if (tr_or (tr_test (EM.er (em_op o_ne (EM.er (em_cb c_len (ar_cons (ES.er (es_var 0)) ar_nil))) (EM.er (em_cb c_len (ar_cons (ES.er (es_var 1)) ar_nil)))))) (tr_or (tr_test (EM.er (em_op o_ne (EM.er (em_cb c_sum (ar_cons (ES.er (es_var 0)) ar_nil))) (EM.er (em_cb c_sum (ar_cons (ES.er (es_var 1)) ar_nil)))))) (tr_or (tr_test (EM.er (em_op o_bl (ES.er (es_var 2)) (EM.er em_int)))) (tr_test (EM.er (em_op o_bl (ES.er (es_var 2)) (EM.er (em_cb c_len (ar_cons (ES.er (es_var 0)) ar_nil))))))))) (st_ret (M := []) em_bl) st_next)
      (st_ret (M := []) (em_op o_bl (EM.er (em_cb c_sum (ar_cons (EM.er (em_sl (EM.er (em_cb c_sort (ar_cons (ES.er (es_var 0)) ar_nil))) (or_some (EM.er (em_op o_int (EM.er (em_cb c_len (ar_cons (ES.er (es_var 0)) ar_nil))) (ES.er (es_var 2))))) or_none)) ar_nil))) (EM.er (em_cb c_sum (ar_cons (EM.er (em_sl (EM.er (em_cb c_sort (ar_cons (ES.er (es_var 1)) ar_nil))) (or_some (EM.er (em_op o_int (EM.er (em_cb c_len (ar_cons (ES.er (es_var 1)) ar_nil))) (ES.er (es_var 2))))) or_none)) ar_nil)))))) (fun ds P hS => ?_) h⟩
  obtain ⟨one, other, k, rfl, h1, h2, hP⟩ := hS
  rw [show startD N_law_barred [dI one, dI other, .int k] = [some (dI one), some (dI other), some (.int k)] from rfl]
  walk_at "go"
  by_cases e1 : one.length = other.length
  · rw [if_neg (fun z => z (by rw [e1]))]
    by_cases e2 : one.sum = other.sum
    · rw [if_neg (fun z => z e2)]
      by_cases e3 : k < 1
      · rw [if_pos e3]
        rw [decide_eq_false (fun z => by have := z.2.2.1; omega)] at hP
        exact hP
      · rw [if_neg e3]
        by_cases e4 : (one.length : Int) < k
        · rw [if_pos e4]
          rw [decide_eq_false (fun z => by have := z.2.2.2.1; omega)] at hP
          exact hP
        · rw [if_neg e4]
          refine ⟨h1, fun ms p1 p2 => ⟨scal_ints, ?_⟩⟩
          rw [cutD_from (by omega) (by rw [List.length_map, p1.length_eq]; omega), ← List.map_drop]
          walk_at "go"
          intro ms2 p3 p4
          refine ⟨scal_ints, ?_⟩
          rw [cutD_from (by omega) (by rw [List.length_map, p3.length_eq]; omega), ← List.map_drop]
          walk_at "go"
          have t1 := asc_top (k := k.toNat) p1 p2
          have t2 := asc_top (k := k.toNat) p3 p4
          rw [show ((one.length : Int) - k).toNat = one.length - k.toNat by omega, show ((other.length : Int) - k).toNat = other.length - k.toNat by omega, t1, t2]
          have e6 : decide (BarOk one other k) = decide (Maj.topk other k.toNat < Maj.topk one k.toNat) := by
            rw [Bool.eq_iff_iff, decide_eq_true_eq, decide_eq_true_eq]
            exact ⟨fun z => z.2.2.2.2, fun z => ⟨e1, e2, by omega, by omega, z⟩⟩
          rw [e6] at hP
          exact hP
    · rw [if_pos e2]
      rw [decide_eq_false (fun z => e2 z.2.1)] at hP
      exact hP
  · rw [if_pos (fun z => e1 (by omega))]
    rw [decide_eq_false (fun z => e1 z.1)] at hP
    exact hP
def Bent (n : Nat) (q : Int × Int × Int) : Prop := (q.2.2 < 1 ∨ q.2.2 = 100000000000000000000 ∨ q.1 = q.2.1 ∨ q.1 < 0) ∧ -(n : Int) ≤ q.1 ∧ q.1 < n ∧ 0 ≤ q.2.1 ∧ q.2.1 < n
theorem bent_mk {n : Nat} {G T A : Int} (h : A < 1 ∨ A = 100000000000000000000 ∨ G = T ∨ G < 0) (g1 : -(n : Int) ≤ G) (g2 : G < n) (t1 : 0 ≤ T) (t2 : T < n) : Bent n (G, T, A) := ⟨h, g1, g2, t1, t2⟩
theorem put_tail {ss : List (Int × Int × Int)} {G T A j : Int} {P : DK} (h0 : 0 ≤ j) (h1 : j ≤ ss.length) (hs : ss.length ≤ 30) (hP : P (.lst ((ss.take j.toNat ++ [(G, T, A)] ++ ss.drop j.toNat).map dS3))) :
    asLst (some (L3.D.lst (ss.map dS3))) fun ds => ds.all L3.flatD = true ∧ 0 + 1 + 1 + 1 ≤ 1000 ∧ 0 + 1 ≤ 1000 ∧ ((L3.cutD ds none (some j)).all L3.flatD = true ∧ [L3.D.tup [L3.D.int G, L3.D.int T, L3.D.int A]].all L3.flatD = true ∧ (L3.cutD ds none (some j)).length + (0 + 1) ≤ 1000) ∧
      asLst (some (L3.D.lst (ss.map dS3))) fun ds_1 => ds_1.all L3.flatD = true ∧ ((L3.cutD ds none (some j) ++ [L3.D.tup [L3.D.int G, L3.D.int T, L3.D.int A]]).all L3.flatD = true ∧ (L3.cutD ds_1 (some j) none).all L3.flatD = true ∧ (L3.cutD ds none (some j) ++ [L3.D.tup [L3.D.int G, L3.D.int T, L3.D.int A]]).length + (L3.cutD ds_1 (some j) none).length ≤ 1000) ∧
        P (L3.D.lst (L3.cutD ds none (some j) ++ [L3.D.tup [L3.D.int G, L3.D.int T, L3.D.int A]] ++ L3.cutD ds_1 (some j) none)) := by
  refine asLst_in (es := ss.map dS3) rfl ⟨flat_S3, by decide, by decide, ?_, asLst_in (es := ss.map dS3) rfl ⟨flat_S3, ?_, ?_⟩⟩
  · rw [cutD_to h0, ← List.map_take]
    exact ⟨flat_S3, rfl, by rw [List.length_map, List.length_take]; omega⟩
  · rw [cutD_to h0, cutD_from h0 (by rw [List.length_map]; exact h1), ← List.map_take, ← List.map_drop]
    refine ⟨?_, flat_S3, by rw [List.length_append, List.length_map, List.length_map, List.length_take, List.length_drop]; simp only [List.length_cons, List.length_nil]; omega⟩
    rw [List.all_append, flat_S3]; rfl
  · rw [cutD_to h0, cutD_from h0 (by rw [List.length_map]; exact h1), ← List.map_take, ← List.map_drop]
    rw [List.map_append, List.map_append] at hP
    exact hP
def S_law_put_in : DSp := fun ds P => ∃ (xs : List Int) (ss : List (Int × Int × Int)) (x : Int), ds = [dI xs, .lst (ss.map dS3), .int x] ∧ 0 ≤ x ∧ 1 ≤ xs.length ∧ xs.length ≤ 8 ∧ ss.length ≤ 30 ∧ ∀ (k : Nat) (q : Int × Int × Int), Bent xs.length q → P (.lst ((ss.take k ++ [q] ++ ss.drop k).map dS3))
theorem mono_law_put_in : DMono S_law_put_in := by
  intro xs P P' k h
  obtain ⟨one, ss, x, e, h0, h1, h2, h3, h⟩ := h
  exact ⟨one, ss, x, e, h0, h1, h2, h3, fun j q a => k _ (h j q a)⟩
theorem len_law_put_in : ∀ ds P, S_law_put_in ds P → ds.length = 3 := by
  intro ds P h
  obtain ⟨_, _, _, e, _⟩ := h
  rw [e]; rfl
theorem ok_law_put_in {c : Cs} {f : Addr} {fd : FuncData} (F : FnAt K mg "_law_put_in" s_law_put_in P_law_put_in f fd) (A_ : Fns K mg c) (T : Txt K mg) (xs : Exs K mg base c) : FnOk P w K mg base CX0 1 f fd P_law_put_in (spP K S_law_put_in) := by
  refine F.fn.ok sc_law_put_in (fun vs H Q E h => spP_len len_law_put_in h) (fun cdv A outer s H vs Q E hr h => ?_)
  refine ⟨_, (pss_cons (ps_set (i := 3) sc_law_put_in.nd rfl (by first | exact Or.inl rfl | exact Or.inr rfl) (pe_callB (call_lenK (K := K) rfl) (by rfl) T.len_ PySem.boot_len (pa_cons (pv 0) pa_nil)))
      (pss_cons (ps_set (i := 4) sc_law_put_in.nd rfl (by first | exact Or.inl rfl | exact Or.inr rfl) (pe_op op_mod (pe_op op_fdivB (pv 2) pe_int) (pe_op op_add (pe_callB (call_lenK (K := K) rfl) (by rfl) T.len_ PySem.boot_len (pa_cons (pv 1) pa_nil)) pe_int)))
      (pss_cons (ps_set (i := 5) sc_law_put_in.nd rfl (by first | exact Or.inl rfl | exact Or.inr rfl) (pe_op op_mod (pe_op op_fdivB (pv 2) (pe_op op_pow pe_int pe_int)) pe_int))
      (pss_cons (ps_set (i := 6) sc_law_put_in.nd rfl (by first | exact Or.inl rfl | exact Or.inr rfl) (pe_op op_mod (pv 2) (pv 3)))
      (pss_cons (ps_set (i := 7) sc_law_put_in.nd rfl (by first | exact Or.inl rfl | exact Or.inr rfl) (pe_op op_mod (pe_op op_add (pe_op op_add (pv 6) pe_int) (pe_op op_mod (pe_op op_fdivB (pv 2) pe_int) (pe_callB (call_max2 rfl) (by rfl) T.max_ boot_max (pa_cons pe_int (pa_cons (pe_op op_sub (pv 3) pe_int) pa_nil))))) (pv 3)))
      (pss_cons (ps_set (i := 8) sc_law_put_in.nd rfl (by first | exact Or.inl rfl | exact Or.inr rfl) (pe_ix (ix_listK (K := K) rfl) (pe_lst (pa_cons pe_int (pa_cons (pe_un un_neg pe_int) (pa_cons (pe_op op_sub pe_int (pe_op op_mod (pv 2) (pe_op op_pow pe_int pe_int))) (pa_cons (pe_op op_pow pe_int pe_int) (pa_cons pe_int (pa_cons pe_int pa_nil))))))) (pv 5) (fun _ _ => rfl)))
      (pss_cons (ps_if (pt_cmpR op_eq (pv 5) pe_int (nomark _)) (pss_one (ps_set (i := 7) sc_law_put_in.nd rfl (by first | exact Or.inl rfl | exact Or.inr rfl) (pv 6))) pss_nil)
      (pss_cons (ps_if (pt_cmpR op_eq (pv 5) pe_int (nomark _)) (pss_one (ps_set (i := 6) sc_law_put_in.nd rfl (by first | exact Or.inl rfl | exact Or.inr rfl) (pe_op op_sub (pv 6) (pv 3)))) pss_nil)
      (pss_one (ps_ret (pe_op op_cat (pe_op op_cat (pe_slice (sl_listK (K := K) rfl) (pv 1) po_none (po_some (pv 4))) (pe_lst (pa_cons (pe_tup (pa_cons (pv 6) (pa_cons (pv 7) (pa_cons (pv 8) pa_nil)))) pa_nil))) (pe_slice (sl_listK (K := K) rfl) (pv 1) (po_some (pv 4)) po_none)))))))))))), fn_val (Γn := []) (N := N_law_put_in) (st_seq (ST.post (Γn := []) (st_setS 3 (EM.es (em_cb c_len (ar_cons (ES.er (es_var 0)) ar_nil)))))
      (st_seq (ST.post (Γn := []) (st_setS 4 (EM.es (em_op o_intC (EM.er (em_op o_intC (ES.er (es_var 2)) (EM.er em_int))) (EM.er (em_op o_int (EM.er (em_cb c_len (ar_cons (ES.er (es_var 1)) ar_nil))) (EM.er em_int)))))))
      (st_seq (ST.post (Γn := []) (st_setS 5 (EM.es (em_op o_intC (EM.er (em_op o_intC (ES.er (es_var 2)) (EM.er (em_op o_intC (EM.er em_int) (EM.er em_int))))) (EM.er em_int)))))
      (st_seq (ST.post (Γn := []) (st_setS 6 (EM.es (em_op o_intC (ES.er (es_var 2)) (ES.er (es_var 3))))))
      (st_seq (ST.post (Γn := []) (st_setS 7 (EM.es (em_op o_intC (EM.er (em_op o_int (EM.er (em_op o_int (ES.er (es_var 6)) (EM.er em_int))) (EM.er (em_op o_intC (EM.er (em_op o_intC (ES.er (es_var 2)) (EM.er em_int))) (EM.er (em_cb c_max2 (ar_cons (EM.er em_int) (ar_cons (EM.er (em_op o_int (ES.er (es_var 3)) (EM.er em_int))) ar_nil)))))))) (ES.er (es_var 3))))))
      (st_seq (ST.post (Γn := []) (st_setS 8 (es_ixL (EM.es (em_lst (am_cons0 em_int (am_cons0 (em_un u_int (EM.er em_int)) (am_cons0 (em_op o_int (EM.er em_int) (EM.er (em_op o_intC (ES.er (es_var 2)) (EM.er (em_op o_intC (EM.er em_int) (EM.er em_int)))))) (am_cons0 (em_op o_intC (EM.er em_int) (EM.er em_int)) (am_cons0 em_int (am_cons0 em_int am_nil)))))))) (ES.er (es_var 5)))))
      (st_seq (st_if (tr_test (EM.er (em_op o_eq (ES.er (es_var 5)) (EM.er em_int)))) (ST.post (Γn := []) (st_setS 7 (es_var 6))) st_next)
      (st_seq (st_if (tr_test (EM.er (em_op o_eq (ES.er (es_var 5)) (EM.er em_int)))) (ST.post (Γn := []) (st_setS 6 (EM.es (em_op o_int (ES.er (es_var 6)) (ES.er (es_var 3)))))) st_next)
      (st_ret (M := []) (em_op o_catF (EM.er (em_op o_catF (EM.er (em_slF (ES.er (es_var 1)) or_none (or_some (ES.er (es_var 4))))) (EM.er (em_lst (am_cons0 (em_tup (am_cons0 (ER.scal (ES.er (es_var 6))) (am_cons0 (ER.scal (ES.er (es_var 7))) (am_cons0 (ER.scal (ES.er (es_var 8))) am_nil)))) am_nil))))) (EM.er (em_slF (ES.er (es_var 1)) (or_some (ES.er (es_var 4))) or_none)))))))))))) (fun ds P hS => ?_) h⟩
  obtain ⟨xs, ss, x, rfl, x0, n1, n8, s30, hP⟩ := hS
  rw [show startD N_law_put_in [dI xs, .lst (ss.map dS3), .int x] = [some (dI xs), some (.lst (ss.map dS3)), some (.int x), none, none, none, none, none, none] from rfl]
  walk_at "go"
  have j0 := emod_lt (x := x / 64) (n := (ss.length : Int) + 1) (by omega)
  have g0 := emod_lt (x := x) (n := (xs.length : Int)) (by omega)
  have t0 := emod_lt (x := x % (xs.length : Int) + 1 + x / 8 % (if (xs.length : Int) - 1 > 1 then (xs.length : Int) - 1 else 1)) (n := (xs.length : Int)) (by omega)
  have kd := emod_lt (x := x / 1048576) (n := 6) (by decide)
  have h9 := emod_lt (x := x) (n := 1000000000) (by decide)
  generalize x / 1048576 % 6 = kk at kd ⊢
  rcases (show kk = 0 ∨ kk = 1 ∨ kk = 2 ∨ kk = 3 ∨ kk = 4 ∨ kk = 5 by omega) with rfl | rfl | rfl | rfl | rfl | rfl
  · have e := put_tail (ss := ss) (G := (x % (xs.length : Int))) (T := ((x % (xs.length : Int) + 1 + x / 8 % (if (xs.length : Int) - 1 > 1 then (xs.length : Int) - 1 else 1)) % (xs.length : Int))) (A := 0) (j := x / 64 % ((ss.length : Int) + 1)) (P := P) j0.1 (by omega) s30 (hP _ _ (bent_mk (.inl (by decide)) (by omega) (by omega) (by omega) (by omega)))
    show asO (some (L3.D.int (0))) _
    walk_at "go"
    exact e
  · have e := put_tail (ss := ss) (G := (x % (xs.length : Int))) (T := ((x % (xs.length : Int) + 1 + x / 8 % (if (xs.length : Int) - 1 > 1 then (xs.length : Int) - 1 else 1)) % (xs.length : Int))) (A := -1) (j := x / 64 % ((ss.length : Int) + 1)) (P := P) j0.1 (by omega) s30 (hP _ _ (bent_mk (.inl (by decide)) (by omega) (by omega) (by omega) (by omega)))
    show asO (some (L3.D.int (-1))) _
    walk_at "go"
    exact e
  · have e := put_tail (ss := ss) (G := (x % (xs.length : Int))) (T := ((x % (xs.length : Int) + 1 + x / 8 % (if (xs.length : Int) - 1 > 1 then (xs.length : Int) - 1 else 1)) % (xs.length : Int))) (A := 0 - x % 1000000000) (j := x / 64 % ((ss.length : Int) + 1)) (P := P) j0.1 (by omega) s30 (hP _ _ (bent_mk (.inl (by show 0 - x % 1000000000 < 1; omega)) (by omega) (by omega) (by omega) (by omega)))
    show asO (some (L3.D.int (0 - x % 1000000000))) _
    walk_at "go"
    exact e
  · have e := put_tail (ss := ss) (G := (x % (xs.length : Int))) (T := ((x % (xs.length : Int) + 1 + x / 8 % (if (xs.length : Int) - 1 > 1 then (xs.length : Int) - 1 else 1)) % (xs.length : Int))) (A := 100000000000000000000) (j := x / 64 % ((ss.length : Int) + 1)) (P := P) j0.1 (by omega) s30 (hP _ _ (bent_mk (.inr (.inl rfl)) (by omega) (by omega) (by omega) (by omega)))
    show asO (some (L3.D.int (100000000000000000000))) _
    walk_at "go"
    exact e
  · have e := put_tail (ss := ss) (G := (x % (xs.length : Int))) (T := (x % (xs.length : Int))) (A := 3) (j := x / 64 % ((ss.length : Int) + 1)) (P := P) j0.1 (by omega) s30 (hP _ _ (bent_mk (.inr (.inr (.inl rfl))) (by omega) (by omega) (by omega) (by omega)))
    show asO (some (L3.D.int (3))) _
    walk_at "go"
    exact e
  · have e := put_tail (ss := ss) (G := (x % (xs.length : Int)) - (xs.length : Int)) (T := ((x % (xs.length : Int) + 1 + x / 8 % (if (xs.length : Int) - 1 > 1 then (xs.length : Int) - 1 else 1)) % (xs.length : Int))) (A := 3) (j := x / 64 % ((ss.length : Int) + 1)) (P := P) j0.1 (by omega) s30 (hP _ _ (bent_mk (.inr (.inr (.inr (by show x % (xs.length : Int) - (xs.length : Int) < 0; omega)))) (by omega) (by omega) (by omega) (by omega)))
    show asO (some (L3.D.int (3))) _
    walk_at "go"
    exact e
theorem ix_some {n : Nat} {a : Int} (h1 : -(n : Int) ≤ a) (h2 : a < n) : ∃ j, ixN n a = some j ∧ j < n := by
  unfold ixN
  by_cases h : 0 ≤ a
  · exact ⟨a.toNat, by rw [if_pos h, if_pos h2], by omega⟩
  · exact ⟨(a + n).toNat, by rw [if_neg h, if_pos h1], by omega⟩
theorem asO_ixI {r : List Int} {a : Int} {P : DK} (h1 : -(r.length : Int) ≤ a) (h2 : a < r.length) (h : ∀ v : Int, P (.int v)) : asO (atI (r.map L3.D.int) a) P := by
  obtain ⟨j, e, hj⟩ := ix_some h1 h2
  unfold atI
  rw [List.length_map, e]
  show asO ((r.map L3.D.int)[j]?) P
  rw [List.getElem?_map, List.getElem?_eq_getElem hj]
  exact h _
theorem setItem_ixI {i : Nat} {δ : Dl} {de dx : DE} {E : DEnds} {r : List Int} {a : Int} (hs : δ[i]? = some (some (dI r))) (hde : ∀ R : DK, (∀ v : Int, R (.int v)) → de δ R) (hdx : ∀ R : DK, R (.int a) → dx δ R) (h1 : -(r.length : Int) ≤ a) (h2 : a < r.length) (h : ∀ r' : List Int, r'.length = r.length → E.nx (δ.set i (some (dI r')))) : vSetItem i de dx E δ := by
  obtain ⟨j, e, hj⟩ := ix_some h1 h2
  unfold vSetItem
  refine hde _ fun v => (slotL_s hs).mpr (hdx _ ?_)
  show match ixN (r.map L3.D.int).length a with | some j => E.nx (δ.set i (some (.lst ((r.map L3.D.int).set j (.int v))))) | none => False
  rw [List.length_map, e]
  show E.nx (δ.set i (some (.lst ((r.map L3.D.int).set j (.int v)))))
  rw [set_dI]; exact h _ List.length_set
def S_law_blind : DSp := fun ds P => ∃ (xs : List Int) (ss : List (Int × Int × Int)), ds = [dI xs, .lst (ss.map dS3)] ∧ (∀ q ∈ ss, -(xs.length : Int) ≤ q.1 ∧ q.1 < xs.length ∧ 0 ≤ q.2.1 ∧ q.2.1 < xs.length) ∧ ∀ ys : List Int, P (dI ys)
theorem mono_law_blind : DMono S_law_blind := by
  intro xs P P' k h
  obtain ⟨one, ss, e, h0, h⟩ := h
  exact ⟨one, ss, e, h0, fun ys => k _ (h ys)⟩
theorem len_law_blind : ∀ ds P, S_law_blind ds P → ds.length = 2 := by
  intro ds P h
  obtain ⟨_, _, e, _⟩ := h
  rw [e]; rfl
theorem ok_law_blind {c : Cs} {f : Addr} {fd : FuncData} (F : FnAt K mg "_law_blind" s_law_blind P_law_blind f fd) (A_ : Fns K mg c) (T : Txt K mg) (xs : Exs K mg base c) : FnOk P w K mg base CX0 1 f fd P_law_blind (spP K S_law_blind) := by
  refine F.fn.ok sc_law_blind (fun vs H Q E h => spP_len len_law_blind h) (fun cdv A outer s H vs Q E hr h => ?_)
  refine ⟨_, (pss_cons (ps_set (i := 2) sc_law_blind.nd rfl (by first | exact Or.inl rfl | exact Or.inr rfl) (pe_callTy (call_listK (K := K) rfl) (by rfl) T.list_ boot_list (pa_cons (pv 0) pa_nil)))
      (pss_cons (ps_for PassesOwn.never rfl (pi_listK (K := K) rfl (pv 1)) (pg_tupK (K := K) rfl rfl (pgs_cons (pg_name (i := 3) sc_law_blind.nd rfl (by first | exact Or.inl rfl | exact Or.inr rfl)) (pgs_cons (pg_name (i := 4) sc_law_blind.nd rfl (by first | exact Or.inl rfl | exact Or.inr rfl)) (pgs_cons (pg_name (i := 5) sc_law_blind.nd rfl (by first | exact Or.inl rfl | exact Or.inr rfl)) pgs_nil)))) (pss_cons (ps_asg (pe_op op_sub (pe_ix (ix_listK (K := K) rfl) (pv 2) (pv 3) (fun _ _ => rfl)) (pv 5)) (pg_sub (pv 2) (pv 3) set_list))
      (pss_one (ps_asg (pe_op op_add (pe_ix (ix_listK (K := K) rfl) (pv 2) (pv 4) (fun _ _ => rfl)) (pv 5)) (pg_sub (pv 2) (pv 4) set_list)))))
      (pss_one (ps_ret (pv 2))))), fn_val (Γn := [2]) (N := N_law_blind) (st_seq (ST.post (Γn := [2]) (st_setM (M := []) 2 (em_cb c_list (ar_cons (ES.er (es_var 0)) ar_nil))))
      (st_seq (st_for (it_list (es_var 1)) (gt_tup (gts_cons (gt_name 3) (gts_cons (gt_name 4) (gts_cons (gt_name 5) gts_nil)))) (st_seq (st_setItem 2 (em_op o_int (er_ixL (er_var 2) (ES.er (es_var 3))) (ES.er (es_var 5))) (ES.er (es_var 3)))
      (st_setItem 2 (em_op o_int (er_ixL (er_var 2) (ES.er (es_var 4))) (ES.er (es_var 5))) (ES.er (es_var 4)))))
      (st_ret (M := [2]) (em_var 2)))) (fun ds P hS => ?_) h⟩
  obtain ⟨xs, ss, rfl, hq, hP⟩ := hS
  rw [show startD N_law_blind [dI xs, .lst (ss.map dS3)] = [some (dI xs), some (.lst (ss.map dS3)), none, none, none, none] from rfl]
  walk_at "go"
  refine loop_any (as := ss) (f := dS3) (fun i δ => ∃ (zs : List Int) (o3 o4 o5 : Option D), δ = [some (dI xs), some (.lst (ss.map dS3)), some (dI zs), o3, o4, o5] ∧ zs.length = xs.length) ⟨xs, none, none, none, rfl, rfl⟩ ?_ ?_
  · rintro i ⟨g, t, a⟩ δ N e ⟨zs, o3, o4, o5, rfl, hl⟩ hN
    obtain ⟨q1, q2, q3, q4⟩ := hq _ (List.mem_of_getElem? e)
    rw [show dS3 (g, t, a) = .tup [.int g, .int t, .int a] from rfl]
    walk_at "go"
    have q1 : -(xs.length : Int) ≤ g := q1
    have q2 : g < xs.length := q2
    have q3 : 0 ≤ t := q3
    have q4 : t < xs.length := q4
    refine setItem_ixI (r := zs) (a := g) rfl (fun R h => ?_) (fun R h => ?_) (by omega) (by omega) fun r1 l1 => ?_
    · walk_at "v"
      refine asO_ixI (by omega) (by omega) fun v => ?_
      walk_at "v"
      exact h _
    · walk_at "v"
      exact h
    walk_at "v"
    refine setItem_ixI (r := r1) (a := t) rfl (fun R h => ?_) (fun R h => ?_) (by omega) (by omega) fun r2 l2 => ?_
    · walk_at "v"
      refine asO_ixI (by omega) (by omega) fun v => ?_
      walk_at "v"
      exact h _
    · walk_at "v"
      exact h
    walk_at "v"
    exact hN _ ⟨r2, _, _, _, rfl, by omega⟩
  · rintro δ ⟨zs, o3, o4, o5, rfl, hl⟩
    walk_at "go"
    exact hP zs
theorem goL_idx : ∀ {ss : List (Int × Int × Int)} {xs ys : List Int}, goL xs ss = some ys → ∀ q ∈ ss, 0 ≤ q.1 ∧ q.1 < xs.length ∧ 0 ≤ q.2.1 ∧ q.2.1 < xs.length
  | [], xs, ys, h => fun _ h => (nomatch h)
  | (g, t, a) :: r, xs, ys, h => fun q hq => by
    by_cases hs : StepOk xs g t a
    · rw [goL_ok hs] at h
      rcases List.mem_cons.mp hq with z | z
      · rw [z]; exact ⟨hs.1, hs.2.1, hs.2.2.1, hs.2.2.2.1⟩
      · have := goL_idx h q z
        rw [Maj.step_len] at this
        exact this
    · rw [goL_no hs] at h; cases h
theorem bent_none {xs ys : List Int} {ss : List (Int × Int × Int)} {q : Int × Int × Int} {k : Nat} (hb : Bd xs) (hg : goL xs ss = some ys) (hq : Bent xs.length q) : goL xs (ss.take k ++ [q] ++ ss.drop k) = none := by
  have h1 : (goL xs (ss.take k)).bind (fun zs => goL zs (ss.drop k)) = some ys := by rw [← goL_app, List.take_append_drop]; exact hg
  cases e : goL xs (ss.take k) with
  | none => rw [e] at h1; cases h1
  | some zs =>
    rw [List.append_assoc, goL_app, e]
    obtain ⟨g, t, a⟩ := q
    refine goL_no fun hs => ?_
    obtain ⟨g0, g1, t0, t1, a0, a1⟩ := hs
    have bz := goL_bd hb e
    have b1 := bz.getD (i := g.toNat) (by omega)
    have b2 := bz.getD (i := t.toNat) (by omega)
    rcases hq.1 with z | z | z | z
    · have z : a < 1 := z
      omega
    · have z : a = 100000000000000000000 := z
      omega
    · have z : g = t := z
      rw [z] at a1
      omega
    · have z : g < 0 := z
      omega
def S_law : DSp := fun ds P => ∃ ns, ds = [.scr ns] ∧ ns.length ≤ 63 ∧ P (.bl true)
theorem law_goal {ns : List Int} {P : DK} (hl : ns.length ≤ 63) (h : P (.bl true)) : S_law [.scr ns] P := ⟨ns, rfl, hl, h⟩
theorem mono_law : DMono S_law := by
  intro xs P P' k h
  unfold S_law at h ⊢
  grind
theorem len_law : ∀ ds P, S_law ds P → ds.length = 1 := by
  intro ds P h
  obtain ⟨_, e, _⟩ := h
  rw [e]; rfl
theorem ok_law {c : Cs} {f : Addr} {fd : FuncData} (F : FnAt K mg "law" s_law P_law f fd) (A_ : Fns K mg c) (T : Txt K mg) (xs : Exs K mg base c) : FnOk P w K mg base CX0 7 f fd P_law (spP K S_law) := by
  obtain ⟨f0, d0, E_law_fold⟩ := A_.h_law_fold
  have G_law_fold : FnOk P w K mg base CX0 1 f0 d0 P_law_fold (spP K S_law_fold) := ok_law_fold E_law_fold A_ T xs
  obtain ⟨f1, d1, E_law_row⟩ := A_.h_law_row
  have G_law_row : FnOk P w K mg base CX0 2 f1 d1 P_law_row (spP K S_law_row) := ok_law_row E_law_row A_ T xs
  obtain ⟨f2, d2, E_law_steps⟩ := A_.h_law_steps
  have G_law_steps : FnOk P w K mg base CX0 1 f2 d2 P_law_steps (spP K S_law_steps) := ok_law_steps E_law_steps A_ T xs
  obtain ⟨f3, d3, E_law_next⟩ := A_.h_law_next
  have G_law_next : FnOk P w K mg base CX0 1 f3 d3 P_law_next (spP K S_law_next) := ok_law_next E_law_next A_ T xs
  obtain ⟨f4, d4, E_law_put_in⟩ := A_.h_law_put_in
  have G_law_put_in : FnOk P w K mg base CX0 1 f4 d4 P_law_put_in (spP K S_law_put_in) := ok_law_put_in E_law_put_in A_ T xs
  obtain ⟨f5, d5, E_law_judged⟩ := A_.h_law_judged
  have G_law_judged : FnOk P w K mg base CX0 6 f5 d5 P_law_judged (spP K (S_law_judged c)) := ok_law_judged E_law_judged A_ T xs
  obtain ⟨f6, d6, E_law_spoiled⟩ := A_.h_law_spoiled
  have G_law_spoiled : FnOk P w K mg base CX0 1 f6 d6 P_law_spoiled (spJ K S_law_spoiled) := ok_law_spoiled E_law_spoiled A_ T xs
  obtain ⟨f7, d7, E_StepPaper_init⟩ := A_.h_StepPaper_init
  have G_StepPaper_init : FnOk P w K mg base CX0 1 f7 d7 P_StepPaper_init (spN K c.StepPaper (S_StepPaper_init c)) := ok_StepPaper_init E_StepPaper_init A_ T xs
  obtain ⟨f8, d8, E_law_blind⟩ := A_.h_law_blind
  have G_law_blind : FnOk P w K mg base CX0 1 f8 d8 P_law_blind (spP K S_law_blind) := ok_law_blind E_law_blind A_ T xs
  obtain ⟨f9, d9, E_BarPaper_init⟩ := A_.h_BarPaper_init
  have G_BarPaper_init : FnOk P w K mg base CX0 1 f9 d9 P_BarPaper_init (spN K c.BarPaper (S_BarPaper_init c)) := ok_BarPaper_init E_BarPaper_init A_ T xs
  obtain ⟨f10, d10, E_law_barred⟩ := A_.h_law_barred
  have G_law_barred : FnOk P w K mg base CX0 1 f10 d10 P_law_barred (spP K S_law_barred) := ok_law_barred E_law_barred A_ T xs
  obtain ⟨f11, d11, E_law_made⟩ := A_.h_law_made
  have G_law_made : FnOk P w K mg base CX0 1 f11 d11 P_law_made (spP K S_law_made) := ok_law_made E_law_made A_ T xs
  refine F.fn.ok sc_law (fun vs H Q E h => spP_len len_law h) (fun cdv A outer s H vs Q E hr h => ?_)
  refine ⟨_, (pss_cons (ps_set (i := 1) sc_law.nd rfl (by first | exact Or.inl rfl | exact Or.inr rfl) (pe_call G_law_fold (hr.mono (by decide)) rfl E_law_fold.mg E_law_fold.fn.kp E_law_fold.bd .nil pass0 (pa_cons (pv 0) (pa_cons pe_int pa_nil))))
      (pss_cons (ps_set (i := 2) sc_law.nd rfl (by first | exact Or.inl rfl | exact Or.inr rfl) (pe_call G_law_row (hr.mono (by decide)) rfl E_law_row.mg E_law_row.fn.kp E_law_row.bd .nil pass0 (pa_cons (pv 1) pa_nil)))
      (pss_cons (ps_asg (pe_call G_law_steps (hr.mono (by decide)) rfl E_law_steps.mg E_law_steps.fn.kp E_law_steps.bd .nil pass0 (pa_cons (pv 2) (pa_cons (pv 0) pa_nil))) (pg_lstK (K := K) rfl rfl (pgs_cons (pg_name (i := 3) sc_law.nd rfl (by first | exact Or.inl rfl | exact Or.inr rfl)) (pgs_cons (pg_name (i := 4) sc_law.nd rfl (by first | exact Or.inl rfl | exact Or.inr rfl)) pgs_nil))))
      (pss_cons (ps_set (i := 1) sc_law.nd rfl (by first | exact Or.inl rfl | exact Or.inr rfl) (pe_call G_law_next (hr.mono (by decide)) rfl E_law_next.mg E_law_next.fn.kp E_law_next.bd .nil pass0 (pa_cons (pv 1) pa_nil)))
      (pss_cons (ps_set (i := 5) sc_law.nd rfl (by first | exact Or.inl rfl | exact Or.inr rfl) (pe_op op_sub (pe_op op_mod (pe_op op_fdivB (pv 1) (pe_op op_pow pe_int pe_int)) (pe_op op_add (pe_callB (call_lenK (K := K) rfl) (by rfl) T.len_ PySem.boot_len (pa_cons (pv 3) pa_nil)) pe_int)) pe_int))
      (pss_cons (ps_set (i := 6) sc_law.nd rfl (by first | exact Or.inl rfl | exact Or.inr rfl) (pe_call G_law_put_in (hr.mono (by decide)) rfl E_law_put_in.mg E_law_put_in.fn.kp E_law_put_in.bd .nil pass0 (pa_cons (pv 2) (pa_cons (pv 4) (pa_cons (pe_op op_fdivB (pe_call G_law_next (hr.mono (by decide)) rfl E_law_next.mg E_law_next.fn.kp E_law_next.bd .nil pass0 (pa_cons (pv 1) pa_nil)) (pe_op op_pow pe_int pe_int)) pa_nil)))))
      (pss_cons (ps_if (pt_not (pt_val (pe_call G_law_judged (hr.mono (by decide)) rfl E_law_judged.mg E_law_judged.fn.kp E_law_judged.bd .nil pass0 (pa_cons (pe_make E_StepPaper_init.mkk G_StepPaper_init (hr.mono (by decide)) rfl E_StepPaper_init.mg E_StepPaper_init.bd .nil pass0 (pa_cons (pe_call G_law_blind (hr.mono (by decide)) rfl E_law_blind.mg E_law_blind.fn.kp E_law_blind.bd .nil pass0 (pa_cons (pv 2) (pa_cons (pv 6) pa_nil))) (pa_cons (pv 2) (pa_cons (pv 6) pa_nil)))) (pa_cons pe_bl pa_nil))))) (pss_one (ps_ret pe_bl)) pss_nil)
      (pss_cons (ps_for PassesOwn.never rfl (pi_range1 rfl T.range_ (pa_cons pe_int pa_nil)) (pg_name (i := 7) sc_law.nd rfl (by first | exact Or.inl rfl | exact Or.inr rfl)) (pss_cons (ps_if (pt_not (pt_val (pe_call G_law_judged (hr.mono (by decide)) rfl E_law_judged.mg E_law_judged.fn.kp E_law_judged.bd .nil pass0 (pa_cons (pe_make E_BarPaper_init.mkk G_BarPaper_init (hr.mono (by decide)) rfl E_BarPaper_init.mg E_BarPaper_init.bd .nil pass0 (pa_cons (pv 3) (pa_cons (pv 2) (pa_cons (pv 5) pa_nil)))) (pa_cons (pe_call G_law_barred (hr.mono (by decide)) rfl E_law_barred.mg E_law_barred.fn.kp E_law_barred.bd .nil pass0 (pa_cons (pv 3) (pa_cons (pv 2) (pa_cons (pv 5) pa_nil)))) pa_nil))))) (pss_one (ps_ret pe_bl)) pss_nil)
      (pss_cons (ps_if (pt_not (pt_val (pe_call G_law_judged (hr.mono (by decide)) rfl E_law_judged.mg E_law_judged.fn.kp E_law_judged.bd .nil pass0 (pa_cons (pe_make E_BarPaper_init.mkk G_BarPaper_init (hr.mono (by decide)) rfl E_BarPaper_init.mg E_BarPaper_init.bd .nil pass0 (pa_cons (pv 2) (pa_cons (pv 3) (pa_cons (pv 5) pa_nil)))) (pa_cons (pe_call G_law_barred (hr.mono (by decide)) rfl E_law_barred.mg E_law_barred.fn.kp E_law_barred.bd .nil pass0 (pa_cons (pv 2) (pa_cons (pv 3) (pa_cons (pv 5) pa_nil)))) pa_nil))))) (pss_one (ps_ret pe_bl)) pss_nil)
      (pss_cons (ps_if (pt_not (pt_val (pe_call G_law_judged (hr.mono (by decide)) rfl E_law_judged.mg E_law_judged.fn.kp E_law_judged.bd .nil pass0 (pa_cons (pe_make E_StepPaper_init.mkk G_StepPaper_init (hr.mono (by decide)) rfl E_StepPaper_init.mg E_StepPaper_init.bd .nil pass0 (pa_cons (pv 3) (pa_cons (pv 2) (pa_cons (pv 4) pa_nil)))) (pa_cons (pe_cmpR (op_eqN hr.units) (pe_call G_law_made (hr.mono (by decide)) rfl E_law_made.mg E_law_made.fn.kp E_law_made.bd .nil pass0 (pa_cons (pv 2) (pa_cons (pv 4) pa_nil))) (pv 3) (nomark _)) pa_nil))))) (pss_one (ps_ret pe_bl)) pss_nil)
      (pss_one (ps_expr (pe_call G_law_spoiled (hr.mono (by decide)) rfl E_law_spoiled.mg E_law_spoiled.fn.kp E_law_spoiled.bd .nil pass0 (pa_cons (pv 3) (pa_cons (pv 4) (pa_cons (pv 1) pa_nil))))))))))
      (pss_one (ps_ret pe_bl)))))))))), fn_val (Γn := [4, 3]) (N := N_law) (st_seq (ST.post (Γn := []) (st_setS 1 (EM.es (em_call (S := S_law_fold) mono_law_fold (ar_cons (ES.er (es_var 0)) (ar_cons (EM.er em_int) ar_nil))))))
      (st_seq (ST.post (Γn := []) (st_setS 2 (EM.es (em_call (S := S_law_row) mono_law_row (ar_cons (ES.er (es_var 1)) ar_nil)))))
      (st_seq (ST.post (Γn := [4, 3]) (st_asgM2 3 4 (em_call (S := S_law_steps) mono_law_steps (ar_cons (ES.er (es_var 2)) (ar_cons (ES.er (es_var 0)) ar_nil)))))
      (st_seq (ST.post (Γn := [4, 3]) (st_setS 1 (EM.es (em_call (S := S_law_next) mono_law_next (ar_cons (ES.er (es_var 1)) ar_nil)))))
      (st_seq (ST.post (Γn := [4, 3]) (st_setS 5 (EM.es (em_op o_int (EM.er (em_op o_intC (EM.er (em_op o_intC (ES.er (es_var 1)) (EM.er (em_op o_intC (EM.er em_int) (EM.er em_int))))) (EM.er (em_op o_int (EM.er (em_cb c_len (ar_cons (er_var 3) ar_nil))) (EM.er em_int))))) (EM.er em_int)))))
      (st_seq (ST.post (Γn := [4, 3]) (st_setS 6 (EM.es (em_call (S := S_law_put_in) mono_law_put_in (ar_cons (ES.er (es_var 2)) (ar_cons (er_var 4) (ar_cons (EM.er (em_op o_intC (EM.er (em_call (S := S_law_next) mono_law_next (ar_cons (ES.er (es_var 1)) ar_nil))) (EM.er (em_op o_intC (EM.er em_int) (EM.er em_int))))) ar_nil)))))))
      (st_seq (st_if (tr_not (tr_b (EM.er (em_call (S := S_law_judged c) mono_law_judged (ar_cons (EM.er (em_make mono_StepPaper_init ins_StepPaper_init (ar_cons (EM.er (em_call (S := S_law_blind) mono_law_blind (ar_cons (ES.er (es_var 2)) (ar_cons (ES.er (es_var 6)) ar_nil)))) (ar_cons (ES.er (es_var 2)) (ar_cons (ES.er (es_var 6)) ar_nil))))) (ar_cons (EM.er em_bl) ar_nil)))))) (st_ret (M := []) em_bl) st_next)
      (st_seq (st_for (it_rng1 (ar_cons (EM.er em_int) ar_nil)) (gt_name 7) (st_seq (st_if (tr_not (tr_b (EM.er (em_call (S := S_law_judged c) mono_law_judged (ar_cons (EM.er (em_make mono_BarPaper_init ins_BarPaper_init (ar_cons (er_var 3) (ar_cons (ES.er (es_var 2)) (ar_cons (ES.er (es_var 5)) ar_nil))))) (ar_cons (EM.er (em_call (S := S_law_barred) mono_law_barred (ar_cons (er_var 3) (ar_cons (ES.er (es_var 2)) (ar_cons (ES.er (es_var 5)) ar_nil))))) ar_nil)))))) (st_ret (M := []) em_bl) st_next)
      (st_seq (st_if (tr_not (tr_b (EM.er (em_call (S := S_law_judged c) mono_law_judged (ar_cons (EM.er (em_make mono_BarPaper_init ins_BarPaper_init (ar_cons (ES.er (es_var 2)) (ar_cons (er_var 3) (ar_cons (ES.er (es_var 5)) ar_nil))))) (ar_cons (EM.er (em_call (S := S_law_barred) mono_law_barred (ar_cons (ES.er (es_var 2)) (ar_cons (er_var 3) (ar_cons (ES.er (es_var 5)) ar_nil))))) ar_nil)))))) (st_ret (M := []) em_bl) st_next)
      (st_seq (st_if (tr_not (tr_b (EM.er (em_call (S := S_law_judged c) mono_law_judged (ar_cons (EM.er (em_make mono_StepPaper_init ins_StepPaper_init (ar_cons (er_var 3) (ar_cons (ES.er (es_var 2)) (ar_cons (er_var 4) ar_nil))))) (ar_cons (EM.er (em_op o_eqN (EM.er (em_call (S := S_law_made) mono_law_made (ar_cons (ES.er (es_var 2)) (ar_cons (er_var 4) ar_nil)))) (er_var 3))) ar_nil)))))) (st_ret (M := []) em_bl) st_next)
      (st_callJ 3 4 mono_law_spoiled (ES.er (es_var 1)))))))
      (st_ret (M := []) em_bl))))))))) (fun ds P hS => ?_) h⟩
  obtain ⟨ns, rfl, hz, hP⟩ := hS
  rw [show startD N_law [.scr ns] = [some (.scr ns), none, none, none, none, none, none, none] from rfl]
  walk_at "go"
  refine ⟨ns, _, rfl, by decide, by decide, fun x x0 x1 => ?_⟩
  refine ⟨x, rfl, x0, x1, fun other n1 n8 hb => ?_⟩
  refine ⟨other, ns, rfl, hz, n1, n8, hb, fun one ss hg hl hA => ?_⟩
  refine ⟨_, _, rfl, ?_⟩
  refine ⟨x, rfl, x0, by omega, fun y y0 y1 => ?_⟩
  have lo := goL_len hg
  walk_at "go"
  generalize y / 1125899906842624 % ((one.length : Int) + 4) - 1 = k
  refine ⟨y, rfl, y0, by omega, fun z z0 z1 => ?_⟩
  walk_at "go"
  refine ⟨other, ss, z / 256, rfl, by omega, n1, n8, hl, fun j q hq => ?_⟩
  have hbn := bent_none (k := j) hb hg hq
  refine ⟨other, _, rfl, fun p hp => ?_, fun bl => ?_⟩
  · rcases List.mem_append.mp hp with z | z
    · rcases List.mem_append.mp z with z | z
      · have := goL_idx hg p (List.mem_of_mem_take z)
        omega
      · rw [List.mem_singleton.mp z]
        exact ⟨hq.2.1, hq.2.2.1, hq.2.2.2.1, hq.2.2.2.2⟩
    · have := goL_idx hg p (List.mem_of_mem_drop z)
      omega
  generalize hB : ss.take j ++ [q] ++ ss.drop j = bent at hbn ⊢
  refine ⟨bl, other, bent, rfl, ?_⟩
  refine ⟨_, false, rfl, .inl ⟨⟨rfl, rfl⟩, fun P hP => ⟨bl, other, bent, rfl, by rw [decide_eq_false (by rw [hbn]; exact fun z => (nomatch z))]; exact hP⟩⟩, ?_⟩
  walk_at "go"
  refine loop_rng (lo := 0) (n := 2) (fun i δ => ∃ (one : List Int) (ss : List (Int × Int × Int)) (o7 : Option D), δ = [some (.scr ns), some (.int y), some (dI other), some (dI one), some (.lst (ss.map dS3)), some (.int k), some (.lst (bent.map dS3)), o7] ∧ 1 ≤ one.length ∧ one.length ≤ 8 ∧ ss.length ≤ 31 ∧ Am (70 + 3 * i) ss) ⟨one, ss, none, rfl, by omega, by omega, by omega, hA⟩ ?_ ?_
  · clear hbn hB hA hl hg lo
    rintro i δ N hi ⟨one, ss, o7, rfl, o1, o8, s31, hA⟩ hN
    walk_at "go"
    refine ⟨one, other, k, rfl, ?_⟩
    refine ⟨one, other, k, rfl, by omega, by omega, ?_⟩
    refine ⟨_, _, rfl, .inr ⟨⟨rfl, rfl⟩, fun P hP => ⟨one, other, k, rfl, by omega, by omega, hP⟩⟩, ?_⟩
    walk_at "go"
    refine ⟨other, one, k, rfl, ?_⟩
    refine ⟨other, one, k, rfl, by omega, by omega, ?_⟩
    refine ⟨_, _, rfl, .inr ⟨⟨rfl, rfl⟩, fun P hP => ⟨other, one, k, rfl, by omega, by omega, hP⟩⟩, ?_⟩
    walk_at "go"
    refine ⟨one, other, ss, rfl, ?_⟩
    refine ⟨other, ss, rfl, ?_⟩
    have step : ∀ v : Bool, v = decide (goL other ss = some one) → S_law_judged c [stpD c one other ss, .bl v] fun x => asB x fun k_1 => if k_1 = false then P (L3.D.bl false) else S_law_spoiled [dI one, L3.D.lst (ss.map dS3), L3.D.int y] fun x' y' => N [some (L3.D.scr ns), some (L3.D.int y), some (dI other), some x', some y', some (L3.D.int k), some (L3.D.lst (bent.map dS3)), some (L3.D.int (0 + (i : Int)))] := fun v hv => by
      refine ⟨_, v, rfl, .inl ⟨⟨rfl, rfl⟩, fun P hP => ⟨one, other, ss, rfl, by rw [← hv]; exact hP⟩⟩, ?_⟩
      walk_at "go"
      refine ⟨one, ss, y, 70 + 3 * i, rfl, y0, o1, o8, s31, by omega, hA, fun xs tt x1 x8 t31 hA' => ?_⟩
      exact hN _ ⟨xs, tt, _, rfl, x1, x8, t31, by rw [show 70 + 3 * (i + 1) = 70 + 3 * i + 3 by omega]; exact hA'⟩
    cases e : goL other ss with
    | none => exact .inr ⟨rfl, ⟨_, rfl⟩, step false (by rw [e]; rfl)⟩
    | some ys =>
      refine .inl (vEqL_ints ?_)
      refine step _ ?_
      rw [e]
      show decide (ys = one) = _
      rw [Bool.eq_iff_iff, decide_eq_true_eq, decide_eq_true_eq]
      exact ⟨fun z => by rw [z], fun z => Option.some.inj z⟩
  · rintro δ ⟨one, ss, o7, rfl, o1, o8, s31, hA⟩
    walk_at "go"
    exact hP
end
end Mine
set_option Elab.async false
set_option linter.all false
set_option maxRecDepth 100000
namespace Mine
open PySem L2 PyProof.Rows
theorem all_mk {l : PySem.W.OpenLaw} {w : World} {K : PySem.W.Frag} {h : Heap} {mg : Str → Option Value} {fa f0 f1 f2 f3 f4 f5 f6 f7 f8 f9 f10 f11 f12 f13 f14 f15 f16 f17 f18 f19 f20 : Addr} (X : K.In h) (G : h.Ns mainGlobals mg) (hfa : mg "law" = some (.ref fa))
    {od0 an0 od1 an1 od2 an2 od3 an3 od4 an4 od5 an5 od6 an6 od7 an7 od8 an8 od9 an9 od10 an10 od11 an11 od12 an12 od13 an13 od14 an14 od15 an15 od16 an16 od17 an17 od18 an18 od19 an19 od20 an20 : Option Addr} {sl0 sl1 sl2 sl3 sl4 sl5 sl6 sl7 sl8 sl9 sl10 sl11 sl12 sl13 sl14 sl15 sl16 sl17 sl18 sl19 sl20 : Array (Option Value)} {oc0 kV0 dc0 pm0 cd0 ct0 oc1 kV1 dc1 pm1 cd1 ct1 oc2 kV2 dc2 pm2 cd2 ct2 oc3 kV3 dc3 pm3 cd3 ct3 oc4 kV4 dc4 pm4 cd4 ct4 oc5 kV5 dc5 pm5 cd5 ct5 oc6 kV6 dc6 pm6 cd6 ct6 oc7 kV7 dc7 pm7 cd7 ct7 oc8 kV8 dc8 pm8 cd8 ct8 oc9 kV9 dc9 pm9 cd9 ct9 oc10 kV10 dc10 pm10 cd10 ct10 oc11 kV11 dc11 pm11 cd11 ct11 oc12 kV12 dc12 pm12 cd12 ct12 oc13 kV13 dc13 pm13 cd13 ct13 oc14 kV14 dc14 pm14 cd14 ct14 oc15 kV15 dc15 pm15 cd15 ct15 oc16 kV16 dc16 pm16 cd16 ct16 oc17 kV17 dc17 pm17 cd17 ct17 oc18 kV18 dc18 pm18 cd18 ct18 oc19 kV19 dc19 pm19 cd19 ct19 oc20 kV20 dc20 pm20 cd20 ct20 : Value}
    {C_MixError C_NoStep C_Paper C_StepPaper C_BarPaper : Addr}
    (a0 : PySem.W.nsIn K mainGlobals "falling" = some (some (.ref f0))) (l0 : K.lookup f0 = some ⟨oc0, od0, .func (PySem.W.fnOf "falling" "falling" (defArgs s_falling) (defBody s_falling) (defScope s_falling) .none kV0 dc0 pm0 an0 cd0 ct0), sl0⟩) (c0 : PySem.W.codeIn K cd0 "falling" = true) (k0 : PySem.W.keepIn K (.ref f0) = true)
    (a1 : PySem.W.nsIn K mainGlobals "heads_of" = some (some (.ref f1))) (l1 : K.lookup f1 = some ⟨oc1, od1, .func (PySem.W.fnOf "heads_of" "heads_of" (defArgs s_heads_of) (defBody s_heads_of) (defScope s_heads_of) .none kV1 dc1 pm1 an1 cd1 ct1), sl1⟩) (c1 : PySem.W.codeIn K cd1 "heads_of" = true) (k1 : PySem.W.keepIn K (.ref f1) = true)
    (a2 : PySem.W.nsIn K mainGlobals "is_place" = some (some (.ref f2))) (l2 : K.lookup f2 = some ⟨oc2, od2, .func (PySem.W.fnOf "is_place" "is_place" (defArgs s_is_place) (defBody s_is_place) (defScope s_is_place) .none kV2 dc2 pm2 an2 cd2 ct2), sl2⟩) (c2 : PySem.W.codeIn K cd2 "is_place" = true) (k2 : PySem.W.keepIn K (.ref f2) = true)
    (a3 : PySem.W.nsIn K mainGlobals "can_step" = some (some (.ref f3))) (l3 : K.lookup f3 = some ⟨oc3, od3, .func (PySem.W.fnOf "can_step" "can_step" (defArgs s_can_step) (defBody s_can_step) (defScope s_can_step) .none kV3 dc3 pm3 an3 cd3 ct3), sl3⟩) (c3 : PySem.W.codeIn K cd3 "can_step" = true) (k3 : PySem.W.keepIn K (.ref f3) = true)
    (a4 : PySem.W.nsIn K mainGlobals "step_made" = some (some (.ref f4))) (l4 : K.lookup f4 = some ⟨oc4, od4, .func (PySem.W.fnOf "step_made" "step_made" (defArgs s_step_made) (defBody s_step_made) (defScope s_step_made) .none kV4 dc4 pm4 an4 cd4 ct4), sl4⟩) (c4 : PySem.W.codeIn K cd4 "step_made" = true) (k4 : PySem.W.keepIn K (.ref f4) = true)
    (a5 : PySem.W.nsIn K mainGlobals "row_behind" = some (some (.ref f5))) (l5 : K.lookup f5 = some ⟨oc5, od5, .func (PySem.W.fnOf "row_behind" "row_behind" (defArgs s_row_behind) (defBody s_row_behind) (defScope s_row_behind) .none kV5 dc5 pm5 an5 cd5 ct5), sl5⟩) (c5 : PySem.W.codeIn K cd5 "row_behind" = true) (k5 : PySem.W.keepIn K (.ref f5) = true)
    (a6 : PySem.W.findIn K (.ref C_StepPaper) "__init__" = some (some (.ref f6))) (i6 : PySem.W.isFn K (.ref f6) = true) (l6 : K.lookup f6 = some ⟨oc6, od6, .func (PySem.W.fnOf "__init__" "StepPaper.__init__" (defArgs s_StepPaper_init) (defBody s_StepPaper_init) (defScope s_StepPaper_init) .none kV6 dc6 pm6 an6 cd6 ct6), sl6⟩) (c6 : PySem.W.codeIn K cd6 "StepPaper.__init__" = true) (k6 : PySem.W.keepIn K (.ref f6) = true)
    (a7 : PySem.W.findIn K (.ref C_StepPaper) "holds" = some (some (.ref f7))) (i7 : PySem.W.isFn K (.ref f7) = true) (l7 : K.lookup f7 = some ⟨oc7, od7, .func (PySem.W.fnOf "holds" "StepPaper.holds" (defArgs s_StepPaper_holds) (defBody s_StepPaper_holds) (defScope s_StepPaper_holds) .none kV7 dc7 pm7 an7 cd7 ct7), sl7⟩) (c7 : PySem.W.codeIn K cd7 "StepPaper.holds" = true) (k7 : PySem.W.keepIn K (.ref f7) = true)
    (a8 : PySem.W.findIn K (.ref C_BarPaper) "__init__" = some (some (.ref f8))) (i8 : PySem.W.isFn K (.ref f8) = true) (l8 : K.lookup f8 = some ⟨oc8, od8, .func (PySem.W.fnOf "__init__" "BarPaper.__init__" (defArgs s_BarPaper_init) (defBody s_BarPaper_init) (defScope s_BarPaper_init) .none kV8 dc8 pm8 an8 cd8 ct8), sl8⟩) (c8 : PySem.W.codeIn K cd8 "BarPaper.__init__" = true) (k8 : PySem.W.keepIn K (.ref f8) = true)
    (a9 : PySem.W.findIn K (.ref C_BarPaper) "holds" = some (some (.ref f9))) (i9 : PySem.W.isFn K (.ref f9) = true) (l9 : K.lookup f9 = some ⟨oc9, od9, .func (PySem.W.fnOf "holds" "BarPaper.holds" (defArgs s_BarPaper_holds) (defBody s_BarPaper_holds) (defScope s_BarPaper_holds) .none kV9 dc9 pm9 an9 cd9 ct9), sl9⟩) (c9 : PySem.W.codeIn K cd9 "BarPaper.holds" = true) (k9 : PySem.W.keepIn K (.ref f9) = true)
    (a10 : PySem.W.nsIn K mainGlobals "_law_fold" = some (some (.ref f10))) (l10 : K.lookup f10 = some ⟨oc10, od10, .func (PySem.W.fnOf "_law_fold" "_law_fold" (defArgs s_law_fold) (defBody s_law_fold) (defScope s_law_fold) .none kV10 dc10 pm10 an10 cd10 ct10), sl10⟩) (c10 : PySem.W.codeIn K cd10 "_law_fold" = true) (k10 : PySem.W.keepIn K (.ref f10) = true)
    (a11 : PySem.W.nsIn K mainGlobals "_law_next" = some (some (.ref f11))) (l11 : K.lookup f11 = some ⟨oc11, od11, .func (PySem.W.fnOf "_law_next" "_law_next" (defArgs s_law_next) (defBody s_law_next) (defScope s_law_next) .none kV11 dc11 pm11 an11 cd11 ct11), sl11⟩) (c11 : PySem.W.codeIn K cd11 "_law_next" = true) (k11 : PySem.W.keepIn K (.ref f11) = true)
    (a12 : PySem.W.nsIn K mainGlobals "_law_judged" = some (some (.ref f12))) (l12 : K.lookup f12 = some ⟨oc12, od12, .func (PySem.W.fnOf "_law_judged" "_law_judged" (defArgs s_law_judged) (defBody s_law_judged) (defScope s_law_judged) .none kV12 dc12 pm12 an12 cd12 ct12), sl12⟩) (c12 : PySem.W.codeIn K cd12 "_law_judged" = true) (k12 : PySem.W.keepIn K (.ref f12) = true)
    (a13 : PySem.W.nsIn K mainGlobals "_law_row" = some (some (.ref f13))) (l13 : K.lookup f13 = some ⟨oc13, od13, .func (PySem.W.fnOf "_law_row" "_law_row" (defArgs s_law_row) (defBody s_law_row) (defScope s_law_row) .none kV13 dc13 pm13 an13 cd13 ct13), sl13⟩) (c13 : PySem.W.codeIn K cd13 "_law_row" = true) (k13 : PySem.W.keepIn K (.ref f13) = true)
    (a14 : PySem.W.nsIn K mainGlobals "_law_steps" = some (some (.ref f14))) (l14 : K.lookup f14 = some ⟨oc14, od14, .func (PySem.W.fnOf "_law_steps" "_law_steps" (defArgs s_law_steps) (defBody s_law_steps) (defScope s_law_steps) .none kV14 dc14 pm14 an14 cd14 ct14), sl14⟩) (c14 : PySem.W.codeIn K cd14 "_law_steps" = true) (k14 : PySem.W.keepIn K (.ref f14) = true)
    (a15 : PySem.W.nsIn K mainGlobals "_law_made" = some (some (.ref f15))) (l15 : K.lookup f15 = some ⟨oc15, od15, .func (PySem.W.fnOf "_law_made" "_law_made" (defArgs s_law_made) (defBody s_law_made) (defScope s_law_made) .none kV15 dc15 pm15 an15 cd15 ct15), sl15⟩) (c15 : PySem.W.codeIn K cd15 "_law_made" = true) (k15 : PySem.W.keepIn K (.ref f15) = true)
    (a16 : PySem.W.nsIn K mainGlobals "_law_spoiled" = some (some (.ref f16))) (l16 : K.lookup f16 = some ⟨oc16, od16, .func (PySem.W.fnOf "_law_spoiled" "_law_spoiled" (defArgs s_law_spoiled) (defBody s_law_spoiled) (defScope s_law_spoiled) .none kV16 dc16 pm16 an16 cd16 ct16), sl16⟩) (c16 : PySem.W.codeIn K cd16 "_law_spoiled" = true) (k16 : PySem.W.keepIn K (.ref f16) = true)
    (a17 : PySem.W.nsIn K mainGlobals "_law_barred" = some (some (.ref f17))) (l17 : K.lookup f17 = some ⟨oc17, od17, .func (PySem.W.fnOf "_law_barred" "_law_barred" (defArgs s_law_barred) (defBody s_law_barred) (defScope s_law_barred) .none kV17 dc17 pm17 an17 cd17 ct17), sl17⟩) (c17 : PySem.W.codeIn K cd17 "_law_barred" = true) (k17 : PySem.W.keepIn K (.ref f17) = true)
    (a18 : PySem.W.nsIn K mainGlobals "_law_put_in" = some (some (.ref f18))) (l18 : K.lookup f18 = some ⟨oc18, od18, .func (PySem.W.fnOf "_law_put_in" "_law_put_in" (defArgs s_law_put_in) (defBody s_law_put_in) (defScope s_law_put_in) .none kV18 dc18 pm18 an18 cd18 ct18), sl18⟩) (c18 : PySem.W.codeIn K cd18 "_law_put_in" = true) (k18 : PySem.W.keepIn K (.ref f18) = true)
    (a19 : PySem.W.nsIn K mainGlobals "_law_blind" = some (some (.ref f19))) (l19 : K.lookup f19 = some ⟨oc19, od19, .func (PySem.W.fnOf "_law_blind" "_law_blind" (defArgs s_law_blind) (defBody s_law_blind) (defScope s_law_blind) .none kV19 dc19 pm19 an19 cd19 ct19), sl19⟩) (c19 : PySem.W.codeIn K cd19 "_law_blind" = true) (k19 : PySem.W.keepIn K (.ref f19) = true)
    (a20 : PySem.W.nsIn K mainGlobals "law" = some (some (.ref f20))) (l20 : K.lookup f20 = some ⟨oc20, od20, .func (PySem.W.fnOf "law" "law" (defArgs s_law) (defBody s_law) (defScope s_law) .none kV20 dc20 pm20 an20 cd20 ct20), sl20⟩) (c20 : PySem.W.codeIn K cd20 "law" = true) (k20 : PySem.W.keepIn K (.ref f20) = true)
    (sg : PySem.W.specialIn K (.builtin "object.__class__") "__get__" = some (some (.builtin "getset_descriptor.__get__"))) (tg : PySem.W.takesIn K (.builtin "object.__class__") = some true)
    (pg_StepPaper : PySem.W.plainGet K C_StepPaper Str.empty = true) (hd_StepPaper : PySem.W.hasDictIn K C_StepPaper = true) (po_StepPaper : PySem.W.plainOver K C_StepPaper = true) (sa_StepPaper : PySem.W.findIn K (.ref C_StepPaper) "__setattr__" = some (some (.builtin "object.__setattr__"))) (mk_StepPaper : PySem.W.makesIn K C_StepPaper = true) (kc_StepPaper : PySem.W.keepIn K (.ref C_StepPaper) = true)
    (cl_StepPaper : PySem.W.findIn K (.ref C_StepPaper) "__class__" = some (some (.builtin "object.__class__"))) (ob_StepPaper : PySem.W.mroIn K C_StepPaper (.type "object") = some true) (ko_StepPaper : PySem.W.kitOne K (.ref C_StepPaper) (.ref C_Paper) = some true)
    (na_StepPaper_one : PySem.W.findIn K (.ref C_StepPaper) "one" = some none)
    (na_StepPaper_other : PySem.W.findIn K (.ref C_StepPaper) "other" = some none)
    (na_StepPaper_steps : PySem.W.findIn K (.ref C_StepPaper) "steps" = some none)
    (pg_BarPaper : PySem.W.plainGet K C_BarPaper Str.empty = true) (hd_BarPaper : PySem.W.hasDictIn K C_BarPaper = true) (po_BarPaper : PySem.W.plainOver K C_BarPaper = true) (sa_BarPaper : PySem.W.findIn K (.ref C_BarPaper) "__setattr__" = some (some (.builtin "object.__setattr__"))) (mk_BarPaper : PySem.W.makesIn K C_BarPaper = true) (kc_BarPaper : PySem.W.keepIn K (.ref C_BarPaper) = true)
    (cl_BarPaper : PySem.W.findIn K (.ref C_BarPaper) "__class__" = some (some (.builtin "object.__class__"))) (ob_BarPaper : PySem.W.mroIn K C_BarPaper (.type "object") = some true) (ko_BarPaper : PySem.W.kitOne K (.ref C_BarPaper) (.ref C_Paper) = some true)
    (na_BarPaper_one : PySem.W.findIn K (.ref C_BarPaper) "one" = some none)
    (na_BarPaper_other : PySem.W.findIn K (.ref C_BarPaper) "other" = some none)
    (na_BarPaper_k : PySem.W.findIn K (.ref C_BarPaper) "k" = some none)
    {dd_MixError : Option Addr} {nm_MixError qn_MixError : Str} {bs_MixError : List Value} {ns_MixError : Addr} {hd_MixError : Bool} {sn_MixError : List Str} {sub_MixError : List Value} {ab_MixError : Bool} {col_MixError : Option Bool} {k0_MixError k1_MixError k2_MixError k3_MixError k5_MixError : Option Value}
    {dd_NoStep : Option Addr} {nm_NoStep qn_NoStep : Str} {bs_NoStep : List Value} {ns_NoStep : Addr} {hd_NoStep : Bool} {sn_NoStep : List Str} {sub_NoStep : List Value} {ab_NoStep : Bool} {col_NoStep : Option Bool} {k0_NoStep k1_NoStep k2_NoStep k3_NoStep k5_NoStep : Option Value}
    (e_MixError : PySem.W.nsIn K mainGlobals "MixError" = some (some (.ref C_MixError)))
    (e_NoStep : PySem.W.nsIn K mainGlobals "NoStep" = some (some (.ref C_NoStep)))
    (e_Paper : PySem.W.nsIn K mainGlobals "Paper" = some (some (.ref C_Paper)))
    (e_StepPaper : PySem.W.nsIn K mainGlobals "StepPaper" = some (some (.ref C_StepPaper)))
    (e_BarPaper : PySem.W.nsIn K mainGlobals "BarPaper" = some (some (.ref C_BarPaper)))
    (u_MixError : K.lookup C_MixError = some ⟨.type "type", dd_MixError, .cls ⟨nm_MixError, bs_MixError, .ref C_MixError :: VB, ns_MixError, qn_MixError, hd_MixError, sn_MixError, sub_MixError, ab_MixError, col_MixError, false⟩, #[k0_MixError, k1_MixError, k2_MixError, k3_MixError, some (.builtin "ValueError.__new__"), k5_MixError]⟩) (v_MixError : PySem.W.excIn K C_MixError VB "ValueError.__new__" = true)
    (u_NoStep : K.lookup C_NoStep = some ⟨.type "type", dd_NoStep, .cls ⟨nm_NoStep, bs_NoStep, .ref C_NoStep :: .ref C_MixError :: VB, ns_NoStep, qn_NoStep, hd_NoStep, sn_NoStep, sub_NoStep, ab_NoStep, col_NoStep, false⟩, #[k0_NoStep, k1_NoStep, k2_NoStep, k3_NoStep, some (.builtin "ValueError.__new__"), k5_NoStep]⟩) (v_NoStep : PySem.W.excIn K C_NoStep VB "ValueError.__new__" = true)
    (ga_NoStep : PySem.W.findIn K (.ref C_NoStep) "__getattribute__" = some (some (.builtin "BaseException.__getattribute__"))) (ge_NoStep : PySem.W.findIn K (.ref C_NoStep) "__getattr__" = some none) (cl_NoStep : PySem.W.findIn K (.ref C_NoStep) "__class__" = some (some (.builtin "object.__class__"))) (ob_NoStep : PySem.W.mroIn K C_NoStep (.type "object") = some true) (be_NoStep : PySem.W.mroIn K C_NoStep (.type "BaseException") = some true)
    (z_len : PySem.W.nsIn K mainGlobals "len" = some none) (z_isinstance : PySem.W.nsIn K mainGlobals "isinstance" = some none) (z_int : PySem.W.nsIn K mainGlobals "int" = some none) (z_bool : PySem.W.nsIn K mainGlobals "bool" = some none) (z_list : PySem.W.nsIn K mainGlobals "list" = some none) (z_range : PySem.W.nsIn K mainGlobals "range" = some none) (z_sum : PySem.W.nsIn K mainGlobals "sum" = some none) (z_sorted : PySem.W.nsIn K mainGlobals "sorted" = some none) (z_min : PySem.W.nsIn K mainGlobals "min" = some none) (z_max : PySem.W.nsIn K mainGlobals "max" = some none) (z_ValueError : PySem.W.nsIn K mainGlobals "ValueError" = some none) :
    ∃ fd : FuncData, (∀ (s : Shared) (v : Value), BindsTo s fd ⟨[v], []⟩ [("_law_script", v)]) ∧ ∀ base : Heap, K.In base → base.Ns mainGlobals mg → FnOk l.prog w K mg base CX0 7 fa fd P_law (L3.spP K S_law) := by
  have e := hfa.symm.trans (PySem.W.mg_of X G a20)
  cases e
  have T : Txt K mg := ⟨PySem.W.mg_none_of X G z_len, PySem.W.mg_none_of X G z_isinstance, PySem.W.mg_none_of X G z_int, PySem.W.mg_none_of X G z_bool, PySem.W.mg_none_of X G z_list, PySem.W.mg_none_of X G z_range, PySem.W.mg_none_of X G z_sum, PySem.W.mg_none_of X G z_sorted, PySem.W.mg_none_of X G z_min, PySem.W.mg_none_of X G z_max, PySem.W.mg_none_of X G z_ValueError⟩
  have F0 := fun_mk (st := s_falling) l0 c0 k0
  have E0 : FnAt K mg "falling" s_falling P_falling f0 _ := ⟨F0, PySem.W.mg_of X G a0, F0.binds (ps := P_falling) fun _ _ _ _ _ _ us hl => match us, hl with | [_], _ => rfl⟩
  have F1 := fun_mk (st := s_heads_of) l1 c1 k1
  have E1 : FnAt K mg "heads_of" s_heads_of P_heads_of f1 _ := ⟨F1, PySem.W.mg_of X G a1, F1.binds (ps := P_heads_of) fun _ _ _ _ _ _ us hl => match us, hl with | [_], _ => rfl⟩
  have F2 := fun_mk (st := s_is_place) l2 c2 k2
  have E2 : FnAt K mg "is_place" s_is_place P_is_place f2 _ := ⟨F2, PySem.W.mg_of X G a2, F2.binds (ps := P_is_place) fun _ _ _ _ _ _ us hl => match us, hl with | [_, _], _ => rfl⟩
  have F3 := fun_mk (st := s_can_step) l3 c3 k3
  have E3 : FnAt K mg "can_step" s_can_step P_can_step f3 _ := ⟨F3, PySem.W.mg_of X G a3, F3.binds (ps := P_can_step) fun _ _ _ _ _ _ us hl => match us, hl with | [_, _], _ => rfl⟩
  have F4 := fun_mk (st := s_step_made) l4 c4 k4
  have E4 : FnAt K mg "step_made" s_step_made P_step_made f4 _ := ⟨F4, PySem.W.mg_of X G a4, F4.binds (ps := P_step_made) fun _ _ _ _ _ _ us hl => match us, hl with | [_, _], _ => rfl⟩
  have F5 := fun_mk (st := s_row_behind) l5 c5 k5
  have E5 : FnAt K mg "row_behind" s_row_behind P_row_behind f5 _ := ⟨F5, PySem.W.mg_of X G a5, F5.binds (ps := P_row_behind) fun _ _ _ _ _ _ us hl => match us, hl with | [_, _], _ => rfl⟩
  have F6 := fun_mk (st := s_StepPaper_init) l6 c6 k6
  have E6 : MkAt K mg "StepPaper" C_StepPaper "StepPaper.__init__" s_StepPaper_init P_StepPaper_init f6 _ := ⟨F6, ⟨mk_StepPaper, a6, i6, kc_StepPaper⟩, F6.binds (ps := P_StepPaper_init) fun _ _ _ _ _ _ us hl => match us, hl with | [_, _, _, _], _ => rfl, PySem.W.mg_of X G e_StepPaper⟩
  have F7 := fun_mk (st := s_StepPaper_holds) l7 c7 k7
  have E7 : MtAt K C_StepPaper "holds" "StepPaper.holds" s_StepPaper_holds P_StepPaper_holds f7 _ := ⟨F7, ⟨a7, i7, k7⟩, F7.binds (ps := P_StepPaper_holds) fun _ _ _ _ _ _ us hl => match us, hl with | [_], _ => rfl⟩
  have F8 := fun_mk (st := s_BarPaper_init) l8 c8 k8
  have E8 : MkAt K mg "BarPaper" C_BarPaper "BarPaper.__init__" s_BarPaper_init P_BarPaper_init f8 _ := ⟨F8, ⟨mk_BarPaper, a8, i8, kc_BarPaper⟩, F8.binds (ps := P_BarPaper_init) fun _ _ _ _ _ _ us hl => match us, hl with | [_, _, _, _], _ => rfl, PySem.W.mg_of X G e_BarPaper⟩
  have F9 := fun_mk (st := s_BarPaper_holds) l9 c9 k9
  have E9 : MtAt K C_BarPaper "holds" "BarPaper.holds" s_BarPaper_holds P_BarPaper_holds f9 _ := ⟨F9, ⟨a9, i9, k9⟩, F9.binds (ps := P_BarPaper_holds) fun _ _ _ _ _ _ us hl => match us, hl with | [_], _ => rfl⟩
  have F10 := fun_mk (st := s_law_fold) l10 c10 k10
  have E10 : FnAt K mg "_law_fold" s_law_fold P_law_fold f10 _ := ⟨F10, PySem.W.mg_of X G a10, F10.binds (ps := P_law_fold) fun _ _ _ _ _ _ us hl => match us, hl with | [_, _], _ => rfl⟩
  have F11 := fun_mk (st := s_law_next) l11 c11 k11
  have E11 : FnAt K mg "_law_next" s_law_next P_law_next f11 _ := ⟨F11, PySem.W.mg_of X G a11, F11.binds (ps := P_law_next) fun _ _ _ _ _ _ us hl => match us, hl with | [_], _ => rfl⟩
  have F12 := fun_mk (st := s_law_judged) l12 c12 k12
  have E12 : FnAt K mg "_law_judged" s_law_judged P_law_judged f12 _ := ⟨F12, PySem.W.mg_of X G a12, F12.binds (ps := P_law_judged) fun _ _ _ _ _ _ us hl => match us, hl with | [_, _], _ => rfl⟩
  have F13 := fun_mk (st := s_law_row) l13 c13 k13
  have E13 : FnAt K mg "_law_row" s_law_row P_law_row f13 _ := ⟨F13, PySem.W.mg_of X G a13, F13.binds (ps := P_law_row) fun _ _ _ _ _ _ us hl => match us, hl with | [_], _ => rfl⟩
  have F14 := fun_mk (st := s_law_steps) l14 c14 k14
  have E14 : FnAt K mg "_law_steps" s_law_steps P_law_steps f14 _ := ⟨F14, PySem.W.mg_of X G a14, F14.binds (ps := P_law_steps) fun _ _ _ _ _ _ us hl => match us, hl with | [_, _], _ => rfl⟩
  have F15 := fun_mk (st := s_law_made) l15 c15 k15
  have E15 : FnAt K mg "_law_made" s_law_made P_law_made f15 _ := ⟨F15, PySem.W.mg_of X G a15, F15.binds (ps := P_law_made) fun _ _ _ _ _ _ us hl => match us, hl with | [_, _], _ => rfl⟩
  have F16 := fun_mk (st := s_law_spoiled) l16 c16 k16
  have E16 : FnAt K mg "_law_spoiled" s_law_spoiled P_law_spoiled f16 _ := ⟨F16, PySem.W.mg_of X G a16, F16.binds (ps := P_law_spoiled) fun _ _ _ _ _ _ us hl => match us, hl with | [_, _, _], _ => rfl⟩
  have F17 := fun_mk (st := s_law_barred) l17 c17 k17
  have E17 : FnAt K mg "_law_barred" s_law_barred P_law_barred f17 _ := ⟨F17, PySem.W.mg_of X G a17, F17.binds (ps := P_law_barred) fun _ _ _ _ _ _ us hl => match us, hl with | [_, _, _], _ => rfl⟩
  have F18 := fun_mk (st := s_law_put_in) l18 c18 k18
  have E18 : FnAt K mg "_law_put_in" s_law_put_in P_law_put_in f18 _ := ⟨F18, PySem.W.mg_of X G a18, F18.binds (ps := P_law_put_in) fun _ _ _ _ _ _ us hl => match us, hl with | [_, _, _], _ => rfl⟩
  have F19 := fun_mk (st := s_law_blind) l19 c19 k19
  have E19 : FnAt K mg "_law_blind" s_law_blind P_law_blind f19 _ := ⟨F19, PySem.W.mg_of X G a19, F19.binds (ps := P_law_blind) fun _ _ _ _ _ _ us hl => match us, hl with | [_, _], _ => rfl⟩
  have F20 := fun_mk (st := s_law) l20 c20 k20
  have E20 : FnAt K mg "law" s_law P_law fa _ := ⟨F20, PySem.W.mg_of X G a20, F20.binds (ps := P_law) fun _ _ _ _ _ _ us hl => match us, hl with | [_], _ => rfl⟩
  have A_ : Fns K mg ⟨C_MixError, C_NoStep, C_Paper, C_StepPaper, C_BarPaper⟩ := ⟨⟨_, _, E0⟩, ⟨_, _, E1⟩, ⟨_, _, E2⟩, ⟨_, _, E3⟩, ⟨_, _, E4⟩, ⟨_, _, E5⟩, ⟨_, _, E6⟩, ⟨_, _, E7⟩, ⟨_, _, E8⟩, ⟨_, _, E9⟩, ⟨_, _, E10⟩, ⟨_, _, E11⟩, ⟨_, _, E12⟩, ⟨_, _, E13⟩, ⟨_, _, E14⟩, ⟨_, _, E15⟩, ⟨_, _, E16⟩, ⟨_, _, E17⟩, ⟨_, _, E18⟩, ⟨_, _, E19⟩, ⟨_, _, E20⟩⟩
  exact ⟨PySem.W.fnOf "law" "law" (defArgs s_law) (defBody s_law) (defScope s_law) .none kV20 dc20 pm20 an20 cd20 ct20, fun s v => .of_eq rfl, fun base hb _ => ok_law E20 A_ T (c := ⟨C_MixError, C_NoStep, C_Paper, C_StepPaper, C_BarPaper⟩) ⟨PySem.W.mg_of X G e_MixError, PySem.W.mg_of X G e_NoStep, PySem.W.mg_of X G e_Paper, PySem.W.mg_of X G e_StepPaper, PySem.W.mg_of X G e_BarPaper, ⟨⟨pg_StepPaper, hd_StepPaper, po_StepPaper, sa_StepPaper⟩, cl_StepPaper, sg, tg, ob_StepPaper⟩, ko_StepPaper, na_StepPaper_one, na_StepPaper_other, na_StepPaper_steps, ⟨⟨pg_BarPaper, hd_BarPaper, po_BarPaper, sa_BarPaper⟩, cl_BarPaper, sg, tg, ob_BarPaper⟩, ko_BarPaper, na_BarPaper_one, na_BarPaper_other, na_BarPaper_k, ExcObj.of_lookup (ups := []) hb u_MixError rfl v_MixError, ExcObj.of_lookup (ups := [C_MixError]) hb u_NoStep rfl v_NoStep, ⟨ga_NoStep, ge_NoStep, cl_NoStep, ob_NoStep, be_NoStep, by unfold PySem.W.clsIn; rw [u_NoStep]; rfl⟩⟩⟩
theorem walk {l : PySem.W.OpenLaw} {q : Program} {loose : List Str} {XP : (Str → Option Value) → Heap → Prop} {YP : World → Heap → Prop} {d : DefRec} {K : Params → PySem.W.Frag} (hn : l.most = some 63) (hdf : d.params.defaults = [])
    (hY : ∀ (w : World) (h : Heap), YP w h → (K w.params).In h)
    (F : ∀ (w : World) (mg : Str → Option Value) (fa : Addr) (h : Heap), (K w.params).In h → h.Ns mainGlobals mg → mg d.name = some (.ref fa) →
      ∃ fd : FuncData, (∀ (s : Shared) (u : Value), BindsTo s fd ⟨[u], []⟩ [("_law_script", u)]) ∧ ∀ base : Heap, (K w.params).In base → base.Ns mainGlobals mg → FnOk l.prog w (K w.params) mg base CX0 7 fa fd ["_law_script"] (L3.spP (K w.params) S_law)) :
    PySem.W.WalkO q loose XP YP l.row.toRowW d [] (fun f vs => PySem.call f vs) :=
  L2.walk_of (n := 63) (k := 7) (x := "_law_script") (CX := fun _ => CX0) (sp := fun w => L3.spP (K w.params) S_law) hn (by decide) hdf ⟨rfl, by decide, by decide⟩ hY F (fun w H a ns hl hO hS => ⟨[.scr ns], ⟨[], _, _, [], [], rfl, rfl, ⟨a, rfl, L3.sc_of hO hS, rfl⟩, rfl, rfl⟩, law_goal hl (fun v H' fp s r n => r.1)⟩) fun _ _ _ _ _ z => z
end Mine
open PySem PySem.W PyProof.Rows
set_option maxRecDepth 100000 in
set_option maxHeartbeats 0 in
theorem PySem.Challenge.cw_evenmix_k65_step_and_bar_papers_holds : PySem.Challenge.rw_evenmix_k65_step_and_bar_papers.Holds := by
  w_on; o_law; k_head; (case hw => w_witness2)
  k_fill
  refine Mine.walk (l := PySem.Challenge.rw_evenmix_k65_step_and_bar_papers) rfl rfl (fun w h Y => PySem.W.kIn_of Y) ?F
  case F =>
    intro w mg fa h KX G hmg
    refine' Mine.all_mk KX G hmg ?a0 ?l0 ?c0 ?k0 ?a1 ?l1 ?c1 ?k1 ?a2 ?l2 ?c2 ?k2 ?a3 ?l3 ?c3 ?k3 ?a4 ?l4 ?c4 ?k4 ?a5 ?l5 ?c5 ?k5 ?a6 ?i6 ?l6 ?c6 ?k6 ?a7 ?i7 ?l7 ?c7 ?k7 ?a8 ?i8 ?l8 ?c8 ?k8 ?a9 ?i9 ?l9 ?c9 ?k9 ?a10 ?l10 ?c10 ?k10 ?a11 ?l11 ?c11 ?k11 ?a12 ?l12 ?c12 ?k12 ?a13 ?l13 ?c13 ?k13 ?a14 ?l14 ?c14 ?k14 ?a15 ?l15 ?c15 ?k15 ?a16 ?l16 ?c16 ?k16 ?a17 ?l17 ?c17 ?k17 ?a18 ?l18 ?c18 ?k18 ?a19 ?l19 ?c19 ?k19 ?a20 ?l20 ?c20 ?k20 ?sg ?tg ?pg_StepPaper ?hd_StepPaper ?po_StepPaper ?sa_StepPaper ?mk_StepPaper ?kc_StepPaper ?cl_StepPaper ?ob_StepPaper ?ko_StepPaper ?na_StepPaper_one ?na_StepPaper_other ?na_StepPaper_steps ?pg_BarPaper ?hd_BarPaper ?po_BarPaper ?sa_BarPaper ?mk_BarPaper ?kc_BarPaper ?cl_BarPaper ?ob_BarPaper ?ko_BarPaper ?na_BarPaper_one ?na_BarPaper_other ?na_BarPaper_k ?e_MixError ?e_NoStep ?e_Paper ?e_StepPaper ?e_BarPaper ?u_MixError ?v_MixError ?u_NoStep ?v_NoStep ?ga_NoStep ?ge_NoStep ?cl_NoStep ?ob_NoStep ?be_NoStep ?z_len ?z_isinstance ?z_int ?z_bool ?z_list ?z_range ?z_sum ?z_sorted ?z_min ?z_max ?z_ValueError
    (case e_MixError => k_is)
    (case e_NoStep => k_is)
    (case e_Paper => k_is)
    (case e_StepPaper => k_is)
    (case e_BarPaper => k_is)
    (case a0 => k_is)
    (case l0 => k_is)
    (case c0 => k_is)
    (case k0 => k_is)
    (case a1 => k_is)
    (case l1 => k_is)
    (case c1 => k_is)
    (case k1 => k_is)
    (case a2 => k_is)
    (case l2 => k_is)
    (case c2 => k_is)
    (case k2 => k_is)
    (case a3 => k_is)
    (case l3 => k_is)
    (case c3 => k_is)
    (case k3 => k_is)
    (case a4 => k_is)
    (case l4 => k_is)
    (case c4 => k_is)
    (case k4 => k_is)
    (case a5 => k_is)
    (case l5 => k_is)
    (case c5 => k_is)
    (case k5 => k_is)
    (case a6 => k_is)
    (case i6 => k_is)
    (case l6 => k_is)
    (case c6 => k_is)
    (case k6 => k_is)
    (case a7 => k_is)
    (case i7 => k_is)
    (case l7 => k_is)
    (case c7 => k_is)
    (case k7 => k_is)
    (case a8 => k_is)
    (case i8 => k_is)
    (case l8 => k_is)
    (case c8 => k_is)
    (case k8 => k_is)
    (case a9 => k_is)
    (case i9 => k_is)
    (case l9 => k_is)
    (case c9 => k_is)
    (case k9 => k_is)
    (case a10 => k_is)
    (case l10 => k_is)
    (case c10 => k_is)
    (case k10 => k_is)
    (case a11 => k_is)
    (case l11 => k_is)
    (case c11 => k_is)
    (case k11 => k_is)
    (case a12 => k_is)
    (case l12 => k_is)
    (case c12 => k_is)
    (case k12 => k_is)
    (case a13 => k_is)
    (case l13 => k_is)
    (case c13 => k_is)
    (case k13 => k_is)
    (case a14 => k_is)
    (case l14 => k_is)
    (case c14 => k_is)
    (case k14 => k_is)
    (case a15 => k_is)
    (case l15 => k_is)
    (case c15 => k_is)
    (case k15 => k_is)
    (case a16 => k_is)
    (case l16 => k_is)
    (case c16 => k_is)
    (case k16 => k_is)
    (case a17 => k_is)
    (case l17 => k_is)
    (case c17 => k_is)
    (case k17 => k_is)
    (case a18 => k_is)
    (case l18 => k_is)
    (case c18 => k_is)
    (case k18 => k_is)
    (case a19 => k_is)
    (case l19 => k_is)
    (case c19 => k_is)
    (case k19 => k_is)
    (case a20 => k_is)
    (case l20 => k_is)
    (case c20 => k_is)
    (case k20 => k_is)
    (case sg => k_is)
    (case tg => k_is)
    (case pg_StepPaper => k_is)
    (case hd_StepPaper => k_is)
    (case po_StepPaper => k_is)
    (case sa_StepPaper => k_is)
    (case mk_StepPaper => k_is)
    (case kc_StepPaper => k_is)
    (case cl_StepPaper => k_is)
    (case ob_StepPaper => k_is)
    (case ko_StepPaper => kit_is)
    (case na_StepPaper_one => k_is)
    (case na_StepPaper_other => k_is)
    (case na_StepPaper_steps => k_is)
    (case pg_BarPaper => k_is)
    (case hd_BarPaper => k_is)
    (case po_BarPaper => k_is)
    (case sa_BarPaper => k_is)
    (case mk_BarPaper => k_is)
    (case kc_BarPaper => k_is)
    (case cl_BarPaper => k_is)
    (case ob_BarPaper => k_is)
    (case ko_BarPaper => kit_is)
    (case na_BarPaper_one => k_is)
    (case na_BarPaper_other => k_is)
    (case na_BarPaper_k => k_is)
    (case u_MixError => k_is)
    (case v_MixError => k_exc)
    (case u_NoStep => k_is)
    (case v_NoStep => k_exc)
    (case ga_NoStep => k_is)
    (case ge_NoStep => k_is)
    (case cl_NoStep => k_is)
    (case ob_NoStep => k_is)
    (case be_NoStep => k_is)
    (case z_len => k_is)
    (case z_isinstance => k_is)
    (case z_int => k_is)
    (case z_bool => k_is)
    (case z_list => k_is)
    (case z_range => k_is)
    (case z_sum => k_is)
    (case z_sorted => k_is)
    (case z_min => k_is)
    (case z_max => k_is)
    (case z_ValueError => k_is)
