import PyProof.Rows.All
import Wide.All
import OpenK.AllK
import Wide.FinOn
import Lean
import PyProof.EqAt
import PyProof.EqKinds
import PyProof.TupleCall
import PySem.SetOps
import PyProof.TupleKey
import PyProof.DictKinds
import PyProof.SetKind
import PyProof.ListRange
import PyProof.Rows.SetFrom
import PyProof.CollectWalk
import PyProof.Rows.SortShell
import KE.KSortTup
import PyProof.NeKinds
import PyProof.StrLawsIn
import PyProof.StrLawsChain
import PyProof.DictFindH
import PyProof.FactsAll.bool
import KE.KDictList
import PyProof.Rows.SortWalk
import PyProof.ZipIter
import KE.KItemsList
import PyProof.RaisesMany
import PyProof.PassesOwn
import PyProof.ExcClass2
import PyProof.RulesAs
import PyProof.NsDelKeeps
import KE.KTryMore
import KE.KIsNot
import PyProof.ExcArgsOwn
import PyProof.ExcAttrAll.ValueError
import OpenK.KOwn
import PySem.Challenge.RW_keenscale_k02_things_alike
set_option Elab.async false
set_option linter.all false
set_option maxRecDepth 100000
section
set_option Elab.async false
set_option linter.all false
set_option maxRecDepth 100000
namespace L2
open PySem PySem.Spec PyProof.Rows
/-- a key: an int or a str -/
noncomputable abbrev Key := Sum Int Str
noncomputable def keyIs : Key → Value → Bool
  | .inl k, v => Value.isInt k v
  | .inr x, v => Value.isStrOf x v
noncomputable def keyH (w : World) : Key → Int
  | .inl k => hashInt k
  | .inr x => hashStr w x
theorem keyIs_shape : ∀ {k : Key} {v : Value}, keyIs k v = true → (∃ i t, k = Sum.inl i ∧ v = Value.int i t) ∨ (∃ x t, k = Sum.inr x ∧ v = Value.str x t)
  | .inl i, v, h => by
    obtain ⟨t, e⟩ := Value.isInt_shape (k := i) (v := v) h
    exact .inl ⟨i, t, rfl, e⟩
  | .inr x, v, h => by
    obtain ⟨t, e⟩ := Value.isStrOf_shape (x := x) (v := v) h
    exact .inr ⟨x, t, rfl, e⟩
theorem key_ll (a b : Int) : decide ((Sum.inl a : Key) = Sum.inl b) = (a == b) := by
  by_cases e : a = b
  · subst e; simp
  · have h : ¬ (Sum.inl a : Key) = Sum.inl b := fun q => e (Sum.inl.inj q)
    rw [decide_eq_false h]
    exact (beq_eq_false_iff_ne.mpr e).symm
theorem key_rr (a b : Str) : decide ((Sum.inr a : Key) = Sum.inr b) = decide (a = b) := by
  by_cases e : a = b
  · subst e; simp
  · have h : ¬ (Sum.inr a : Key) = Sum.inr b := fun q => e (Sum.inr.inj q)
    rw [decide_eq_false h, decide_eq_false e]
theorem key_lr (a : Int) (b : Str) : decide ((Sum.inl a : Key) = Sum.inr b) = false := decide_eq_false (fun q => nomatch q)
theorem key_rl (a : Str) (b : Int) : decide ((Sum.inr a : Key) = Sum.inl b) = false := decide_eq_false (fun q => nomatch q)
noncomputable def mixKind (prog : Program) (w : World) : PySem.KeyKind prog w Key where
  is := keyIs
  hash := keyH w
  inj := fun v a b ha hb => by
    rcases keyIs_shape ha with ⟨i, t, rfl, rfl⟩ | ⟨x, t, rfl, rfl⟩
    · rcases keyIs_shape hb with ⟨j, u, rfl, e⟩ | ⟨y, u, rfl, e⟩
      · injection e with e1 _; rw [e1]
      · exact nomatch e
    · rcases keyIs_shape hb with ⟨j, u, rfl, e⟩ | ⟨y, u, rfl, e⟩
      · exact nomatch e
      · injection e with e1 _; rw [e1]
  byValue := fun k v h => by
    rcases keyIs_shape h with ⟨i, t, rfl, rfl⟩ | ⟨x, t, rfl, rfl⟩ <;> rfl
  pyHash := fun hv h => by
    rcases keyIs_shape hv with ⟨i, t, rfl, rfl⟩ | ⟨x, t, rfl, rfl⟩
    · exact wpAny_pyHash_int h
    · exact wpAny_pyHash_str h
  eqBool := fun hu hv h => by
    rcases keyIs_shape hu with ⟨i, t, rfl, rfl⟩ | ⟨x, t, rfl, rfl⟩
    · rcases keyIs_shape hv with ⟨j, u, rfl, rfl⟩ | ⟨y, u, rfl, rfl⟩
      · rw [key_ll] at h; exact wpAny_eqBool_int h
      · rw [key_lr] at h; exact SeqAt.EqAt.int_str i t y u _ _ _ _ h
    · rcases keyIs_shape hv with ⟨j, u, rfl, rfl⟩ | ⟨y, u, rfl, rfl⟩
      · rw [key_rl] at h; exact SeqAt.EqAt.str_int x t j u _ _ _ _ h
      · rw [key_rr] at h; exact wpAny_eqBool_str h
  «strs» := fun k x t v h => by
    rcases keyIs_shape h with ⟨i, u, rfl, e⟩ | ⟨y, u, rfl, e⟩
    · exact nomatch e
    · injection e with e1 _
      subst e1
      cases v <;> rfl
end L2
namespace L2
open PySem PySem.Spec PyProof.Rows
/-- a value, without the heap -/
inductive V where
  | non | bl (b : Bool) | int (i : Int) | str (x : Str) | byt (b : Array UInt8) | flt (b : UInt64) | ref (a : Addr) | ty (n : String)
  deriving DecidableEq
noncomputable def RelV : V → Value → Prop
  | .non, u => u = Value.none
  | .bl b, u => u = Value.bool b
  | .int i, u => ∃ t, u = Value.int i t
  | .str x, u => ∃ t, u = Value.str x t
  | .byt b, u => ∃ t, u = Value.bytes b t
  | .flt b, u => ∃ t, u = Value.float b t
  | .ref a, u => u = Value.ref a
  | .ty n, u => u = Value.type n
noncomputable abbrev Vals : List V → List Value → Prop := Paired RelV
theorem Vals.length {xs : List V} {us : List Value} (r : Vals xs us) : xs.length = us.length := Paired.length r
theorem Vals.get : ∀ {xs : List V} {us : List Value} {i : Nat} {x : V}, Vals xs us → xs[i]? = some x → ∃ u, us[i]? = some u ∧ RelV x u
  | _, _, _, _, .nil, e => by simp at e
  | _, _, 0, _, .cons r _, e => by simp at e; subst e; exact ⟨_, rfl, r⟩
  | _, _, i + 1, x, .cons _ t, e => by
    obtain ⟨u, h1, h2⟩ := Vals.get (i := i) (x := x) t (by simpa using e)
    exact ⟨u, by simpa using h1, h2⟩
theorem Vals.set {x : V} {u : Value} (r : RelV x u) : ∀ {xs : List V} {us : List Value} (i : Nat), Vals xs us → Vals (xs.set i x) (us.set i u)
  | _, _, _, .nil => .nil
  | _, _, 0, .cons _ t => .cons r t
  | _, _, i + 1, .cons q t => .cons q (Vals.set r i t)
theorem Vals.append : ∀ {xs ys : List V} {us ws : List Value}, Vals xs us → Vals ys ws → Vals (xs ++ ys) (us ++ ws)
  | _, _, _, _, .nil, s => s
  | _, _, _, _, .cons r t, s => .cons r (Vals.append t s)
theorem Vals.take : ∀ {xs : List V} {us : List Value} (n : Nat), Vals xs us → Vals (xs.take n) (us.take n)
  | _, _, 0, _ => .nil
  | _, _, _ + 1, .nil => .nil
  | _, _, n + 1, .cons r t => .cons r (Vals.take n t)
theorem Vals.drop : ∀ {xs : List V} {us : List Value} (n : Nat), Vals xs us → Vals (xs.drop n) (us.drop n)
  | _, _, 0, r => r
  | _, _, _ + 1, .nil => .nil
  | _, _, n + 1, .cons _ t => Vals.drop n t
noncomputable def RelO : Option V → Option Value → Prop
  | some v, some u => RelV v u
  | none, none => True
  | _, _ => False
noncomputable def KV {κ : Type} : List (κ × V) → List (κ × Value) → Prop := Paired fun (p : κ × V) (q : κ × Value) => p.1 = q.1 ∧ RelV p.2 q.2
/-- a key of a dict (00_mix): an int or a text -/
noncomputable def kV : Key → V
  | .inl i => .int i
  | .inr x => .str x
/-- what stands at a tracked address -/
inductive HO where
  /-- a list -/
  | lst (xs : List V)
  /-- a tuple (never changes) -/
  | tup (xs : List V)
  /-- a dict whose keys are ints and texts; one whose keys are tuples of ints and texts (the empty one is both) -/
  | dK (kvs : List (Key × V)) | dT (kvs : List (List Key × V))
  /-- a set of ints: its members, its size -/
  | set (S : Int → Bool) (n : Nat)
  /-- an instance of the class at C, its dict at dx, its attributes -/
  | ins (C dx : Addr) (fs : List (Str × V))
  /-- the dict of the instance at x -/
  | own (x : Addr)
  /-- the dict of an exception -/
  | xd (fs : List (Str × V))
  /-- a bound method, f of x -/
  | met (f x : Addr)
  /-- a range object lo, lo + 1, .. below hi -/
  | rng (lo hi : Int)
  /-- a thing that is known to the object (the script; a dict while a loop walks it): read, never written while it is so -/
  | frz (o : Obj) (u : HO)
  /-- a code object's table -/
  | tbl (ps : Array Value)
  /-- any other thing, by what is true of its one object (a def of one's own: SetO a S n := HO.ext fun h => ..) -/
  | ext (φ : Heap → Prop)
noncomputable abbrev Hp := Addr → Option HO
noncomputable def upd (H : Hp) (a : Addr) (o : HO) : Hp := fun b => if b = a then some o else H b
theorem upd_same {H : Hp} {a : Addr} {o : HO} : upd H a o a = some o := by unfold upd; rw [if_pos rfl]
theorem upd_ne {H : Hp} {a b : Addr} {o : HO} (h : b ≠ a) : upd H a o b = H b := by unfold upd; rw [if_neg h]
/-- two objects of different content stand apart -/
theorem ne_of {H : Hp} {a b : Addr} {o u : HO} (h : H a = some o) (h' : H b = some u) (d : o ≠ u) : a ≠ b := by
  intro e; subst e; rw [h] at h'; exact d (Option.some.inj h')
theorem ne_of_none {H : Hp} {a b : Addr} {o : HO} (h : H a = some o) (h' : H b = none) : a ≠ b := by
  intro e; subst e; rw [h] at h'; cases h'
section
variable (P : Program) (w : World)
noncomputable def ObjOk (H : Hp) (h : Heap) (a : Addr) : HO → Prop
  | .lst xs => xs.length ≤ sizeLine ∧ ∃ (its : List Value) (n : Nat), Vals xs its ∧ h.get? a = some { cls := .type "list", data := .seq its.toArray n }
  | .tup xs => xs.length ≤ sizeLine ∧ ∃ its : List Value, Vals xs its ∧ IsTup h a its.toArray
  | .dK kvs => kvs.length ≤ sizeLine ∧ (a == sysModules) = false ∧ ∃ vs, KV kvs vs ∧ h.DictOf (mixKind P w) a vs
  | .dT kvs => kvs.length ≤ sizeLine ∧ (a == sysModules) = false ∧ ∃ xs : List (List Key × Addr × Value),
      Paired (fun (p : List Key × V) (q : List Key × Addr × Value) => p.1 = q.1 ∧ H q.2.1 = some (.tup (p.1.map kV)) ∧ RelV p.2 q.2.2) kvs xs ∧
      ∃ o es ep, h.get? a = some o ∧ o.ExactDict ∧ o.data = .dict es ep ∧ es.toList = xs.map (entryOfKey (tupleKind (mixKind P w))) ∧ (xs.map (·.1)).Nodup
  | .set S n => h.SetOf (intKind P w) a S n
  | .ins C dx fs => H dx = some (.own a) ∧ fs.length ≤ 1000 ∧ dx ≠ a ∧ h.get? a = some (PySem.W.instObj C dx) ∧
      ∃ mA, h.Ns1 dx mA ∧ (∀ f, RelO (fs.lookup f) (mA f)) ∧ PySem.Within mA (fs.map (·.1))
  | .own _ => ∃ o, h.get? a = some o
  | .xd fs => ∃ mA, h.Ns1 a mA ∧ ∀ f, RelO (fs.lookup f) (mA f)
  | .rng lo hi => ∃ t u v, h.get? a = some { cls := .type "range", data := .fields #[.int lo t, .int hi u, .int 1 v] }
  | .frz o u => h.get? a = some o ∧ ObjOk H h a u
  | .tbl ps => h.get? a = some { cls := .none, data := .fields ps }
  | .met f x => h.get? a = some (PySem.W.methodObj (.ref f) (.ref x))
  | .ext φ => φ h ∧ (∃ o, h.get? a = some o) ∧ ∀ h1 h2 : Heap, φ h1 → (∀ o, h1.get? a = some o → h2.get? a = some o) → φ h2
/-- the abstract heap is held -/
noncomputable def HOk (H : Hp) (h : Heap) : Prop := ∀ a o, H a = some o → ObjOk P w H h a o
end
section
variable {P : Program} {w : World} {H H' : Hp} {h h' : Heap} {a : Addr} {o : HO}
theorem ObjOk.lt (x : ObjOk P w H h a o) : a < h.objs.size := by
  cases o with
  | lst xs => obtain ⟨_, _, _, _, e⟩ := x; exact Heap.lt_size e
  | tup xs => obtain ⟨_, _, _, p⟩ := x; exact p.lt
  | dK kvs => obtain ⟨_, _, _, _, o, _, _, e, _⟩ := x; exact Heap.lt_size e
  | dT kvs => obtain ⟨_, _, _, _, o, _, _, e, _⟩ := x; exact Heap.lt_size e
  | set S n => obtain ⟨o, _, _, _, e, _⟩ := x; exact Heap.lt_size e
  | ins C dx fs => obtain ⟨_, _, _, e, _⟩ := x; exact Heap.lt_size e
  | own y => obtain ⟨_, e⟩ := x; exact Heap.lt_size e
  | xd fs => obtain ⟨_, ⟨_, _, _, e, _⟩, _⟩ := x; exact Heap.lt_size e
  | rng lo hi => obtain ⟨_, _, _, e⟩ := x; exact Heap.lt_size e
  | frz ob u => obtain ⟨e, _⟩ := x; exact Heap.lt_size e
  | tbl ps => exact Heap.lt_size (show h.get? a = some _ from x)
  | met f y => exact Heap.lt_size (show h.get? a = some _ from x)
  | ext φ => obtain ⟨_, ⟨_, e⟩, _⟩ := x; exact Heap.lt_size e
theorem Paired.mapP {α β : Type} {F G : α → β → Prop} : ∀ {l₁ : List α} {l₂ : List β}, Paired F l₁ l₂ → (∀ a b, F a b → G a b) → Paired G l₁ l₂
  | _, _, .nil, _ => .nil
  | _, _, .cons r t, f => .cons (f _ _ r) (Paired.mapP t f)
/-- what an object's description leans on: its own object, its own dict, the tuples -/
theorem ObjOk.stay (x : ObjOk P w H h a o) (k : ∀ b u, (b = a ∨ H b = some (.own a)) → h.get? b = some u → h'.get? b = some u)
    (ho : ∀ b, H b = some (.own a) → H' b = some (.own a)) (ht : ∀ b xs, H b = some (.tup xs) → H' b = some (.tup xs)) : ObjOk P w H' h' a o := by
  induction o with
  | lst xs => obtain ⟨z, its, n, r, e⟩ := x; exact ⟨z, its, n, r, k _ _ (.inl rfl) e⟩
  | tup xs => obtain ⟨z, its, r, ob, e, c⟩ := x; exact ⟨z, its, r, ob, k _ _ (.inl rfl) e, c⟩
  | dK kvs => obtain ⟨z, y, vs, r, ob, es, ep, e, c⟩ := x; exact ⟨z, y, vs, r, ob, es, ep, k _ _ (.inl rfl) e, c⟩
  | dT kvs =>
    obtain ⟨z, y, xs, r, ob, es, ep, e, c⟩ := x
    exact ⟨z, y, xs, Paired.mapP r fun p q z => ⟨z.1, ht _ _ z.2.1, z.2.2⟩, ob, es, ep, k _ _ (.inl rfl) e, c⟩
  | set S n => obtain ⟨ob, es, ep, t, e, c⟩ := x; exact ⟨ob, es, ep, t, k _ _ (.inl rfl) e, c⟩
  | ins C dx fs =>
    obtain ⟨d, z, ne, e, mA, ⟨od, es, ep, e2, c⟩, r⟩ := x
    exact ⟨ho _ d, z, ne, k _ _ (.inl rfl) e, mA, ⟨od, es, ep, k _ _ (.inr d) e2, c⟩, r⟩
  | own y => obtain ⟨ob, e⟩ := x; exact ⟨ob, k _ _ (.inl rfl) e⟩
  | xd fs => obtain ⟨mA, ⟨od, es, ep, e, c⟩, r⟩ := x; exact ⟨mA, ⟨od, es, ep, k _ _ (.inl rfl) e, c⟩, r⟩
  | rng lo hi => obtain ⟨t, u, v, e⟩ := x; exact ⟨t, u, v, k _ _ (.inl rfl) e⟩
  | frz ob u ih => obtain ⟨e, q⟩ := x; exact ⟨k _ _ (.inl rfl) e, ih q⟩
  | tbl ps =>
    have e : h.get? a = some { cls := .none, data := .fields ps } := x
    show h'.get? a = some { cls := .none, data := .fields ps }
    exact k a _ (.inl rfl) e
  | met f y =>
    have e : h.get? a = some (PySem.W.methodObj (.ref f) (.ref y)) := x
    show h'.get? a = some (PySem.W.methodObj (.ref f) (.ref y))
    exact k a _ (.inl rfl) e
  | ext φ => obtain ⟨p, ⟨o, e⟩, st⟩ := x; exact ⟨st _ _ p fun o q => k _ _ (.inl rfl) q, ⟨o, k _ _ (.inl rfl) e⟩, st⟩
theorem HOk.lt (x : HOk P w H h) (e : H a = some o) : a < h.objs.size := (x a o e).lt
theorem HOk.fresh (x : HOk P w H h) (e : h.objs.size ≤ a) : H a = none := by
  cases q : H a with
  | none => rfl
  | some u => exact absurd (Nat.lt_of_lt_of_le (x.lt q) e) (Nat.lt_irrefl _)
/-- every object of the heap is kept -/
theorem HOk.kept (x : HOk P w H h) (k : ∀ b u, h.get? b = some u → h'.get? b = some u) : HOk P w H h' := fun a o e =>
  (x a o e).stay (fun b u _ q => k b u q) (fun _ q => q) fun _ _ q => q
/-- a new object is laid and tracked -/
theorem HOk.laid (x : HOk P w H h) (k : ∀ b u, h.get? b = some u → h'.get? b = some u) (hp : h.objs.size ≤ a) (new : ObjOk P w (upd H a o) h' a o) : HOk P w (upd H a o) h' := fun b u e => by
  have hn := x.fresh hp
  by_cases hb : b = a
  · subst hb; rw [upd_same] at e; cases e; exact new
  · rw [upd_ne hb] at e
    exact (x b u e).stay (fun c v _ q => k c v q) (fun c q => by rw [upd_ne (ne_of_none q hn)]; exact q) fun c xs q => by rw [upd_ne (ne_of_none q hn)]; exact q
end
/-- what may be read as u: it is u, or a known u -/
noncomputable def Rd (H : Hp) (a : Addr) (u : HO) : Prop := H a = some u ∨ ∃ o, H a = some (.frz o u)
theorem Rd.ok {P : Program} {w : World} {H : Hp} {h : Heap} {a : Addr} {u : HO} (r : Rd H a u) (x : HOk P w H h) : ObjOk P w H h a u := by
  rcases r with r | ⟨o, r⟩
  · exact x a u r
  · obtain ⟨_, q⟩ := x a _ r
    exact q
/-- what may be written -/
noncomputable def Mut : Option HO → Prop
  | some (.lst _) => True
  | some (.dK _) => True
  | some (.dT _) => True
  | some (.set _ _) => True
  | some (.ins _ _ _) => True
  | some (.ext _) => True
  | _ => False
section
variable {P : Program} {w : World} {H : Hp} {h h' : Heap} {x e : Addr} {o' : HO}
/-- the object at e is changed: x itself, or the dict of the instance x -/
theorem HOk.write (ok : HOk P w H h) (mu : Mut (H x)) (he : e = x ∨ H e = some (.own x)) (k : ∀ b u, b ≠ e → h.get? b = some u → h'.get? b = some u) (heo : ∃ u, h'.get? e = some u)
    (new : ObjOk P w (upd H x o') h' x o') : HOk P w (upd H x o') h' := fun b u q => by
  have nown : ∀ c y, H c = some (.own y) → c ≠ x := fun c y r z => by subst z; rw [r] at mu; exact mu
  have ntup : ∀ c xs, H c = some (.tup xs) → c ≠ x := fun c xs r z => by subst z; rw [r] at mu; exact mu
  by_cases hb : b = x
  · subst hb; rw [upd_same] at q; cases q; exact new
  · rw [upd_ne hb] at q
    by_cases hbe : b = e
    · have q' : H b = some (.own x) := by
        rcases he with z | z
        · exact absurd (hbe.trans z) hb
        · rw [hbe]; exact z
      rw [q] at q'; cases q'
      obtain ⟨v, hv⟩ := heo
      exact ⟨v, by rw [hbe]; exact hv⟩
    · refine (ok b u q).stay (fun c v hc r => k c v ?_ r) (fun c r => by rw [upd_ne (nown c b r)]; exact r) fun c xs r => by rw [upd_ne (ntup c xs r)]; exact r
      rcases hc with rfl | hc
      · exact hbe
      · rintro rfl
        rcases he with z | z
        · exact nown c b hc z
        · rw [hc] at z; cases z; exact hb rfl
end
structure Un (fs ex : List Addr) (H H' : Hp) (h h' : Heap) : Prop where
  keep : ∀ b o, h.get? b = some o → H b = none → b ∉ fs → b ∉ ex → h'.get? b = some o
  slot : ∀ b o, h.get? b = some o → H b = none → b ∈ fs → b ∉ ex → ∃ sl, h'.get? b = some { o with slots := sl }
  free : ∀ b o, h.get? b = some o → H b = none → b ∉ ex → H' b = none
  there : ∀ b o, h.get? b = some o → b ∉ ex → ∃ o', h'.get? b = some o'
  tups : ∀ b xs, H b = some (.tup xs) → H' b = some (.tup xs)
  frzs : ∀ b o u, H b = some (.frz o u) → H' b = some (.frz o u)
  tbls : ∀ b ps, H b = some (.tbl ps) → ∃ more, H' b = some (.tbl (ps ++ more))
section
variable {fs fs' ex ex' : List Addr} {H H1 H2 : Hp} {h h1 h2 h' : Heap} {a x e : Addr} {o : HO}
theorem Un.any (u : Un fs ex H H1 h h1) {b : Addr} {ob : Obj} (q : h.get? b = some ob) (n : H b = none) (hx : b ∉ ex) : ∃ sl, h1.get? b = some { ob with slots := sl } := by
  by_cases hb : b ∈ fs
  · exact u.slot b ob q n hb hx
  · exact ⟨ob.slots, u.keep b ob q n hb hx⟩
theorem Un.kept (k : ∀ b u, h.get? b = some u → h'.get? b = some u) : Un fs ex H H h h' :=
  ⟨fun b ob q _ _ _ => k b ob q, fun b ob q _ _ _ => ⟨ob.slots, k b ob q⟩, fun _ _ _ n _ => n, fun b ob q _ => ⟨ob, k b ob q⟩, fun _ _ q => q, fun _ _ _ q => q, fun _ ps q => ⟨#[], by rw [q]; simp⟩⟩
theorem Un.refl : Un fs ex H H h h := Un.kept fun _ _ q => q
theorem Un.laid (k : ∀ b u, h.get? b = some u → h'.get? b = some u) (hp : h.objs.size ≤ a) (hn : H a = none) : Un fs ex H (upd H a o) h h' where
  keep := fun b u q _ _ _ => k b u q
  slot := fun b u q _ _ _ => ⟨u.slots, k b u q⟩
  free := fun b u q n _ => by rw [upd_ne (Nat.ne_of_lt (Nat.lt_of_lt_of_le (Heap.lt_size q) hp))]; exact n
  there := fun b u q _ => ⟨u, k b u q⟩
  tups := fun b xs q => by rw [upd_ne (ne_of_none q hn)]; exact q
  frzs := fun b u xs q => by rw [upd_ne (ne_of_none q hn)]; exact q
  tbls := fun b ps q => ⟨#[], by rw [upd_ne (ne_of_none q hn), q]; simp⟩
theorem Un.write (mu : Mut (H x)) (he : e = x ∨ H e = some (.own x)) (k : ∀ b u, b ≠ e → h.get? b = some u → h'.get? b = some u) (heo : ∃ u, h'.get? e = some u) : Un fs ex H (upd H x o) h h' := by
  have hx : ∀ b, H b = none → b ≠ x := fun b n z => by subst z; rw [n] at mu; exact mu
  have hb : ∀ b, H b = none → b ≠ e := fun b n z => by
    subst z
    rcases he with r | r
    · exact hx b n r
    · rw [n] at r; cases r
  have hm : ∀ b u, H b = some u → ¬ Mut (some u) → b ≠ x := fun b u q nm z => by subst z; rw [q] at mu; exact nm mu
  refine ⟨fun b u q n _ _ => k b u (hb b n) q, fun b u q n _ _ => ⟨u.slots, k b u (hb b n) q⟩, fun b u q n _ => by rw [upd_ne (hx b n)]; exact n, fun b u q _ => ?_,
    fun b xs q => by rw [upd_ne (hm b _ q fun z => z)]; exact q, fun b u xs q => by rw [upd_ne (hm b _ q fun z => z)]; exact q, fun b ps q => ⟨#[], by rw [upd_ne (hm b _ q fun z => z), q]; simp⟩⟩
  by_cases hbe : b = e
  · subst hbe; exact heo
  · exact ⟨u, k b u hbe q⟩
end
noncomputable def trk (h : Heap) (H : Hp) : List Addr := (List.range h.objs.size).filter fun a => (H a).isSome
noncomputable def hidT (h : Heap) (H : Hp) : Heap := PySem.W.hideAll h (trk h H)
theorem hidT_size (h : Heap) (H : Hp) : (hidT h H).objs.size = h.objs.size := PySem.W.hideAll_size _ _
theorem hidT_get {h : Heap} {H : Hp} {b : Addr} {o : Obj} (e : h.get? b = some o) (n : H b = none) : (hidT h H).get? b = some o :=
  PySem.W.hideAll_get _ e fun hm => by
    have q : (H b).isSome = true := (List.mem_filter.mp hm).2
    rw [n] at q; simp at q
theorem of_hidT {h : Heap} {H : Hp} {b : Addr} {o : Obj} (e : (hidT h H).get? b = some o) : h.get? b = some o ∧ H b = none := by
  have e' : h.get? b = some o := PySem.W.of_hideAll (trk h H) e
  refine ⟨e', ?_⟩
  cases q : H b with
  | none => rfl
  | some x =>
    have hm : b ∈ trk h H := List.mem_filter.mpr ⟨List.mem_range.mpr (Heap.lt_size e'), by simp [q]⟩
    have z : (hidT h H).get? b = none := PySem.W.hideAll_none (trk h H) hm
    rw [z] at e; cases e
end L2
namespace L2
open PySem PySem.Spec PyProof.Rows
/-- the module's facts, over the base: the heap at the law's entry without what is tracked there -/
structure Mod (K : PySem.W.Frag) (mg : Str → Option Value) (base : Heap) : Prop where
  kin : K.In base
  glob : base.Ns mainGlobals mg
  blt : ∃ mb, base.Ns builtinsNs mb ∧ ∀ x : Str, x ≠ "__name__" → mb x = bootBuiltins x
  nolimit : base.NoLimit
/-- the context: a def's body (or a comprehension's block) running. base: fixed through the whole law; s₀, H₀: the entry; outer: the frames whose slots others may change (a def's callers); stack: all frames that run;
   ex: iterators that were made ahead of the entry and are walked here (a comprehension's); fn: the names whose cells were made at the entry (a def: all; a comprehension's block: its own); calm: not within an except suite; pn: pins that every state bears; xe: what is wanted of an exception that leaves the code -/
structure Cx where
  prog : Program
  w : World
  K : PySem.W.Frag
  mg : Str → Option Value
  base : Heap
  A : Around
  N : List Str
  s₀ : Shared
  H₀ : Hp
  env : Env
  outer : List Env
  stack : List Env
  ex : List Addr
  fn : Str → Bool
  calm : Bool
  pn : List (Addr × Obj)
  xe : Value → Shared → Prop
/-- the callers' frames -/
noncomputable def frs (l : List Env) : List Addr := l.filterMap (·.frame)
noncomputable abbrev Cx.fs (X : Cx) : List Addr := frs X.outer
noncomputable def Vis (sc : Scope) (x : Str) : Prop := sc.names.lookup x = some .local ∨ sc.names.lookup x = some .cell ∨ sc.names.lookup x = some .free
noncomputable def Loc (sc : Scope) (x : Str) : Prop := sc.names.lookup x = some .local ∨ sc.names.lookup x = some .cell
noncomputable def Look (env : Env) (h : Heap) (m : Str → Option Value) (x : Str) (u : Value) : Prop :=
  (env.kindOf x = some .local ∧ m x = some u) ∨ ((env.kindOf x = some .cell ∨ env.kindOf x = some .free) ∧ ∃ c, env.cells.lookup x = some c ∧ h.IsCell c (some u))
structure Cx.Ok (X : Cx) : Prop where
  mod : Mod X.K X.mg X.base
  kind : X.env.scope.kind = .function
  glob : X.env.globals = mainGlobals
  blt : X.env.builtins = builtinsNs
  above : X.s₀.heap.objs.size ≤ X.env.locals
  inj : ∀ x y c, X.env.cells.lookup x = some c → X.env.cells.lookup y = some c → x = y
  has : ∀ x, (X.env.kindOf x = some .cell ∨ X.env.kindOf x = some .free) → ∃ c, X.env.cells.lookup x = some c
  cab : ∀ x c, X.fn x = true → X.env.cells.lookup x = some c → X.s₀.heap.objs.size ≤ c
  hd : X.calm = true → X.A.handled = none
  frames : X.A.frames = some X.stack
  stk : X.stack = X.outer ∨ (X.stack = X.env :: X.outer ∧ X.env.frame = some X.env.locals)
  exf : ∀ b ∈ X.ex, b ≠ X.env.locals ∧ ∀ x c, X.env.cells.lookup x = some c → c ≠ b
  bs : ∀ b o, X.base.get? b = some o → X.s₀.heap.get? b = some o ∧ X.H₀ b = none
  bsz : X.base.objs.size ≤ X.s₀.heap.objs.size
  noex : ∀ b o, X.base.get? b = some o → b ∉ X.ex
  exfs : ∀ b ∈ X.ex, b ∉ X.fs
  funs : X.s₀.heap.FunFrames X.base X.outer
  frf : ∀ b ∈ X.fs, X.H₀ b = none
structure Inv (X : Cx) (pins : List (Addr × Obj)) (σ : List (Option V)) (H : Hp) (s : Shared) : Prop where
  ok : X.Ok
  os : s.os = X.s₀.os
  bare : AllBare s.gens
  base : Un X.fs X.ex X.H₀ H X.s₀.heap s.heap
  loc : ∃ m, s.heap.Ns X.env.locals m ∧ ∀ (i : Nat) (x : Str) (v : V), X.N[i]? = some x → σ[i]? = some (some v) → Vis X.env.scope x → ∃ u, RelV v u ∧ Look X.env s.heap m x u
  cell : ∀ x c, X.env.cells.lookup x = some c → ∃ v, s.heap.IsCell c v
  free : H X.env.locals = none
  freeC : ∀ x c, X.env.cells.lookup x = some c → H c = none
  pin : ∀ p ∈ X.pn ++ pins, s.heap.get? p.1 = some p.2 ∧ H p.1 = none ∧ p.1 ≠ X.env.locals ∧ p.1 ∉ X.fs ∧ ∀ v, p.2.data ≠ .cell v
  hok : HOk X.prog X.w H s.heap
  len : σ.length = X.N.length
section
variable {X : Cx} {pins : List (Addr × Obj)} {σ : List (Option V)} {H H' : Hp} {s : Shared} {h' : Heap}
theorem Cx.Ok.nofr (ok : X.Ok) {b : Addr} {o : Obj} (e : X.base.get? b = some o) : b ∉ X.fs := fun hb => by
  have := (ok.funs.mem hb).1
  rw [e] at this; cases this
theorem Inv.bs (I : Inv X pins σ H s) : ∀ b o, X.base.get? b = some o → s.heap.get? b = some o ∧ H b = none := fun b o e =>
  ⟨I.base.keep b o (I.ok.bs b o e).1 (I.ok.bs b o e).2 (I.ok.nofr e) (I.ok.noex b o e), I.base.free b o (I.ok.bs b o e).1 (I.ok.bs b o e).2 (I.ok.noex b o e)⟩
theorem Inv.bk (I : Inv X pins σ H s) : ∀ b o, X.base.get? b = some o → s.heap.get? b = some o := fun b o e => (I.bs b o e).1
theorem Inv.mod (I : Inv X pins σ H s) : Mod X.K X.mg X.base := I.ok.mod
theorem Inv.kIn (I : Inv X pins σ H s) : X.K.In s.heap := I.ok.mod.kin.keeps I.bk
theorem Inv.lt (I : Inv X pins σ H s) : X.env.locals < s.heap.objs.size := let ⟨_, hn, _⟩ := I.loc; hn.lt
theorem Inv.sz (I : Inv X pins σ H s) : X.s₀.heap.objs.size ≤ s.heap.objs.size := Nat.le_trans I.ok.above (Nat.le_of_lt I.lt)
theorem Inv.nofs (I : Inv X pins σ H s) {a : Addr} (h : s.heap.objs.size ≤ a) : a ∉ X.fs := fun hb => by
  obtain ⟨_, o, ho, _⟩ := I.ok.funs.mem hb
  exact absurd (Nat.lt_of_lt_of_le (Heap.lt_size ho) (Nat.le_trans I.sz h)) (Nat.lt_irrefl _)
theorem Inv.cne (I : Inv X pins σ H s) : ∀ x c, X.env.cells.lookup x = some c → c ≠ X.env.locals := fun x c e z => by
  obtain ⟨v, o, ho, hd⟩ := I.cell x c e
  obtain ⟨m, ⟨o', es, ep, ho', hd', _⟩, _⟩ := I.loc
  rw [z, ho'] at ho; cases ho; rw [hd'] at hd; cases hd
theorem Inv.funs (I : Inv X pins σ H s) : s.heap.FunFrames X.base X.outer := by
  have all : ∀ (l : List Env), (∀ b ∈ frs l, b ∈ X.fs) → X.s₀.heap.FunFrames X.base l → s.heap.FunFrames X.base l := by
    intro l
    induction l with
    | nil => intro _ _; trivial
    | cons env r ih =>
      intro hs hl
      obtain ⟨hk, ⟨L, o, hf, hn, ho, hd⟩, hr⟩ := hl
      have hL : L ∈ X.fs := hs L (by unfold frs; rw [List.filterMap_cons, hf]; exact List.mem_cons_self)
      obtain ⟨sl, e⟩ := I.base.slot L o ho (I.ok.frf L hL) hL fun z => I.ok.exfs L z hL
      exact ⟨hk, ⟨L, _, hf, hn, e, hd⟩, ih (fun b hb => hs b (by unfold frs; rw [List.filterMap_cons, hf]; exact List.mem_cons_of_mem _ hb)) hr⟩
  exact all X.outer (fun _ hb => hb) I.ok.funs
/-- the frames that run, for a call -/
theorem Inv.stack (I : Inv X pins σ H s) : s.heap.FunFrames X.base X.stack := by
  rcases I.ok.stk with e | ⟨e, hf⟩
  · rw [e]; exact I.funs
  · rw [e]
    obtain ⟨m, hn, _⟩ := I.loc
    refine .cons (by rw [I.ok.kind]; decide) hf hn ?_ I.funs
    exact Heap.get?_none_of_le (Nat.le_trans I.ok.bsz I.ok.above)
theorem Inv.stkSub (I : Inv X pins σ H s) : ∀ b ∈ frs X.stack, b ∈ X.env.locals :: X.fs := fun b hb => by
  rcases I.ok.stk with e | ⟨e, hf⟩
  · rw [e] at hb; exact List.mem_cons_of_mem _ hb
  · rw [e] at hb
    unfold frs at hb
    rw [List.filterMap_cons, hf] at hb
    exact hb
theorem Inv.stkFree (I : Inv X pins σ H s) : ∀ b ∈ frs X.stack, H b = none := fun b hb => by
  rcases List.mem_cons.mp (I.stkSub b hb) with e | hb
  · rw [e]; exact I.free
  · obtain ⟨_, o, ho, _⟩ := I.ok.funs.mem hb
    exact I.base.free b o ho (I.ok.frf b hb) fun z => I.ok.exfs b z hb
/-- THE STEP: the untracked objects but the frame and the records at ch are kept (the callers' frames up to slots), the frame's map is kept, the new abstract heap is held -/
theorem Inv.step {g' : Array GenState} {t' : Nat} {d' : Drawn} {ch : List Addr} (I : Inv X pins σ H s)
    (hch : ∀ b ∈ ch, (b ∈ X.ex ∨ X.s₀.heap.objs.size ≤ b) ∧ b ≠ X.env.locals ∧ (∀ x c, X.env.cells.lookup x = some c → c ≠ b) ∧ ∀ p ∈ X.pn ++ pins, p.1 ≠ b)
    (keep : ∀ b o, b ≠ X.env.locals → b ∉ X.fs → b ∉ ch → s.heap.get? b = some o → H b = none → h'.get? b = some o)
    (slot : ∀ b o, b ≠ X.env.locals → b ∈ X.fs → b ∉ ch → s.heap.get? b = some o → H b = none → ∃ sl, h'.get? b = some { o with slots := sl }) (free : ∀ b o, b ∉ ch → s.heap.get? b = some o → H b = none → H' b = none)
    (there : ∀ b o, b ∉ ch → s.heap.get? b = some o → ∃ o', h'.get? b = some o')
    (tups : ∀ b xs, H b = some (.tup xs) → H' b = some (.tup xs)) (frzs : ∀ b o u, H b = some (.frz o u) → H' b = some (.frz o u)) (tbls : ∀ b ps, H b = some (.tbl ps) → ∃ more, H' b = some (.tbl (ps ++ more)))
    (ns : ∀ m, s.heap.Ns X.env.locals m → h'.Ns X.env.locals m) (hok : HOk X.prog X.w H' h') (hg : AllBare g') :
    Inv X pins σ H' { s with heap := h', gens := g', drawn := d', toks := t' } := by
  have neL : ∀ b o, X.s₀.heap.get? b = some o → b ≠ X.env.locals := fun b o e => Nat.ne_of_lt (Nat.lt_of_lt_of_le (Heap.lt_size e) I.ok.above)
  have neC : ∀ b o, X.s₀.heap.get? b = some o → b ∉ X.ex → b ∉ ch := fun b o e hx hb => by
    rcases (hch b hb).1 with z | z
    · exact hx z
    · exact absurd (Nat.lt_of_lt_of_le (Heap.lt_size e) z) (Nat.lt_irrefl _)
  have cellK : ∀ x c, X.env.cells.lookup x = some c → ∀ v, s.heap.IsCell c v → h'.IsCell c v := fun x c e v ⟨o, ho, hd⟩ => by
    have nch : c ∉ ch := fun z => (hch c z).2.2.1 x c e rfl
    by_cases hc : c ∈ X.fs
    · obtain ⟨sl, q⟩ := slot c o (I.cne x c e) hc nch ho (I.freeC x c e)
      exact ⟨_, q, hd⟩
    · exact ⟨o, keep c o (I.cne x c e) hc nch ho (I.freeC x c e), hd⟩
  refine ⟨I.ok, I.os, hg, ⟨fun b o e n hb hx => ?_, fun b o e n hb hx => ?_, fun b o e n hx => ?_, fun b o e hx => ?_, fun b xs e => tups b xs (I.base.tups b xs e), fun b o xs e => frzs b o xs (I.base.frzs b o xs e), fun b ps e => ?_⟩, ?_, fun x c e => ?_, ?_, fun x c e => ?_, fun p hp => ?_, hok, I.len⟩
  · exact keep b o (neL b o e) hb (neC b o e hx) (I.base.keep b o e n hb hx) (I.base.free b o e n hx)
  · obtain ⟨sl, e1⟩ := I.base.slot b o e n hb hx
    obtain ⟨sl', e2⟩ := slot b _ (neL b o e) hb (neC b o e hx) e1 (I.base.free b o e n hx)
    exact ⟨sl', e2⟩
  · obtain ⟨o', e1⟩ := I.base.there b o e hx
    exact free b o' (neC b o e hx) e1 (I.base.free b o e n hx)
  · obtain ⟨o', e1⟩ := I.base.there b o e hx
    exact there b o' (neC b o e hx) e1
  · obtain ⟨m1, e1⟩ := I.base.tbls b ps e
    obtain ⟨m2, e2⟩ := tbls b _ e1
    exact ⟨m1 ++ m2, by rw [e2, Array.append_assoc]⟩
  · obtain ⟨m, hn, hl⟩ := I.loc
    refine ⟨m, ns m hn, fun i x v e1 e2 e3 => ?_⟩
    obtain ⟨u, r, l⟩ := hl i x v e1 e2 e3
    refine ⟨u, r, ?_⟩
    rcases l with l | ⟨k, c, e, z⟩
    · exact .inl l
    · exact .inr ⟨k, c, e, cellK x c e _ z⟩
  · obtain ⟨v, z⟩ := I.cell x c e
    exact ⟨v, cellK x c e v z⟩
  · obtain ⟨m, ⟨o, _, _, ho, _⟩, _⟩ := I.loc
    exact free _ o (fun z => (hch _ z).2.1 rfl) ho I.free
  · obtain ⟨v, o, ho, hd⟩ := I.cell x c e
    exact free c o (fun z => (hch c z).2.2.1 x c e rfl) ho (I.freeC x c e)
  · obtain ⟨e, n, ne, nf, d⟩ := I.pin p hp
    have nch : p.1 ∉ ch := fun z => (hch p.1 z).2.2.2 p hp rfl
    exact ⟨keep p.1 p.2 ne nf nch e n, free p.1 p.2 nch e n, ne, nf, d⟩
/-- .. where the frame's own object is kept too -/
theorem Inv.un {t' : Nat} (I : Inv X pins σ H s) (u : Un X.fs [] H H' s.heap h') (hok : HOk X.prog X.w H' h') : Inv X pins σ H' { s with heap := h', toks := t' } := by
  obtain ⟨m, ⟨o, es, ep, ho, r⟩, _⟩ := id I.loc
  obtain ⟨sl, hL⟩ := u.any ho I.free (by simp)
  exact I.step (g' := s.gens) (d' := s.drawn) (ch := []) (fun _ z => nomatch z) (fun b o _ hb _ e n => u.keep b o e n hb (by simp)) (fun b o _ hb _ e n => u.slot b o e n hb (by simp)) (fun b o _ e n => u.free b o e n (by simp)) (fun b o _ e => u.there b o e (by simp)) u.tups u.frzs u.tbls (fun m' hm => by
    obtain ⟨o', es', ep', ho', r'⟩ := hm
    rw [ho] at ho'; cases ho'
    exact ⟨_, es', ep', hL, r'⟩) hok I.bare
/-- behind a call (or a comprehension's block): the slots of this frame may have changed too, the records at ch may have turned -/
theorem Inv.call {g' : Array GenState} {t' : Nat} {d' : Drawn} {ch : List Addr} (I : Inv X pins σ H s) (u : Un (frs X.stack) ch H H' s.heap h') (hok : HOk X.prog X.w H' h') (hg : AllBare g')
    (hch : ∀ b ∈ ch, (b ∈ X.ex ∨ X.s₀.heap.objs.size ≤ b) ∧ b ≠ X.env.locals ∧ (∀ x c, X.env.cells.lookup x = some c → c ≠ b) ∧ ∀ p ∈ X.pn ++ pins, p.1 ≠ b) :
    Inv X pins σ H' { s with heap := h', gens := g', drawn := d', toks := t' } := by
  obtain ⟨m, ⟨o, es, ep, ho, r⟩, _⟩ := id I.loc
  obtain ⟨sl, hL⟩ := u.any ho I.free fun z => (hch _ z).2.1 rfl
  exact I.step (ch := ch) hch (fun b o hL hb hc e n => u.keep b o e n (fun z => (List.mem_cons.mp (I.stkSub b z)).elim hL hb) hc) (fun b o _ _ hc e n => u.any e n hc) (fun b o hc e n => u.free b o e n hc) (fun b o hc e => u.there b o e hc) u.tups u.frzs u.tbls (fun m' hm => by
    obtain ⟨o', es', ep', ho', r'⟩ := hm
    rw [ho] at ho'; cases ho'
    exact ⟨_, es', ep', hL, r'⟩) hok hg
/-- an untracked record of ours (an iterator) has turned -/
theorem Inv.turned {t' : Nat} {it : Addr} (I : Inv X pins σ H s) (k : ∀ b o, b ≠ it → s.heap.get? b = some o → h'.get? b = some o) (hn : H it = none) (hL : it ≠ X.env.locals)
    (h1 : it ∈ X.ex ∨ X.s₀.heap.objs.size ≤ it) (h2 : ∀ x c, X.env.cells.lookup x = some c → c ≠ it) (h3 : ∀ p ∈ X.pn ++ pins, p.1 ≠ it) : Inv X pins σ H { s with heap := h', toks := t' } := by
  have nit : ∀ b u, H b = some u → b ≠ it := fun b u e z => by rw [z, hn] at e; cases e
  refine I.step (g' := s.gens) (d' := s.drawn) (ch := [it]) (fun b hb => ?_) (fun b o _ _ hc e _ => k b o (fun z => hc (by simp [z])) e) (fun b o _ _ hc e _ => ⟨o.slots, k b o (fun z => hc (by simp [z])) e⟩) (fun _ _ _ _ n => n)
    (fun b o hc e => ⟨o, k b o (fun z => hc (by simp [z])) e⟩) (fun _ _ e => e) (fun _ _ _ e => e) (fun b ps e => ⟨#[], by rw [e]; simp⟩) (fun m hm => ?_) (fun b u e => ?_) I.bare
  · have e : b = it := by simpa using hb
    subst e
    exact ⟨h1, hL, h2, h3⟩
  · obtain ⟨o, es, ep, ho, r⟩ := hm
    exact ⟨o, es, ep, k _ o (Ne.symm hL) ho, r⟩
  · refine (I.hok b u e).stay (fun c v hc q => k c v ?_ q) (fun _ q => q) fun _ _ q => q
    rcases hc with z | z
    · rw [z]; exact nit b u e
    · exact nit c _ z
theorem Inv.tok (I : Inv X pins σ H s) (t : Nat) : Inv X pins σ H { s with toks := t } := I.un (h' := s.heap) (t' := t) Un.refl I.hok
/-- all objects kept -/
theorem Inv.kept {t' : Nat} (I : Inv X pins σ H s) (k : ∀ b u, s.heap.get? b = some u → h'.get? b = some u) : Inv X pins σ H { s with heap := h', toks := t' } := I.un (Un.kept k) (I.hok.kept k)
/-- a new object laid and tracked -/
theorem Inv.laid {a : Addr} {o : HO} {t' : Nat} (I : Inv X pins σ H s) (k : ∀ b u, s.heap.get? b = some u → h'.get? b = some u) (hp : s.heap.objs.size ≤ a) (new : ObjOk X.prog X.w (upd H a o) h' a o) :
    Inv X pins σ (upd H a o) { s with heap := h', toks := t' } := I.un (Un.laid k hp (I.hok.fresh hp)) (I.hok.laid k hp new)
/-- an object written -/
theorem Inv.write {x e : Addr} {o : HO} {t' : Nat} (I : Inv X pins σ H s) (mu : Mut (H x)) (he : e = x ∨ H e = some (.own x)) (k : ∀ b u, b ≠ e → s.heap.get? b = some u → h'.get? b = some u) (heo : ∃ u, h'.get? e = some u)
    (new : ObjOk X.prog X.w (upd H x o) h' x o) : Inv X pins σ (upd H x o) { s with heap := h', toks := t' } := I.un (Un.write mu he k heo) (I.hok.write mu he k heo new)
/-- forgetting slots, pins -/
theorem Inv.weak {σ' : List (Option V)} (I : Inv X pins σ H s) (hl : σ'.length = σ.length) (w : ∀ (i : Nat) v, σ'[i]? = some (some v) → σ[i]? = some (some v)) : Inv X pins σ' H s :=
  ⟨I.ok, I.os, I.bare, I.base, let ⟨m, hn, hl'⟩ := I.loc; ⟨m, hn, fun i x v e1 e2 e3 => hl' i x v e1 (w i v e2) e3⟩, I.cell, I.free, I.freeC, I.pin, I.hok, hl.trans I.len⟩
theorem Inv.pins_of {pins' : List (Addr × Obj)} (I : Inv X pins σ H s) (h : ∀ p ∈ pins', s.heap.get? p.1 = some p.2 ∧ H p.1 = none ∧ p.1 ≠ X.env.locals ∧ p.1 ∉ X.fs ∧ ∀ v, p.2.data ≠ .cell v) : Inv X pins' σ H s :=
  ⟨I.ok, I.os, I.bare, I.base, I.loc, I.cell, I.free, I.freeC, fun p hp => (List.mem_append.mp hp).elim (fun z => I.pin p (List.mem_append_left _ z)) (h p), I.hok, I.len⟩
theorem nodup_ix {N : List Str} (hN : N.Nodup) {i j : Nat} {x : Str} (a : N[i]? = some x) (b : N[j]? = some x) : i = j := by
  obtain ⟨h1, e1⟩ := List.getElem?_eq_some_iff.mp a
  obtain ⟨h2, e2⟩ := List.getElem?_eq_some_iff.mp b
  exact (List.getElem_inj hN).mp (e1.trans e2.symm)
/-- a name is stored; what changed -/
theorem store_ok2 {M : Model} {A : Around} {E : Value → Shared → Prop} {i : Nat} {x : Str} {v : V} {u : Value} {Q : Unit → Shared → Prop} (I : Inv X pins σ H s) (hN : X.N.Nodup) (hi : X.N[i]? = some x) (hx : Loc X.env.scope x) (r : RelV v u)
    (h : ∀ s', Inv X pins (σ.set i (some v)) H s' → (∃ a, Heap.SameBut a s.heap s'.heap ∧ (a = X.env.locals ∨ X.env.cells.lookup x = some a)) → Q () s') (hf : X.fn x = true ∨ X.env.scope.names.lookup x = some .local := by first | exact .inl rfl | exact .inr rfl | assumption) : wpAny M A (storeName X.env x u) Q E s := by
  obtain ⟨m, hn, hl⟩ := id I.loc
  have hcls : (X.env.scope.kind == .class || (X.env.scope.kind == .module && X.env.locals != X.env.globals)) = false := by rw [I.ok.kind]; rfl
  have hiσ : i < σ.length := by rw [I.len]; exact (List.getElem?_eq_some_iff.mp hi).1
  have cne := I.cne
  have tracked : ∀ {a : Addr} {h' : Heap}, (∃ o, s.heap.get? a = some o ∧ H a = none) → Heap.SameBut a s.heap h' → HOk X.prog X.w H h' := fun {a h'} ha hs b ob e => by
    obtain ⟨_, _, hfree⟩ := ha
    refine (I.hok b ob e).stay (fun c w' hc q => (hs.2 c ?_).trans q) (fun _ q => q) fun _ _ q => q
    rintro rfl
    rcases hc with rfl | hc
    · rw [hfree] at e; cases e
    · rw [hfree] at hc; cases hc
  rcases hx with hk | hk
  · refine wpAny_storeName_local hk hn (fun h' hn' hs => ?_) hcls
    obtain ⟨oL, _, _, hoL, _⟩ := id hn
    refine h _ ⟨I.ok, I.os, I.bare, ⟨fun b o e n hb hx => ?_, fun b o e n hb hx => ?_, I.base.free, fun b o e hx => ?_, I.base.tups, I.base.frzs, I.base.tbls⟩, ⟨_, hn', fun j y v' e1 e2 e3 => ?_⟩, fun y c e => ?_, I.free, I.freeC, fun p hp => ?_, tracked ⟨oL, hoL, I.free⟩ hs, by simpa using I.len⟩ ⟨_, hs, .inl rfl⟩
    · exact (hs.2 b (Nat.ne_of_lt (Nat.lt_of_lt_of_le (Heap.lt_size e) I.ok.above))).trans (I.base.keep b o e n hb hx)
    · obtain ⟨sl, e1⟩ := I.base.slot b o e n hb hx
      exact ⟨sl, (hs.2 b (Nat.ne_of_lt (Nat.lt_of_lt_of_le (Heap.lt_size e) I.ok.above))).trans e1⟩
    · obtain ⟨o', e1⟩ := I.base.there b o e hx
      exact ⟨o', (hs.2 b (Nat.ne_of_lt (Nat.lt_of_lt_of_le (Heap.lt_size e) I.ok.above))).trans e1⟩
    · by_cases hj : j = i
      · subst hj
        rw [hi] at e1; cases e1
        rw [List.getElem?_set_self hiσ] at e2
        cases e2
        exact ⟨u, r, .inl ⟨hk, by simp⟩⟩
      · rw [List.getElem?_set_ne (Ne.symm hj)] at e2
        obtain ⟨u', r', q⟩ := hl j y v' e1 e2 e3
        refine ⟨u', r', ?_⟩
        rcases q with ⟨k, e⟩ | ⟨k, c, e, z⟩
        · refine .inl ⟨k, ?_⟩
          have : y ≠ x := fun e => hj (nodup_ix hN e1 (e ▸ hi))
          simp [this, e]
        · exact .inr ⟨k, c, e, z.sameBut hs (cne y c e)⟩
    · obtain ⟨w', z⟩ := I.cell y c e
      exact ⟨w', z.sameBut hs (cne y c e)⟩
    · obtain ⟨e, n, ne, nf, d⟩ := I.pin p hp
      exact ⟨(hs.2 p.1 ne).trans e, n, ne, nf, d⟩
  · have hfn : X.fn x = true := by
      rcases hf with z | z
      · exact z
      · rw [z] at hk; cases hk
    obtain ⟨c, hc⟩ := I.ok.has x (.inl hk)
    obtain ⟨w', z⟩ := I.cell x c hc
    refine wpAny_storeName_cell I.ok.kind hk hc z (fun h' hc' hs => ?_)
    obtain ⟨oc, hoc, hocd⟩ := id z
    refine h { s with heap := h' } ⟨I.ok, I.os, I.bare, ⟨fun b o e n hb hx => ?_, fun b o e n hb hx => ?_, I.base.free, fun b o e hx => ?_, I.base.tups, I.base.frzs, I.base.tbls⟩, ⟨m, hn.sameBut hs (Ne.symm (cne x c hc)), fun j y v' e1 e2 e3 => ?_⟩, fun y c' e => ?_, I.free, I.freeC, fun p hp => ?_, tracked ⟨oc, hoc, I.freeC x c hc⟩ hs, by simpa using I.len⟩ ⟨c, hs, .inr hc⟩
    · exact (hs.2 b (Nat.ne_of_lt (Nat.lt_of_lt_of_le (Heap.lt_size e) (I.ok.cab x c hfn hc)))).trans (I.base.keep b o e n hb hx)
    · obtain ⟨sl, e1⟩ := I.base.slot b o e n hb hx
      exact ⟨sl, (hs.2 b (Nat.ne_of_lt (Nat.lt_of_lt_of_le (Heap.lt_size e) (I.ok.cab x c hfn hc)))).trans e1⟩
    · obtain ⟨o', e1⟩ := I.base.there b o e hx
      exact ⟨o', (hs.2 b (Nat.ne_of_lt (Nat.lt_of_lt_of_le (Heap.lt_size e) (I.ok.cab x c hfn hc)))).trans e1⟩
    · by_cases hj : j = i
      · subst hj
        rw [hi] at e1; cases e1
        rw [List.getElem?_set_self hiσ] at e2
        cases e2
        exact ⟨u, r, .inr ⟨.inl hk, c, hc, hc'⟩⟩
      · rw [List.getElem?_set_ne (Ne.symm hj)] at e2
        obtain ⟨u', r', q⟩ := hl j y v' e1 e2 e3
        refine ⟨u', r', ?_⟩
        rcases q with q | ⟨k, c', e, z'⟩
        · exact .inl q
        · refine .inr ⟨k, c', e, z'.sameBut hs ?_⟩
          rintro rfl
          exact hj (nodup_ix hN e1 (I.ok.inj _ _ _ e hc ▸ hi))
    · by_cases hcc : c' = c
      · subst hcc; exact ⟨_, hc'⟩
      · obtain ⟨w2, z2⟩ := I.cell y c' e
        exact ⟨w2, z2.sameBut hs hcc⟩
    · obtain ⟨e, n, ne, nf, d⟩ := I.pin p hp
      refine ⟨(hs.2 p.1 ?_).trans e, n, ne, nf, d⟩
      intro q
      rw [q, hoc] at e
      have q' : oc = p.2 := Option.some.inj e
      exact d w' (by rw [← q']; exact hocd)
theorem store_ok {M : Model} {A : Around} {E : Value → Shared → Prop} {i : Nat} {x : Str} {v : V} {u : Value} {Q : Unit → Shared → Prop} (I : Inv X pins σ H s) (hN : X.N.Nodup) (hi : X.N[i]? = some x) (hx : Loc X.env.scope x) (r : RelV v u)
    (h : ∀ s', Inv X pins (σ.set i (some v)) H s' → Q () s') (hf : X.fn x = true ∨ X.env.scope.names.lookup x = some .local := by first | exact .inl rfl | exact .inr rfl | assumption) : wpAny M A (storeName X.env x u) Q E s :=
  store_ok2 I hN hi hx r (fun s' I' _ => h s' I') hf
/-- behind a call or a block, the state as it is -/
theorem Inv.call' {s' : Shared} {ch : List Addr} (I : Inv X pins σ H s) (ho : s'.os = s.os) (u : Un (frs X.stack) ch H H' s.heap s'.heap) (hok : HOk X.prog X.w H' s'.heap) (hg : AllBare s'.gens)
    (hch : ∀ b ∈ ch, (b ∈ X.ex ∨ X.s₀.heap.objs.size ≤ b) ∧ b ≠ X.env.locals ∧ (∀ x c, X.env.cells.lookup x = some c → c ≠ b) ∧ ∀ p ∈ X.pn ++ pins, p.1 ≠ b) : Inv X pins σ H' s' := by
  obtain ⟨h', g', d', t', o'⟩ := s'
  have e : o' = s.os := ho
  subst e
  exact I.call (g' := g') (t' := t') (d' := d') u hok hg hch
end
/-- an exception: its class, its own dict's address (where it has one), the abstract heap behind it -/
noncomputable abbrev XK := Value → Option Addr → Hp → Prop
noncomputable abbrev St := List (Option V)
noncomputable abbrev VK := V → Hp → Prop
/-- an expression's reading; a test's; an argument list's -/
noncomputable abbrev TE := St → Hp → VK → Prop
noncomputable abbrev TT := St → Hp → (Bool → Hp → Prop) → Prop
noncomputable abbrev TA := St → Hp → (List V → Hp → Prop) → Prop
/-- what is wanted behind a statement -/
structure Ends where
  nx : St → Hp → Prop
  rt : VK
  bk : St → Hp → Prop := fun _ _ => False
  ct : St → Hp → Prop := fun _ _ => False
noncomputable abbrev TS := Ends → St → Hp → Prop
noncomputable def EP (X : Cx) (pins : List (Addr × Obj)) (σ : St) (Q : VK) (u : Value) (s' : Shared) : Prop := ∃ v H', Inv X pins σ H' s' ∧ RelV v u ∧ Q v H'
noncomputable def TP (X : Cx) (pins : List (Addr × Obj)) (σ : St) (Q : Bool → Hp → Prop) (b : Bool) (s' : Shared) : Prop := ∃ H', Inv X pins σ H' s' ∧ Q b H'
noncomputable def AP (X : Cx) (pins : List (Addr × Obj)) (σ : St) (Q : List V → Hp → Prop) (us : List Value) (s' : Shared) : Prop := ∃ vs H', Inv X pins σ H' s' ∧ Vals vs us ∧ Q vs H'
noncomputable def SP (X : Cx) (pins : List (Addr × Obj)) (D : Ends) (f : Flow) (s' : Shared) : Prop :=
  match f with
  | .next => ∃ σ' H', Inv X pins σ' H' s' ∧ D.nx σ' H'
  | .brk => ∃ σ' H', Inv X pins σ' H' s' ∧ D.bk σ' H'
  | .cont => ∃ σ' H', Inv X pins σ' H' s' ∧ D.ct σ' H'
  | .ret u => ∃ v σ' H', Inv X pins σ' H' s' ∧ RelV v u ∧ D.rt v H'
noncomputable def PE (X : Cx) (e : Expr) (t : TE) : Prop :=
  ∀ (pins : List (Addr × Obj)) (s : Shared) (σ : St) (H : Hp) (Q : VK), Inv X pins σ H s → t σ H Q → wpAny (model X.prog X.w) X.A (eval e X.env) (EP X pins σ Q) X.xe s
noncomputable def PT (X : Cx) (e : Expr) (t : TT) : Prop :=
  ∀ (pins : List (Addr × Obj)) (s : Shared) (σ : St) (H : Hp) (Q : Bool → Hp → Prop), Inv X pins σ H s → t σ H Q → wpAny (model X.prog X.w) X.A (isTrue e X.env (eval e X.env)) (TP X pins σ Q) X.xe s
/-- a test whatever its 'whole' is (and, or) -/
noncomputable def PW (X : Cx) (e : Expr) (t : TT) : Prop :=
  ∀ (whole : Sem Value) (pins : List (Addr × Obj)) (s : Shared) (σ : St) (H : Hp) (Q : Bool → Hp → Prop), Inv X pins σ H s → t σ H Q → wpAny (model X.prog X.w) X.A (isTrue e X.env whole) (TP X pins σ Q) X.xe s
theorem PW.pt {X : Cx} {e : Expr} {t : TT} (h : PW X e t) : PT X e t := h _
/-- an argument list (no star), from the left -/
noncomputable def PA (X : Cx) (es : List Expr) (t : TA) : Prop :=
  ∀ (pos : Pos) (pins : List (Addr × Obj)) (s : Shared) (σ : St) (H : Hp) (Q : List V → Hp → Prop), Inv X pins σ H s → t σ H Q → wpAny (model X.prog X.w) X.A (spliced (backTo pos (starEach es X.env))) (AP X pins σ Q) X.xe s
noncomputable def PS (X : Cx) (st : Stmt) (t : TS) : Prop :=
  ∀ (pins : List (Addr × Obj)) (s : Shared) (σ : St) (H : Hp) (D : Ends), Inv X pins σ H s → t D σ H → wpAny (model X.prog X.w) X.A (exec st X.env) (SP X pins D) X.xe s
noncomputable def PSs (X : Cx) (st : List Stmt) (t : TS) : Prop :=
  ∀ (pins : List (Addr × Obj)) (s : Shared) (σ : St) (H : Hp) (D : Ends), Inv X pins σ H s → t D σ H → wpAny (model X.prog X.w) X.A (execs st X.env) (SP X pins D) X.xe s
/-- weaken the end -/
theorem thn {α : Type} {t : Sem α} {Q Q' : α → Shared → Prop} {M : Model} {A : Around} {E : Value → Shared → Prop} {s : Shared} (h : wpAny M A t Q E s) (hQ : ∀ a s, Q a s → Q' a s) : wpAny M A t Q' E s := wpAny_mono h hQ fun _ _ x => x
end L2
namespace L2
open PySem PySem.Spec PyProof.Rows
section
variable {X : Cx}
noncomputable def tVar (i : Nat) : TE := fun σ H Q => ∃ v, σ[i]? = some (some v) ∧ Q v H
noncomputable def tC (v : V) : TE := fun _ H Q => Q v H
theorem pe_var {i : Nat} {x : Str} {pos : Pos} (hN : X.N[i]? = some x) (hv : Vis X.env.scope x) (hd : (x == ("__debug__" : Str)) = false := by decide) (hcd : (x == ("__classdict__" : Str)) = false := by decide) : PE X (.Name x pos) (tVar i) := by
  intro pins s σ H Q I h
  obtain ⟨v, e, h⟩ := h
  obtain ⟨m, hn, hl⟩ := I.loc
  obtain ⟨u, r, l⟩ := hl i x v hN e hv
  have fin : EP X pins σ Q u s := ⟨v, H, I, r, h⟩
  rcases l with ⟨hk, hm⟩ | ⟨hk, c, hc, hcell⟩
  · exact wpAny_Name (wpAny_loadName_local I.ok.kind hk hn hm fin) hd
  · rcases hk with hk | hk
    · exact wpAny_Name (wpAny_loadName_cell I.ok.kind hk hc hcell fin) hd
    · exact wpAny_Name (wpAny_loadName_free I.ok.kind hk hc hcell fin hcd) hd
theorem pe_int {i j pos} : PE X (.Constant (.int i) j pos) (tC (.int i)) := fun _ _ _ H _ I h => wpAny_Constant_int ⟨.int i, H, I.tok _, ⟨_, rfl⟩, h⟩
theorem pe_bl {b j pos} : PE X (.Constant (.bool b) j pos) (tC (.bl b)) := fun _ _ _ H _ I h => Constant_bool ⟨.bl b, H, I, rfl, h⟩
/-- a global name of the def -/
noncomputable def Gl (X : Cx) (x : Str) : Prop := X.env.kindOf x = some .globalImplicit
theorem ld_glob {E : Value → Shared → Prop} {pins : List (Addr × Obj)} {s : Shared} {σ : St} {H : Hp} {x : Str} {u : Value} {pos : Pos} {Q : Value → Shared → Prop} (I : Inv X pins σ H s) (hg : Gl X x) (hm : X.mg x = some u) (h : Q u s)
    (hd : (x == ("__debug__" : Str)) = false := by decide) : wpAny (model X.prog X.w) X.A (eval (.Name x pos) X.env) Q E s :=
  Calls.Name_function_global I.ok.kind hg (Calls.loadGlobal_global (by rw [I.ok.glob]; exact I.mod.glob.keeps I.bk) hm h) hd
theorem ld_blt {E : Value → Shared → Prop} {pins : List (Addr × Obj)} {s : Shared} {σ : St} {H : Hp} {x : Str} {u : Value} {pos : Pos} {Q : Value → Shared → Prop} (I : Inv X pins σ H s) (hg : Gl X x) (hm : X.mg x = none) (hv : bootBuiltins x = some u) (h : Q u s)
    (hn : x ≠ "__name__" := by decide) (hd : (x == ("__debug__" : Str)) = false := by decide) : wpAny (model X.prog X.w) X.A (eval (.Name x pos) X.env) Q E s := by
  obtain ⟨mb, h1, h2⟩ := I.mod.blt
  exact Calls.Name_function_global I.ok.kind hg (Calls.loadGlobal_builtin (by rw [I.ok.glob]; exact I.mod.glob.keeps I.bk) hm (by rw [I.ok.blt]; exact h1.keeps I.bk) ((h2 x hn).trans hv) h) hd
theorem pe_bltn {x : Str} {v : V} {u : Value} {pos : Pos} (hg : Gl X x) (hm : X.mg x = none) (hv : bootBuiltins x = some u) (r : RelV v u) (hn : x ≠ "__name__" := by decide) (hd : (x == ("__debug__" : Str)) = false := by decide) : PE X (.Name x pos) (tC v) :=
  fun _ _ _ H _ I h => ld_blt I hg hm hv ⟨v, H, I, r, h⟩ hn hd
variable {a b : Expr} {ta tb : TE} {pos : Pos}
/-- a comparison as a value, as a test -/
noncomputable def tB (t : TE) : TT := fun σ H Q => t σ H fun x H1 => ∃ c, x = .bl c ∧ Q c H1
/-- an expression whose value is a bool, as a test -/
theorem pt_val {e : Expr} {t : TE} (h : PE X e t) (he : ∀ whole, isTrue e X.env whole = (do let v ← whole; standAt e.pos; holding [v] (truthy v)) := by intro _; rfl) : PT X e (tB t) := by
  intro pins s σ H Q I hw
  refine isTrue_plain (thn (h pins s σ H _ I hw) fun v s1 ⟨x, H1, I1, r1, q1⟩ => ?_) (he _)
  obtain ⟨d, rfl, q⟩ := q1
  cases r1
  exact wpAny_truthy_bool ⟨H1, I1, q⟩
variable {tA tB' : TT} {rest : List Expr}
noncomputable def tAnd (t u : TT) : TT := fun σ H Q => t σ H fun c H1 => if c = true then u σ H1 Q else Q false H1
noncomputable def tOr (t u : TT) : TT := fun σ H Q => t σ H fun c H1 => if c = true then Q true H1 else u σ H1 Q
noncomputable def tNot (t : TT) : TT := fun σ H Q => t σ H fun c H1 => Q (!c) H1
theorem pw_and1 (ha : PT X a tA) : PW X (.BoolOp .And [a] pos) tA := by
  intro wh pins s σ H Q I h
  refine isTrue_and (thn (ha pins s σ H Q I h) fun c s1 e => ?_)
  cases c with
  | true => exact isTrue_and_nil e
  | false => exact e
theorem pw_or1 (ha : PT X a tA) : PW X (.BoolOp .Or [a] pos) tA := by
  intro wh pins s σ H Q I h
  refine isTrue_or (thn (ha pins s σ H Q I h) fun c s1 e => ?_)
  cases c with
  | false => exact isTrue_or_nil e
  | true => exact e
theorem pw_and (ha : PT X a tA) (hb : PW X (.BoolOp .And (b :: rest) pos) tB') : PW X (.BoolOp .And (a :: b :: rest) pos) (tAnd tA tB') := by
  intro wh pins s σ H Q I h
  refine isTrue_and (thn (ha pins s σ H _ I h) fun c s1 ⟨H1, I1, q1⟩ => ?_)
  cases c with
  | true => exact hb wh pins s1 σ H1 Q I1 q1
  | false => exact ⟨H1, I1, q1⟩
theorem pw_or (ha : PT X a tA) (hb : PW X (.BoolOp .Or (b :: rest) pos) tB') : PW X (.BoolOp .Or (a :: b :: rest) pos) (tOr tA tB') := by
  intro wh pins s σ H Q I h
  refine isTrue_or (thn (ha pins s σ H _ I h) fun c s1 ⟨H1, I1, q1⟩ => ?_)
  cases c with
  | true => exact ⟨H1, I1, q1⟩
  | false => exact hb wh pins s1 σ H1 Q I1 q1
theorem pt_not (ha : PT X a tA) : PT X (.UnaryOp .Not a pos) (tNot tA) := by
  intro pins s σ H Q I h
  exact isTrue_not (ha pins s σ H (fun c H1 => Q (!c) H1) I h)
/-- .. as values (bools) -/
noncomputable def tAndV (ta tb : TE) : TE := fun σ H Q => ta σ H fun x H1 => ∃ c, x = .bl c ∧ if c = true then tb σ H1 Q else Q (.bl false) H1
noncomputable def tNotV (ta : TE) : TE := fun σ H Q => ta σ H fun x H1 => ∃ c, x = .bl c ∧ Q (.bl (!c)) H1
theorem pe_one {op} {t : TE} (h : PE X a t) : PE X (.BoolOp op [a] pos) t := fun pins s σ H Q I hw => BoolOp_one (h pins s σ H Q I hw)
theorem pe_and (ha : PE X a ta) (hb : PE X (.BoolOp .And (b :: rest) pos) tb) : PE X (.BoolOp .And (a :: b :: rest) pos) (tAndV ta tb) := by
  intro pins s σ H Q I h
  refine BoolOp_and (thn (ha pins s σ H _ I h) fun v s1 ⟨x, H1, I1, r1, q1⟩ => ?_)
  obtain ⟨c, rfl, q1⟩ := q1
  cases r1
  refine wpAny_truthy_bool ?_
  cases c with
  | true => exact hb pins s1 σ H1 Q I1 q1
  | false => exact ⟨.bl false, H1, I1, rfl, q1⟩
theorem pe_not (ha : PE X a ta) : PE X (.UnaryOp .Not a pos) (tNotV ta) := by
  intro pins s σ H Q I h
  refine UnaryOp_ (thn (ha pins s σ H _ I h) fun v s1 ⟨x, H1, I1, r1, q1⟩ => ?_)
  obtain ⟨c, rfl, q1⟩ := q1
  cases r1
  exact not_of (wpAny_truthy_bool ⟨.bl (!c), H1, I1, rfl, q1⟩)
end
end L2
namespace L2
open PySem PySem.Spec PyProof.Rows
noncomputable def SqL (K : PySem.W.Frag) (H : Hp) (a : Addr) (xs : List V) : Prop :=
  Rd H a (.lst xs) ∨
    ∃ (o : Obj) (its : Array Value) (n : Nat), K.lookup a = some o ∧ o.cls = .type "list" ∧ o.dict = none ∧ o.data = .seq its n ∧ its.size ≤ sizeLine ∧ Vals xs its.toList
noncomputable def SqT (K : PySem.W.Frag) (H : Hp) (a : Addr) (xs : List V) : Prop :=
  Rd H a (.tup xs) ∨
    ∃ (o : Obj) (its : Array Value) (n : Nat), K.lookup a = some o ∧ o.cls = .type "tuple" ∧ o.data = .seq its n ∧ its.size ≤ sizeLine ∧ Vals xs its.toList
noncomputable def absV : Value → Option V
  | .none => some .non
  | .bool b => some (.bl b)
  | .int i _ => some (.int i)
  | .str x _ => some (.str x)
  | .bytes b _ => some (.byt b)
  | .float b _ => some (.flt b)
  | .ref a => some (.ref a)
  | .type n => some (.ty n)
  | _ => none
theorem RelV.abs {x : V} {u : Value} (r : RelV x u) : absV u = some x := by
  cases x with
  | non => cases r; rfl
  | bl _ => cases r; rfl
  | int _ => obtain ⟨t, rfl⟩ := r; rfl
  | str _ => obtain ⟨t, rfl⟩ := r; rfl
  | byt _ => obtain ⟨t, rfl⟩ := r; rfl
  | flt _ => obtain ⟨t, rfl⟩ := r; rfl
  | ref _ => cases r; rfl
  | ty _ => cases r; rfl
theorem RelV.inj {x y : V} {u : Value} (r : RelV x u) (q : RelV y u) : x = y := Option.some.inj (r.abs.symm.trans q.abs)
theorem Vals.inj : ∀ {xs ys : List V} {us : List Value}, Vals xs us → Vals ys us → xs = ys
  | _, _, _, .nil, .nil => rfl
  | _, _, _, .cons r t, .cons r' t' => by rw [r.inj r', Vals.inj t t']
section
variable {X : Cx} {pins : List (Addr × Obj)} {σ : St} {H : Hp} {s : Shared} {a : Addr} {xs ys : List V}
theorem SqL.of {K : PySem.W.Frag} (h : H a = some (.lst xs)) : SqL K H a xs := .inl (.inl h)
theorem SqT.of {K : PySem.W.Frag} (h : H a = some (.tup xs)) : SqT K H a xs := .inl (.inl h)
theorem Inv.list (I : Inv X pins σ H s) (h : SqL X.K H a xs) : ∃ its : List Value, Vals xs its ∧ PlainL s.heap a its.toArray ∧ xs.length ≤ sizeLine := by
  rcases h with h | ⟨o, its, n, hk, hc, hd, hs, hz, r⟩
  · obtain ⟨z, its, n, r, e⟩ := h.ok I.hok
    exact ⟨its, r, ⟨_, n, e, rfl, rfl, rfl⟩, z⟩
  · refine ⟨its.toList, r, ⟨o, n, I.kIn a o hk, hc, hd, by simpa using hs⟩, ?_⟩
    have e := r.length
    simp only [Array.length_toList] at e
    omega
theorem Inv.tuple (I : Inv X pins σ H s) (h : SqT X.K H a xs) : ∃ its : List Value, Vals xs its ∧ IsTup s.heap a its.toArray ∧ xs.length ≤ sizeLine := by
  rcases h with h | ⟨o, its, n, hk, hc, hs, hz, r⟩
  · obtain ⟨z, its, r, p⟩ := h.ok I.hok
    exact ⟨its, r, p, z⟩
  · refine ⟨its.toList, r, ⟨o, I.kIn a o hk, hc, n, by simpa using hs⟩, ?_⟩
    have e := r.length
    simp only [Array.length_toList] at e
    omega
theorem Inv.list_inj (I : Inv X pins σ H s) (h : SqL X.K H a xs) (h' : SqL X.K H a ys) : xs = ys := by
  obtain ⟨its, r, ⟨o, n, e, _, _, d⟩, _⟩ := I.list h
  obtain ⟨its', r', ⟨o', n', e', _, _, d'⟩, _⟩ := I.list h'
  rw [e] at e'; cases e'
  rw [d] at d'
  injection d' with d1 _
  have : its = its' := by simpa using congrArg Array.toList d1
  subst this
  exact r.inj r'
theorem Inv.tuple_inj (I : Inv X pins σ H s) (h : SqT X.K H a xs) (h' : SqT X.K H a ys) : xs = ys := by
  obtain ⟨its, r, ⟨o, e, _, n, d⟩, _⟩ := I.tuple h
  obtain ⟨its', r', ⟨o', e', _, n', d'⟩, _⟩ := I.tuple h'
  rw [e] at e'; cases e'
  rw [d] at d'
  injection d' with d1 _
  have : its = its' := by simpa using congrArg Array.toList d1
  subst this
  exact r.inj r'
end
noncomputable abbrev Cx.wish (X : Cx) (E : Value → Shared → Prop) : Cx := { X with xe := E }
/-- no exception leaves -/
noncomputable abbrev Cx.nox (X : Cx) : Cx := X.wish fun _ _ => False
theorem Cx.Ok.wish {X : Cx} (ok : X.Ok) (E : Value → Shared → Prop) : (X.wish E).Ok :=
  ⟨ok.mod, ok.kind, ok.glob, ok.blt, ok.above, ok.inj, ok.has, ok.cab, ok.hd, ok.frames, ok.stk, ok.exf, ok.bs, ok.bsz, ok.noex, ok.exfs, ok.funs, ok.frf⟩
theorem Cx.Ok.unwish {X : Cx} {E : Value → Shared → Prop} (ok : (X.wish E).Ok) : X.Ok :=
  ⟨ok.mod, ok.kind, ok.glob, ok.blt, ok.above, ok.inj, ok.has, ok.cab, ok.hd, ok.frames, ok.stk, ok.exf, ok.bs, ok.bsz, ok.noex, ok.exfs, ok.funs, ok.frf⟩
section
variable {X : Cx} {pins : List (Addr × Obj)} {σ : St} {H : Hp} {s : Shared} {E : Value → Shared → Prop}
theorem Inv.wish (I : Inv X pins σ H s) (E : Value → Shared → Prop) : Inv (X.wish E) pins σ H s := ⟨I.ok.wish E, I.os, I.bare, I.base, I.loc, I.cell, I.free, I.freeC, I.pin, I.hok, I.len⟩
theorem Inv.unwish (I : Inv (X.wish E) pins σ H s) : Inv X pins σ H s := ⟨I.ok.unwish, I.os, I.bare, I.base, I.loc, I.cell, I.free, I.freeC, I.pin, I.hok, I.len⟩
theorem SP.unwish {D : Ends} {f : Flow} {s' : Shared} (h : SP (X.wish E) pins D f s') : SP X pins D f s' := by
  cases f with
  | next => obtain ⟨σ', H', I, q⟩ := h; exact ⟨σ', H', I.unwish, q⟩
  | brk => obtain ⟨σ', H', I, q⟩ := h; exact ⟨σ', H', I.unwish, q⟩
  | cont => obtain ⟨σ', H', I, q⟩ := h; exact ⟨σ', H', I.unwish, q⟩
  | ret u => obtain ⟨v, σ', H', I, r, q⟩ := h; exact ⟨v, σ', H', I.unwish, r, q⟩
theorem PSs.nox {st : List Stmt} {t : TS} (h : PSs X.nox st t) : PSs X st t := fun pins s σ H D I hw =>
  wpAny_mono (h pins s σ H D (I.wish _) hw) (fun _ _ q => q.unwish) fun _ _ z => False.elim z
end
section
variable {X : Cx} {st : Stmt} {rest : List Stmt} {t u : TS} {e : Expr} {te : TE} {pos : Pos}
noncomputable def tNext : TS := fun D σ H => D.nx σ H
noncomputable def tSeq (t u : TS) : TS := fun D σ H => t { D with nx := u D } σ H
theorem pss_nil : PSs X [] tNext := fun _ _ σ H _ I h => wpAny_execs_nil ⟨σ, H, I, h⟩
theorem pss_cons (h1 : PS X st t) (h2 : PSs X rest u) : PSs X (st :: rest) (tSeq t u) := by
  intro pins s σ H D I h
  refine wpAny_execs_cons (thn (h1 pins s σ H { D with nx := u D } I h) fun f s1 q => ?_)
  cases f with
  | next =>
    obtain ⟨σ', H', I', q⟩ := q
    exact h2 pins s1 σ' H' D I' q
  | ret v => exact q
  | brk => exact q
  | cont => exact q
theorem pss_one (h1 : PS X st t) : PSs X [st] t := by
  intro pins s σ H D I h
  refine wpAny_execs_cons (thn (h1 pins s σ H D I h) fun f s1 q => ?_)
  cases f with
  | next => exact wpAny_execs_nil q
  | ret v => exact q
  | brk => exact q
  | cont => exact q
/-- in a def's body nothing is shown -/
theorem Inv.quiet {pins : List (Addr × Obj)} {σ : St} {H : Hp} {s : Shared} (I : Inv X pins σ H s) : interactive X.env = false := by simp [interactive, I.ok.kind]
/-- an expression whose value is dropped -/
noncomputable def tDrop (te : TE) : TS := fun D σ H => te σ H fun _ H1 => D.nx σ H1
theorem ps_expr (he : PE X e te) (hs : swapsWith e none pos.line X.env = pure false := by rfl) : PS X (.Expr e pos) (tDrop te) := by
  intro pins s σ H D I h
  exact wpAny_Expr_any (thn (he pins s σ H _ I h) fun v s1 ⟨x, H1, I1, r1, q1⟩ => ⟨σ, H1, I1, q1⟩) I.quiet hs
noncomputable def tRet (te : TE) : TS := fun D σ H => te σ H D.rt
theorem ps_ret (he : PE X e te) : PS X (.Return (some e) pos) (tRet te) := by
  intro pins s σ H D I h
  exact wpAny_Return_some (thn (he pins s σ H _ I h) fun v s1 ⟨x, H1, I1, r1, q1⟩ => ⟨x, σ, H1, I1, r1, q1⟩)
noncomputable def tIfS (c : TT) (t u : TS) : TS := fun D σ H => c σ H fun b H1 => if b = true then t D σ H1 else u D σ H1
theorem ps_if {c : Expr} {a b : List Stmt} {tc : TT} (hc : PT X c tc) (ha : PSs X a t) (hb : PSs X b u) : PS X (.If c a b pos) (tIfS tc t u) := by
  intro pins s σ H D I h
  refine wpAny_If (thn (hc pins s σ H _ I h) fun d s1 ⟨H1, I1, q1⟩ => ?_)
  cases d with
  | true => exact ha pins s1 σ H1 D I1 q1
  | false => exact hb pins s1 σ H1 D I1 q1
/-- code that the proof never comes to -/
noncomputable def tNever : TS := fun _ _ _ => False
theorem pss_never {sts : List Stmt} : PSs X sts tNever := fun _ _ _ _ _ _ h => h.elim
end
noncomputable abbrev TG := V → St → Hp → (St → Hp → Prop) → Prop
noncomputable abbrev TGs := List V → St → Hp → (St → Hp → Prop) → Prop
noncomputable def PG (X : Cx) (target : Expr) (t : TG) : Prop :=
  ∀ (pins : List (Addr × Obj)) (s : Shared) (σ : St) (H : Hp) (v : V) (u : Value) (Q : St → Hp → Prop), Inv X pins σ H s → RelV v u → t v σ H Q →
    wpAny (model X.prog X.w) X.A (assign target X.env u) (fun _ s' => ∃ σ' H', Inv X pins σ' H' s' ∧ Q σ' H') X.xe s
/-- several targets, one after another -/
noncomputable def PGs (X : Cx) (ts : List Expr) (t : TGs) : Prop :=
  ∀ (pins : List (Addr × Obj)) (s : Shared) (σ : St) (H : Hp) (vs : List V) (us : List Value) (Q : St → Hp → Prop), Inv X pins σ H s → Vals vs us → t vs σ H Q →
    wpAny (model X.prog X.w) X.A (assignInOrder ((assignEach ts X.env).map (·.2)) us) (fun _ s' => ∃ σ' H', Inv X pins σ' H' s' ∧ Q σ' H') X.xe s
/-- o[i] = v, by values -/
noncomputable abbrev TSet := V → V → V → Hp → (Hp → Prop) → Prop
noncomputable def PSet (X : Cx) (t : TSet) : Prop :=
  ∀ (pins : List (Addr × Obj)) (s : Shared) (σ : St) (H : Hp) (o i v : V) (ov iv u : Value) (Q : Hp → Prop), Inv X pins σ H s → RelV o ov → RelV i iv → RelV v u → t o i v H Q →
    wpAny (model X.prog X.w) X.A (setItem ov iv u) (fun _ s' => ∃ H', Inv X pins σ H' s' ∧ Q H') X.xe s
section
variable {X : Cx} {pos : Pos}
noncomputable def gName (i : Nat) : TG := fun v σ H Q => Q (σ.set i (some v)) H
theorem pg_name {i : Nat} {x : Str} (hN : X.N.Nodup) (hi : X.N[i]? = some x) (hx : Loc X.env.scope x) (hf : X.fn x = true ∨ X.env.scope.names.lookup x = some .local := by first | exact .inl rfl | exact .inr rfl | assumption) : PG X (.Name x pos) (gName i) := by
  intro pins s σ H v u Q I r h
  exact wpAny_assign_Name (store_ok I hN hi hx r (fun s' I' => ⟨_, H, I', h⟩) hf)
noncomputable def gNil : TGs := fun vs σ H Q => vs = [] ∧ Q σ H
noncomputable def gCons (t : TG) (u : TGs) : TGs := fun vs σ H Q => ∃ v r, vs = v :: r ∧ t v σ H fun σ' H' => u r σ' H' Q
theorem pgs_nil : PGs X [] gNil := by
  intro pins s σ H vs us Q I r h
  obtain ⟨e, h⟩ := h
  subst e
  cases r
  exact assignInOrder_nil ⟨σ, H, I, h⟩
theorem pgs_cons {e : Expr} {es : List Expr} {t : TG} {u : TGs} (h1 : PG X e t) (h2 : PGs X es u)
    (hs : (assignEach (e :: es) X.env).map (·.2) = assign e X.env :: (assignEach es X.env).map (·.2) := by rfl) : PGs X (e :: es) (gCons t u) := by
  intro pins s σ H vs us Q I r h
  obtain ⟨v, vr, e1, h⟩ := h
  subst e1
  cases r with
  | cons r rr =>
    rw [hs]
    refine assignInOrder_cons (thn (h1 pins s σ H _ _ _ I r h) fun _ s1 ⟨σ1, H1, I1, q1⟩ => ?_)
    exact h2 pins s1 σ1 H1 _ _ Q I1 rr q1
/-- (a, b, ..) = a tuple of that length -/
noncomputable def gTup (K : PySem.W.Frag) (n : Nat) (t : TGs) : TG := fun v σ H Q => ∃ a xs, v = .ref a ∧ SqT K H a xs ∧ xs.length = n ∧ t xs σ H Q
theorem pg_tup {es : List Expr} {k : Nat} {t : TGs} {n : Nat} (hc : X.calm = true) (h : PGs X es t)
    (hn : (assignEach es X.env).length = n := by rfl) (hst : (assignEach es X.env).findIdx? (·.1) = none := by rfl) : PG X (.Tuple es k pos) (gTup X.K n t) := by
  intro pins s σ H v u Q I r hw
  obtain ⟨a, xs, e1, hq, hl, hw⟩ := hw
  subst e1
  cases r
  obtain ⟨its, rv, ht, hz⟩ := I.tuple hq
  refine assign_Tuple_tuple (I.ok.hd hc) ht (by simp [hn, ← hl, rv.length]) hst fun h' hx => ?_
  have I1 : Inv X pins σ H { s with heap := h' } := I.kept (t' := s.toks) fun b o e => hx b o (Nat.ne_of_lt (Heap.lt_size e)) e
  exact h pins _ σ H xs _ Q I1 (by simpa using rv) hw
/-- o[i] = .. -/
noncomputable def gSub (to ti : TE) (t : TSet) : TG := fun v σ H Q => to σ H fun o H1 => ti σ H1 fun i H2 => t o i v H2 fun H3 => Q σ H3
theorem pg_sub {o i : Expr} {to ti : TE} {t : TSet} (ho : PE X o to) (hi : PE X i ti) (hs : PSet X t)
    (ha : ∀ v, assign (.Subscript o i pos) X.env v = (do
      let ov ← holding [v] (eval o X.env)
      let iv ← holding [v, ov] (eval i X.env)
      standAt pos
      holding [v, ov, iv] (setItem ov iv v)
      release [v, ov, iv] []) := by intro _; rfl) : PG X (.Subscript o i pos) (gSub to ti t) := by
  intro pins s σ H v u Q I r h
  rw [ha]
  refine wpAny_bind (wpAny_holding (thn (ho pins s σ H _ I h) fun ov s1 ⟨x, H1, I1, r1, q1⟩ => ?_))
  refine wpAny_bind (wpAny_holding (thn (hi pins s1 σ H1 _ I1 q1) fun iv s2 ⟨y, H2, I2, r2, q2⟩ => ?_))
  refine wpAny_bind (wpAny_standAt (wpAny_bind (wpAny_holding (thn (hs pins s2 σ H2 x y v ov iv u _ I2 r1 r2 r q2) fun _ s3 ⟨H3, I3, q3⟩ => ?_))))
  exact wpAny_release ⟨σ, H3, I3, q3⟩
/-- target = value -/
noncomputable def tAsg (te : TE) (g : TG) : TS := fun D σ H => te σ H fun x H1 => g x σ H1 D.nx
theorem ps_asg {tg e : Expr} {te : TE} {g : TG} (he : PE X e te) (hg : PG X tg g) (hs : swapsWithSole [tg] e pos.line X.env = pure false := by rfl) (hw : swappedStores [tg] e X.env = pure none := by rfl)
    (h1 : (assignEach [tg] X.env).map (·.2) = [assign tg X.env] := by rfl) : PS X (.Assign [tg] e pos) (tAsg te g) := by
  intro pins s σ H D I h
  refine wpAny_Assign_stores (thn (he pins s σ H _ I h) fun v s1 ⟨x, H1, I1, r1, q1⟩ => ?_) hs hw
  rw [h1]
  exact thn (hg pins s1 σ H1 x v _ I1 r1 q1) fun _ s2 q => q
/-- name = value -/
theorem ps_set {i : Nat} {x : Str} {e : Expr} {te : TE} {pos' : Pos} (hN : X.N.Nodup) (hi : X.N[i]? = some x) (hx : Loc X.env.scope x) (he : PE X e te) (hs : swapsWith e (some (.Name x pos')) pos.line X.env = pure false := by rfl) (hf : X.fn x = true ∨ X.env.scope.names.lookup x = some .local := by first | exact .inl rfl | exact .inr rfl | assumption) :
    PS X (.Assign [.Name x pos'] e pos) (tAsg te (gName i)) := by
  intro pins s σ H D I h
  refine wpAny_Assign_Name (thn (he pins s σ H _ I h) fun v s1 ⟨y, H1, I1, r1, q1⟩ => ?_) hs
  exact store_ok I1 hN hi hx r1 (fun s2 I2 => ⟨_, H1, I2, q1⟩) hf
end
section
variable {X : Cx} {pos : Pos}
end
/-- at turn i: it yields x (the heap may grow), or it stops -/
structure It where
  go : Nat → Hp → Prop
  yld : Nat → Hp → V → Hp → Prop
  stop : Nat → Hp → Prop
/-- the iterator's own objects may turn: they are not the frame's, not pinned, younger than the entry (or a comprehension's own) -/
noncomputable def FpOk (X : Cx) (pins : List (Addr × Obj)) (H : Hp) (b : Addr) : Prop :=
  H b = none ∧ b ≠ X.env.locals ∧ b ∉ X.fs ∧ (b ∈ X.ex ∨ X.s₀.heap.objs.size ≤ b) ∧ (∀ x c, X.env.cells.lookup x = some c → c ≠ b) ∧ ∀ p ∈ X.pn ++ pins, p.1 ≠ b
theorem Inv.fpOk {X : Cx} {pins : List (Addr × Obj)} {σ : St} {H H' : Hp} {s : Shared} {b : Addr} (I : Inv X pins σ H s) (hb : s.heap.objs.size ≤ b) (hn : H' b = none) : FpOk X pins H' b := by
  refine ⟨hn, Nat.ne_of_gt (Nat.lt_of_lt_of_le I.lt hb), I.nofs hb, .inr (Nat.le_trans I.sz hb), fun x c e z => ?_, fun p hp z => ?_⟩
  · obtain ⟨v, q⟩ := I.cell x c e
    exact absurd (Nat.lt_of_lt_of_le q.lt (by rw [z]; exact hb)) (Nat.lt_irrefl _)
  · exact absurd (Nat.lt_of_lt_of_le (Heap.lt_size (I.pin p hp).1) (by rw [z]; exact hb)) (Nat.lt_irrefl _)
structure Turn (P : Program) (w : World) (K : PySem.W.Frag) (tg : Expr) (J : It) (fp : List Addr) (it : Addr) (tn : Nat → Heap → Prop) : Prop where
  mem : it ∈ fp
  obj : ∀ i h, tn i h → ∀ b ∈ fp, ∃ o, h.get? b = some o ∧ ∀ v, o.data ≠ .cell v
  keep : ∀ i h h', tn i h → (∀ b ∈ fp, ∀ o, h.get? b = some o → h'.get? b = some o) → tn i h'
  item : ∀ (X : Cx), X.prog = P → X.w = w → X.K = K → X.calm = true → ∀ (i : Nat) (pins : List (Addr × Obj)) (s : Shared) (σ : St) (H : Hp) (E : Value → Shared → Prop), Inv X pins σ H s → (∀ b ∈ fp, FpOk X pins H b) → tn i s.heap → J.go i H →
    wpAny (model P w) X.A (pyNext (.ref it)) (fun r s1 => ∃ u, r = some u ∧
      wpAny (model P w) X.A (letOwnedTupleGo tg (.ref it) u) (fun _ s2 => ∃ x H', Inv X pins σ H' s2 ∧ RelV x u ∧ J.yld i H x H' ∧ tn (i + 1) s2.heap ∧ ∀ b ∈ fp, H' b = none) E s1) E s
  done : ∀ (X : Cx), X.prog = P → X.w = w → X.K = K → X.calm = true → ∀ (i : Nat) (pins : List (Addr × Obj)) (s : Shared) (σ : St) (H : Hp) (E : Value → Shared → Prop), Inv X pins σ H s → (∀ b ∈ fp, FpOk X pins H b) → tn i s.heap → J.stop i H →
    wpAny (model P w) X.A (pyNext (.ref it)) (fun r s1 => r = none ∧ Inv X pins σ H s1) E s
  self : ∀ (A : Around) (i : Nat) (s : Shared) (Q : Value → Shared → Prop) (E : Value → Shared → Prop), tn i s.heap → Q (.ref it) s → wpAny (model P w) A (pyIter (.ref it)) Q E s
noncomputable abbrev TI := St → Hp → (It → Hp → Prop) → Prop
/-- an iterator has come -/
noncomputable def PIE (X : Cx) (pins : List (Addr × Obj)) (σ : St) (tg : Expr) (R : It → Hp → Prop) (itv : Value) (s2 : Shared) : Prop :=
  ∃ (it : Addr) (fp : List Addr) (tn : Nat → Heap → Prop) (J : It) (H' : Hp), itv = .ref it ∧ Inv X pins σ H' s2 ∧ Turn X.prog X.w X.K tg J fp it tn ∧ tn 0 s2.heap ∧ (∀ b ∈ fp, FpOk X pins H' b) ∧ R J H'
noncomputable def PI (X : Cx) (tg iter : Expr) (wi : TI) : Prop :=
  ∀ (pins : List (Addr × Obj)) (s : Shared) (σ : St) (H : Hp) (R : It → Hp → Prop), Inv X pins σ H s → wi σ H R →
    wpAny (model X.prog X.w) X.A (eval iter X.env) (fun v s1 => wpAny (model X.prog X.w) X.A (pyIter v) (PIE X pins σ tg R) X.xe s1) X.xe s
/-- the step ahead of the store is nothing for an iterator that keeps no tuple -/
theorem go_of {M : Model} {A : Around} {E : Value → Shared → Prop} {s : Shared} {tg : Expr} {it : Addr} {u : Value} {o : Obj} {n : String} {vs : Array Value} {Q : Unit → Shared → Prop} (ho : s.heap.get? it = some o) (hc : o.cls = .type n) (hd : o.data = .fields vs)
    (hn : ["enumerate", "zip", "dict_itemiterator", "dict_reverseitemiterator", "odict_iterator", "itertools.zip_longest", "itertools.pairwise"].contains n = false) (hQ : Q () s) : wpAny M A (letOwnedTupleGo tg (.ref it) u) Q E s := by
  unfold letOwnedTupleGo
  cases tg <;> first
    | exact wpAny_pure hQ
    | (cases u <;> first
        | exact wpAny_pure hQ
        | (refine wpAny_bind (wpAny_load ho ?_)
           rw [hc, hd]
           show wpAny M A (if (["enumerate", "zip", "dict_itemiterator", "dict_reverseitemiterator", "odict_iterator", "itertools.zip_longest", "itertools.pairwise"].contains n && vs[0]? == some (rawInt _)) = true then _ else _) Q E s
           rw [if_neg (by intro h; rw [hn, Bool.false_and] at h; cases h)]
           exact wpAny_pure hQ))
/-- the list at a, as it stands at each turn (a loop may append to it) -/
noncomputable def Itl (K : PySem.W.Frag) (a : Addr) : It :=
  ⟨fun i H => ∃ xs x, SqL K H a xs ∧ xs[i]? = some x, fun i H x H' => H' = H ∧ ∀ xs, SqL K H a xs → xs[i]? = some x, fun i H => ∃ xs, SqL K H a xs ∧ xs.length ≤ i⟩
noncomputable def Itt (K : PySem.W.Frag) (a : Addr) : It :=
  ⟨fun i H => ∃ xs x, SqT K H a xs ∧ xs[i]? = some x, fun i H x H' => H' = H ∧ ∀ xs, SqT K H a xs → xs[i]? = some x, fun i H => ∃ xs, SqT K H a xs ∧ xs.length ≤ i⟩
/-- lo, lo + 1, .. (n of them) -/
noncomputable def Itr (lo : Int) (n : Nat) : It := ⟨fun i _ => i < n, fun i H x H' => H' = H ∧ x = .int (lo + i), fun i _ => n ≤ i⟩
theorem turn_list {P : Program} {w : World} {K : PySem.W.Frag} {tg : Expr} (a it : Addr) : Turn P w K tg (Itl K a) [it] it (fun i h => h.IsListIter it a i) where
  mem := by simp
  obj := fun i h st b hb => by
    have e : b = it := by simpa using hb
    subst e
    obtain ⟨o, e, c, d⟩ := st
    exact ⟨o, e, fun v z => by rw [d] at z; cases z⟩
  keep := fun i h h' st k => st.at fun o e => k it (by simp) o e
  item := by
    intro X hP hw hK hc i pins s σ H E I hf st hg
    subst hP hw hK
    obtain ⟨xs, x, hq, hx⟩ := hg
    obtain ⟨its, rv, p, hz⟩ := I.list hq
    obtain ⟨u, hu, ru⟩ := rv.get hx
    obtain ⟨f0, f1, f2, f3, f4, f5⟩ := hf it (by simp)
    refine wpAny_pyNext_list_item st p.isList (x := u) (by simpa using hu) fun h' st' sb => ?_
    have I1 : Inv X pins σ H { s with heap := h' } := I.turned (t' := s.toks) (fun b o hb e => (sb.2 b hb).trans e) f0 f1 f3 f4 f5
    obtain ⟨o, e, c, d⟩ := id st'
    exact ⟨u, rfl, go_of (s := { s with heap := h' }) e c d (by decide) ⟨x, H, I1, ru, ⟨rfl, fun ys hy => by rw [I.list_inj hy hq]; exact hx⟩, st', fun b hb => (hf b hb).1⟩⟩
  done := by
    intro X hP hw hK hc i pins s σ H E I hf st hg
    subst hP hw hK
    obtain ⟨xs, hq, hx⟩ := hg
    obtain ⟨its, rv, p, hz⟩ := I.list hq
    obtain ⟨f0, f1, f2, f3, f4, f5⟩ := hf it (by simp)
    have hl := rv.length
    exact wpAny_pyNext_list_end (I.ok.hd hc) st p.isList (by simp; omega) fun h' eb => ⟨rfl, I.turned (t' := s.toks) (fun b o hb e => eb b o hb e) f0 f1 f3 f4 f5⟩
  self := fun _ _ _ _ _ st h => wpAny_pyIter_listiter st h
theorem turn_tuple {P : Program} {w : World} {K : PySem.W.Frag} {tg : Expr} (a it : Addr) : Turn P w K tg (Itt K a) [it] it (fun i h => h.IsTupleIter it a i) where
  mem := by simp
  obj := fun i h st b hb => by
    have e : b = it := by simpa using hb
    subst e
    obtain ⟨o, e, c, d⟩ := st
    exact ⟨o, e, fun v z => by rw [d] at z; cases z⟩
  keep := fun i h h' st k => st.at fun o e => k it (by simp) o e
  item := by
    intro X hP hw hK hc i pins s σ H E I hf st hg
    subst hP hw hK
    obtain ⟨xs, x, hq, hx⟩ := hg
    obtain ⟨its, rv, p, hz⟩ := I.tuple hq
    obtain ⟨u, hu, ru⟩ := rv.get hx
    obtain ⟨f0, f1, f2, f3, f4, f5⟩ := hf it (by simp)
    refine wpAny_pyNext_tuple_item st (show s.heap.IsTuple a its.toArray from p) (x := u) (by simpa using hu) fun h' st' sb => ?_
    have I1 : Inv X pins σ H { s with heap := h' } := I.turned (t' := s.toks) (fun b o hb e => (sb.2 b hb).trans e) f0 f1 f3 f4 f5
    obtain ⟨o, e, c, d⟩ := id st'
    exact ⟨u, rfl, go_of (s := { s with heap := h' }) e c d (by decide) ⟨x, H, I1, ru, ⟨rfl, fun ys hy => by rw [I.tuple_inj hy hq]; exact hx⟩, st', fun b hb => (hf b hb).1⟩⟩
  done := by
    intro X hP hw hK hc i pins s σ H E I hf st hg
    subst hP hw hK
    obtain ⟨xs, hq, hx⟩ := hg
    obtain ⟨its, rv, p, hz⟩ := I.tuple hq
    obtain ⟨f0, f1, f2, f3, f4, f5⟩ := hf it (by simp)
    have hl := rv.length
    exact wpAny_pyNext_tuple_end (I.ok.hd hc) st (show s.heap.IsTuple a its.toArray from p) (by simp; omega) fun h' eb => ⟨rfl, I.turned (t' := s.toks) (fun b o hb e => eb b o hb e) f0 f1 f3 f4 f5⟩
  self := fun _ _ _ _ _ st h => wpAny_pyIter_tupleiter st h
theorem turn_range {P : Program} {w : World} {K : PySem.W.Frag} {tg : Expr} (it : Addr) (lo : Int) (n : Nat) : Turn P w K tg (Itr lo n) [it] it (fun i h => IsRangeIter h it (lo + (i : Nat) * 1) ((n : Int) - (i : Nat)) 1) where
  mem := by simp
  obj := fun i h st b hb => by
    have e : b = it := by simpa using hb
    subst e
    exact ⟨_, st, fun v z => by
      have z' : Data.fields _ = Data.cell v := z
      cases z'⟩
  keep := fun i h h' st k => k it (by simp) _ st
  item := by
    intro X hP hw hK hc i pins s σ H E I hf st hg
    subst hP hw hK
    obtain ⟨f0, f1, f2, f3, f4, f5⟩ := hf it (by simp)
    have W := Walks.range (prog := X.prog) (w := X.w) (I.ok.hd hc) it lo 1 n
    refine W.item i s _ _ hg st fun v h' tk hv st' kk => ?_
    obtain ⟨t, rfl⟩ := hv
    have I1 : Inv X pins σ H { s with heap := h', toks := tk } := I.turned (fun b o hb e => kk b o (by simpa using hb) e) f0 f1 f3 f4 f5
    refine ⟨_, rfl, go_of (s := { s with heap := h', toks := tk }) (n := "range_iterator") st' rfl rfl (by decide) ⟨.int (lo + i), H, I1, ⟨t, ?_⟩, ⟨rfl, rfl⟩, st', fun b hb => (hf b hb).1⟩⟩
    rw [Int.mul_one]
  done := by
    intro X hP hw hK hc i pins s σ H E I hf st hg
    subst hP hw hK
    obtain ⟨f0, f1, f2, f3, f4, f5⟩ := hf it (by simp)
    exact wpAny_pyNext_range_end (I.ok.hd hc) st (by have : n ≤ i := hg; omega) fun h' eb => ⟨rfl, I.turned (t' := s.toks) (fun b o hb e => eb b o hb e) f0 f1 f3 f4 f5⟩
  self := fun _ _ _ _ _ st h => wpAny_pyIter_rangeiter st h
end L2
namespace L2
open PySem PySem.Spec PyProof.Rows
section
variable {X : Cx} {tg : Expr}
noncomputable def iList (K : PySem.W.Frag) (tl : TE) : TI := fun σ H R => tl σ H fun x H1 => ∃ a, x = .ref a ∧ (∃ xs, SqL K H1 a xs) ∧ R (Itl K a) H1
noncomputable def iTup (K : PySem.W.Frag) (tl : TE) : TI := fun σ H R => tl σ H fun x H1 => ∃ a, x = .ref a ∧ (∃ xs, SqT K H1 a xs) ∧ R (Itt K a) H1
theorem pi_list {l : Expr} {tl : TE} (hl : PE X l tl) : PI X tg l (iList X.K tl) := by
  intro pins s σ H R I h
  refine thn (hl pins s σ H _ I h) fun v s1 ⟨x, H1, I1, r1, q1⟩ => ?_
  obtain ⟨a, e, ⟨xs, hq⟩, q⟩ := q1
  subst e
  cases r1
  obtain ⟨its, rv, p, hz⟩ := I1.list hq
  refine wpAny_pyIter_list p.isList ?_
  refine ⟨s1.heap.objs.size, [s1.heap.objs.size], _, _, H1, rfl, I1.kept (t' := s1.toks) fun b o e => Heap.get?_push_of_some _ e, turn_list a _, ⟨_, Heap.get?_push_size _ rfl, rfl, rfl⟩, fun b hb => ?_, q⟩
  have e : b = s1.heap.objs.size := by simpa using hb
  subst e
  exact I1.fpOk (Nat.le_refl _) (I1.hok.fresh (Nat.le_refl _))
theorem pi_tup {l : Expr} {tl : TE} (hl : PE X l tl) : PI X tg l (iTup X.K tl) := by
  intro pins s σ H R I h
  refine thn (hl pins s σ H _ I h) fun v s1 ⟨x, H1, I1, r1, q1⟩ => ?_
  obtain ⟨a, e, ⟨xs, hq⟩, q⟩ := q1
  subst e
  cases r1
  obtain ⟨its, rv, p, hz⟩ := I1.tuple hq
  refine wpAny_pyIter_tuple (show s1.heap.IsTuple a its.toArray from p) ?_
  refine ⟨s1.heap.objs.size, [s1.heap.objs.size], _, _, H1, rfl, I1.kept (t' := s1.toks) fun b o e => Heap.get?_push_of_some _ e, turn_tuple a _, ⟨_, Heap.get?_push_size _ rfl, rfl, rfl⟩, fun b hb => ?_, q⟩
  have e : b = s1.heap.objs.size := by simpa using hb
  subst e
  exact I1.fpOk (Nat.le_refl _) (I1.hok.fresh (Nat.le_refl _))
/-- a range object just made, walked -/
theorem range_it {pins : List (Addr × Obj)} {σ : St} {H : Hp} {s : Shared} {R : It → Hp → Prop} {E : Value → Shared → Prop} {lo hi : Int} {t u v : Tok} {tk : Nat} (I : Inv X pins σ H s) (h1 : -(2 ^ 62) ≤ lo) (h2 : lo < 2 ^ 62) (h3 : -(2 ^ 62) ≤ hi) (h4 : hi < 2 ^ 62)
    (q : R (Itr lo (hi - lo).toNat) H) : wpAny (model X.prog X.w) X.A (pyIter (.ref s.heap.objs.size)) (PIE X pins σ tg R) E { s with heap := s.heap.push { cls := .type "range", data := .fields #[.int lo t, .int hi u, .int 1 v] }, toks := tk } := by
  refine wpAny_pyIter_range (IsRange.new ..) (small_one h1 h2 h3 h4) ?_
  have I1 : Inv X pins σ H { s with heap := s.heap.push { cls := .type "range", data := .fields #[.int lo t, .int hi u, .int 1 v] }, toks := tk } := I.kept fun b o e => Heap.get?_push_of_some _ e
  refine ⟨(s.heap.push { cls := .type "range", data := .fields #[.int lo t, .int hi u, .int 1 v] }).objs.size, [(s.heap.push { cls := .type "range", data := .fields #[.int lo t, .int hi u, .int 1 v] }).objs.size], _, _, H, rfl,
    I1.kept (t' := tk) fun b o e => Heap.get?_push_of_some _ e, turn_range _ lo (hi - lo).toNat, ?_, fun b hb => ?_, q⟩
  · have e1 : lo + ((0 : Nat) : Int) * 1 = lo := by simp
    have e2 : (((hi - lo).toNat : Nat) : Int) - ((0 : Nat) : Int) = Builtin.Range.rangeSize lo hi 1 := by rw [rangeSize_one]; split <;> omega
    show IsRangeIter _ _ (lo + ((0 : Nat) : Int) * 1) ((((hi - lo).toNat : Nat) : Int) - ((0 : Nat) : Int)) 1
    rw [e1, e2]
    exact Heap.get?_push_size _ rfl
  · have e : b = (s.heap.push { cls := .type "range", data := .fields #[.int lo t, .int hi u, .int 1 v] }).objs.size := by simpa using hb
    subst e
    exact I1.fpOk (Nat.le_refl _) (I1.hok.fresh (Nat.le_refl _))
noncomputable def iRng1 (ta : TA) : TI := fun σ H R => ta σ H fun vs H1 => ∃ j : Int, vs = [.int j] ∧ -(2 ^ 62) ≤ j ∧ j < 2 ^ 62 ∧ R (Itr 0 j.toNat) H1
theorem pi_range1 {a : Expr} {ta : TA} {p pos : Pos} (hg : Gl X "range") (hm : X.mg "range" = none) (ha : PA X [a] ta) (hs : starEach [a] X.env = [(false, eval a X.env)] := by rfl) : PI X tg (.Call (.Name "range" p) [a] [] pos) (iRng1 ta) := by
  intro pins s σ H R I h
  refine Call_ (ld_blt I hg hm boot_range (PyProof.Rows.callWith_type1 (thn (ha pos pins s σ H _ I h) fun us s1 ⟨vs, H1, I1, r1, q1⟩ => ?_) hs rfl))
  obtain ⟨j, e, q1, q2, q⟩ := q1
  subst e
  cases r1 with
  | cons r rr =>
    cases rr
    obtain ⟨t, rfl⟩ := r
    exact call_range_1 (range_it I1 (by omega) (by omega) q1 q2 (by simpa using q))
/-- W: the invariant by the turn and a measure; N: what the body is to reach -/
noncomputable def tFor (wi : TI) (g : TG) (tb : TS) : TS := fun D σ H => wi σ H fun J H1 => ∃ W : Nat → Nat → St → Hp → Prop, (∃ m, W 0 m σ H1) ∧ ∀ i m σ H, W i m σ H →
  (J.stop i H ∧ D.nx σ H) ∨ (J.go i H ∧ ∃ N : St → Hp → Prop, (∀ σ' H', N σ' H' → ∃ m', m' < m ∧ W (i + 1) m' σ' H') ∧ ∀ x H', J.yld i H x H' → g x σ H' fun σ2 H2 => tb { D with nx := N, ct := N, bk := D.nx } σ2 H2)
/-- the records at fp as they stand -/
noncomputable def pinsAt (fp : List Addr) (h : Heap) : List (Addr × Obj) := fp.filterMap fun b => (h.get? b).map fun o => (b, o)
theorem mem_pinsAt {fp : List Addr} {h : Heap} {b : Addr} {o : Obj} (hb : b ∈ fp) (e : h.get? b = some o) : (b, o) ∈ pinsAt fp h := List.mem_filterMap.mpr ⟨b, hb, by rw [e]; rfl⟩
theorem of_pinsAt {fp : List Addr} {h : Heap} {p : Addr × Obj} (hp : p ∈ pinsAt fp h) : p.1 ∈ fp ∧ h.get? p.1 = some p.2 := by
  obtain ⟨b, hb, e⟩ := List.mem_filterMap.mp hp
  cases q : h.get? b with
  | none => rw [q] at e; cases e
  | some o =>
    rw [q] at e
    have e' : (b, o) = p := Option.some.inj e
    subst e'
    exact ⟨hb, q⟩
theorem Inv.pinned {pins : List (Addr × Obj)} {σ : St} {H : Hp} {s : Shared} {fp : List Addr} (I : Inv X pins σ H s) (hf : ∀ b ∈ fp, FpOk X pins H b) (ho : ∀ b ∈ fp, ∃ o, s.heap.get? b = some o ∧ ∀ v, o.data ≠ .cell v) : Inv X (pins ++ pinsAt fp s.heap) σ H s :=
  I.pins_of fun p hp => (List.mem_append.mp hp).elim (fun z => I.pin p (List.mem_append_right _ z)) fun z => by
    obtain ⟨hb, e⟩ := of_pinsAt z
    obtain ⟨f0, f1, f2, _⟩ := hf p.1 hb
    obtain ⟨o, e', d⟩ := ho p.1 hb
    rw [e] at e'; cases e'
    exact ⟨e, f0, f1, f2, d⟩
theorem Inv.unpinned {pins pl : List (Addr × Obj)} {σ : St} {H : Hp} {s : Shared} (I : Inv X (pins ++ pl) σ H s) : Inv X pins σ H s := I.pins_of fun p hp => I.pin p (List.mem_append_right _ (List.mem_append_left _ hp))
theorem ps_for {iter : Expr} {body : List Stmt} {wi : TI} {g : TG} {tb : TS} {pos : Pos} (hp : PassesOwn (model X.prog X.w) X.A X.env X.xe) (hc : X.calm = true) (hi : PI X tg iter wi) (hg : PG X tg g) (hb : PSs X body tb)
    (hs : ∀ x, foldedSetIterable iter X.env x = pure x := by intro _; rfl) : PS X (.For tg iter body [] pos) (tFor wi g tb) := by
  intro pins s σ H D I h
  refine wpAny_For (thn (hi pins s σ H _ I h) fun v s1 h1 => thn h1 fun itv s2 h2 => ?_) hs
  obtain ⟨it, fp, tn, J, H2, e, I2, T, st2, f2, W, ⟨m0, w0⟩, turn⟩ := h2
  subst e
  -- what stays true of the iterator's objects through the loop
  have stat : ∀ {H' : Hp}, (∀ b ∈ fp, H' b = none) → ∀ b ∈ fp, FpOk X pins H' b := fun hn b hb => ⟨hn b hb, (f2 b hb).2⟩
  refine codeAny_forLoop_any (fun n s' => ∃ i σ' H', Inv X pins σ' H' s' ∧ tn i s'.heap ∧ (∀ b ∈ fp, H' b = none) ∧ W i n σ' H') ?_ m0 ⟨0, σ, H2, I2, st2, fun b hb => (f2 b hb).1, w0⟩
  rintro n s3 ⟨i, σ3, H3, I3, st3, fr3, w3⟩
  rcases turn i n σ3 H3 w3 with ⟨stop, qn⟩ | ⟨go, N, hN, step⟩
  · refine wpAny_passesOwn hp (thn (T.done X rfl rfl rfl hc i pins s3 σ3 H3 X.xe I3 (stat fr3) st3 stop) fun r s4 ⟨hr, I4⟩ => ?_)
    subst hr
    exact wpAny_execs_nil ⟨σ3, H3, I4, qn⟩
  · refine wpAny_passesOwn hp (thn (T.item X rfl rfl rfl hc i pins s3 σ3 H3 X.xe I3 (stat fr3) st3 go) fun r s4 ⟨u, hr, h4⟩ => ?_)
    subst hr
    refine wpAny_passesOwn hp (thn h4 fun _ s5 ⟨x, H5, I5, r5, y5, st5, fr5⟩ => ?_)
    have I5' := I5.pinned (stat fr5) (T.obj _ _ st5)
    refine wpAny_passesOwn hp (thn (hg _ s5 σ3 H5 x u _ I5' r5 (step x H5 y5)) fun _ s6 ⟨σ6, H6, I6, q6⟩ => ?_)
    refine wpAny_passesOwn hp (thn (hb _ s6 σ6 H6 _ I6 q6) fun f s7 q7 => ?_)
    have again : ∀ {σ7 : St} {H7 : Hp}, Inv X (pins ++ pinsAt fp s5.heap) σ7 H7 s7 → N σ7 H7 → ∃ m, m < n ∧ ∃ i σ' H', Inv X pins σ' H' s7 ∧ tn i s7.heap ∧ (∀ b ∈ fp, H' b = none) ∧ W i m σ' H' := fun {σ7 H7} I7 n7 => by
      obtain ⟨m', hm, w7⟩ := hN σ7 H7 n7
      refine ⟨m', hm, i + 1, σ7, H7, I7.unpinned, T.keep _ _ _ st5 fun b hb o e => (I7.pin (b, o) (List.mem_append_right _ (List.mem_append_right _ (mem_pinsAt hb e)))).1, fun b hb => ?_, w7⟩
      obtain ⟨o, e, d⟩ := T.obj _ _ st5 b hb
      exact (I7.pin (b, o) (List.mem_append_right _ (List.mem_append_right _ (mem_pinsAt hb e)))).2.1
    cases f with
    | next => obtain ⟨σ7, H7, I7, n7⟩ := q7; exact again I7 n7
    | cont => obtain ⟨σ7, H7, I7, n7⟩ := q7; exact again I7 n7
    | brk => obtain ⟨σ7, H7, I7, q7⟩ := q7; exact ⟨σ7, H7, I7.unpinned, q7⟩
    | ret v => obtain ⟨x7, σ7, H7, I7, r7, q7⟩ := q7; exact ⟨x7, σ7, H7, I7.unpinned, r7, q7⟩
end
/-- over a list that the body leaves as it is -/
theorem for_list {K : PySem.W.Frag} {a : Addr} {xs : List V} {g : TG} {tb : TS} {D : Ends} {σ : St} {H : Hp} (Pv : Nat → St → Hp → Prop) (h0 : Pv 0 σ H) (hl : ∀ i σ H, i ≤ xs.length → Pv i σ H → SqL K H a xs)
    (hs : ∀ i x σ H, xs[i]? = some x → Pv i σ H → g x σ H fun σ2 H2 => tb { D with nx := Pv (i + 1), ct := Pv (i + 1), bk := D.nx } σ2 H2) (hd : ∀ σ H, Pv xs.length σ H → D.nx σ H) :
    ∃ W : Nat → Nat → St → Hp → Prop, (∃ m, W 0 m σ H) ∧ ∀ i m σ H, W i m σ H →
      ((Itl K a).stop i H ∧ D.nx σ H) ∨ ((Itl K a).go i H ∧ ∃ N : St → Hp → Prop, (∀ σ' H', N σ' H' → ∃ m', m' < m ∧ W (i + 1) m' σ' H') ∧ ∀ x H', (Itl K a).yld i H x H' → g x σ H' fun σ2 H2 => tb { D with nx := N, ct := N, bk := D.nx } σ2 H2) := by
  refine ⟨fun i m σ H => m = xs.length - i ∧ i ≤ xs.length ∧ Pv i σ H, ⟨xs.length, by simp, Nat.zero_le _, h0⟩, ?_⟩
  rintro i m σ H ⟨rfl, hi, p⟩
  have q := hl i σ H hi p
  by_cases hlt : i < xs.length
  · refine .inr ⟨⟨xs, xs[i], q, by simp [hlt]⟩, Pv (i + 1), fun σ' H' p' => ⟨xs.length - (i + 1), by omega, rfl, hlt, p'⟩, fun x H' y => ?_⟩
    obtain ⟨e, y⟩ := y
    subst e
    exact hs i x σ _ (y xs q) p
  · have e : i = xs.length := by omega
    subst e
    exact .inl ⟨⟨xs, q, Nat.le_refl _⟩, hd σ H p⟩
theorem for_tup {K : PySem.W.Frag} {a : Addr} {xs : List V} {g : TG} {tb : TS} {D : Ends} {σ : St} {H : Hp} (Pv : Nat → St → Hp → Prop) (h0 : Pv 0 σ H) (hl : ∀ i σ H, i ≤ xs.length → Pv i σ H → SqT K H a xs)
    (hs : ∀ i x σ H, xs[i]? = some x → Pv i σ H → g x σ H fun σ2 H2 => tb { D with nx := Pv (i + 1), ct := Pv (i + 1), bk := D.nx } σ2 H2) (hd : ∀ σ H, Pv xs.length σ H → D.nx σ H) :
    ∃ W : Nat → Nat → St → Hp → Prop, (∃ m, W 0 m σ H) ∧ ∀ i m σ H, W i m σ H →
      ((Itt K a).stop i H ∧ D.nx σ H) ∨ ((Itt K a).go i H ∧ ∃ N : St → Hp → Prop, (∀ σ' H', N σ' H' → ∃ m', m' < m ∧ W (i + 1) m' σ' H') ∧ ∀ x H', (Itt K a).yld i H x H' → g x σ H' fun σ2 H2 => tb { D with nx := N, ct := N, bk := D.nx } σ2 H2) := by
  refine ⟨fun i m σ H => m = xs.length - i ∧ i ≤ xs.length ∧ Pv i σ H, ⟨xs.length, by simp, Nat.zero_le _, h0⟩, ?_⟩
  rintro i m σ H ⟨rfl, hi, p⟩
  have q := hl i σ H hi p
  by_cases hlt : i < xs.length
  · refine .inr ⟨⟨xs, xs[i], q, by simp [hlt]⟩, Pv (i + 1), fun σ' H' p' => ⟨xs.length - (i + 1), by omega, rfl, hlt, p'⟩, fun x H' y => ?_⟩
    obtain ⟨e, y⟩ := y
    subst e
    exact hs i x σ _ (y xs q) p
  · have e : i = xs.length := by omega
    subst e
    exact .inl ⟨⟨xs, q, Nat.le_refl _⟩, hd σ H p⟩
theorem for_range {lo : Int} {n : Nat} {g : TG} {tb : TS} {D : Ends} {σ : St} {H : Hp} (Pv : Nat → St → Hp → Prop) (h0 : Pv 0 σ H)
    (hs : ∀ i σ H, i < n → Pv i σ H → g (.int (lo + i)) σ H fun σ2 H2 => tb { D with nx := Pv (i + 1), ct := Pv (i + 1), bk := D.nx } σ2 H2) (hd : ∀ σ H, Pv n σ H → D.nx σ H) :
    ∃ W : Nat → Nat → St → Hp → Prop, (∃ m, W 0 m σ H) ∧ ∀ i m σ H, W i m σ H →
      ((Itr lo n).stop i H ∧ D.nx σ H) ∨ ((Itr lo n).go i H ∧ ∃ N : St → Hp → Prop, (∀ σ' H', N σ' H' → ∃ m', m' < m ∧ W (i + 1) m' σ' H') ∧ ∀ x H', (Itr lo n).yld i H x H' → g x σ H' fun σ2 H2 => tb { D with nx := N, ct := N, bk := D.nx } σ2 H2) := by
  refine ⟨fun i m σ H => m = n - i ∧ i ≤ n ∧ Pv i σ H, ⟨n, by simp, Nat.zero_le _, h0⟩, ?_⟩
  rintro i m σ H ⟨rfl, hi, p⟩
  by_cases hlt : i < n
  · refine .inr ⟨hlt, Pv (i + 1), fun σ' H' p' => ⟨n - (i + 1), by omega, rfl, hlt, p'⟩, fun x H' y => ?_⟩
    obtain ⟨e, y⟩ := y
    subst e y
    exact hs i σ _ hlt p
  · have e : i = n := by omega
    subst e
    exact .inl ⟨Nat.le_refl _, hd σ H p⟩
end L2
namespace L2
open PySem PySem.Spec PyProof.Rows
noncomputable abbrev R2 := V → V → Hp → VK → Prop
/-- a two-place operation on values: f is binaryOp op, inplaceOp op or compareOp op -/
noncomputable def OpR (X : Cx) (f : Value → Value → Sem Value) (r : R2) : Prop :=
  ∀ (pins : List (Addr × Obj)) (s : Shared) (σ : St) (H : Hp) (x y : V) (v u : Value) (Q : VK), Inv X pins σ H s → RelV x v → RelV y u → r x y H Q →
    wpAny (model X.prog X.w) X.A (f v u) (EP X pins σ Q) X.xe s
/-- a call of a value that is known (a builtin, a type) with values -/
noncomputable def CallR (X : Cx) (f : Value) (r : List V → Hp → VK → Prop) : Prop :=
  ∀ (pins : List (Addr × Obj)) (s : Shared) (σ : St) (H : Hp) (xs : List V) (us : List Value) (Q : VK), Inv X pins σ H s → Vals xs us → r xs H Q →
    wpAny (model X.prog X.w) X.A (call f us) (EP X pins σ Q) X.xe s
noncomputable def tOp (r : R2) (ta tb : TE) : TE := fun σ H Q => ta σ H fun x H1 => tb σ H1 fun y H2 => r x y H2 Q
/-- ints in, under C, and a value out -/
noncomputable def rI (C : Int → Int → Prop) (g : Int → Int → V) : R2 := fun x y H Q => ∃ i j, x = .int i ∧ y = .int j ∧ C i j ∧ Q (g i j) H
noncomputable def rI0 (g : Int → Int → V) : R2 := fun x y H Q => ∃ i j, x = .int i ∧ y = .int j ∧ Q (g i j) H
section
variable {X : Cx} {a b c : Expr} {ta tb tc : TE} {pos : Pos}
theorem binT (ha : PE X a ta) (hb : PE X b tb) {pins : List (Addr × Obj)} {s : Shared} {σ : St} {H : Hp} {R : V → V → Hp → Prop} (I : Inv X pins σ H s)
    (h : ta σ H fun x H1 => tb σ H1 fun y H2 => R x y H2) {Q : Value → Shared → Prop} {f : Value → Value → Sem Value}
    (hf : ∀ v u s2 x y H2, Inv X pins σ H2 s2 → RelV x v → RelV y u → R x y H2 → wpAny (model X.prog X.w) X.A (f v u) Q X.xe s2) :
    wpAny (model X.prog X.w) X.A (eval a X.env) (fun v s₁ => wpAny (model X.prog X.w) X.A (eval b X.env) (fun u s₂ => wpAny (model X.prog X.w) X.A (f v u) Q X.xe s₂) X.xe s₁) X.xe s := by
  refine thn (ha pins s σ H _ I h) fun v s1 ⟨x, H1, I1, r1, q1⟩ => ?_
  refine thn (hb pins s1 σ H1 _ I1 q1) fun u s2 ⟨y, H2, I2, r2, q2⟩ => ?_
  exact hf v u s2 x y H2 I2 r1 r2 q2
theorem pe_op {op : Operator} {r : R2} (ho : OpR X (binaryOp op) r) (ha : PE X a ta) (hb : PE X b tb) : PE X (.BinOp a op b pos) (tOp r ta tb) := by
  intro pins s σ H Q I h
  exact wpAny_BinOp (binT ha hb I h fun v u s2 x y H2 I2 rx ry q => ho pins s2 σ H2 x y v u Q I2 rx ry q)
theorem opI {f : Value → Value → Sem Value} {C : Int → Int → Prop} {g : Int → Int → Int}
    (rule : ∀ (i j : Int) (t u : Tok) (s : Shared) (Q : Value → Shared → Prop) (E : Value → Shared → Prop), C i j → Q (.int (g i j) s.toks) { s with toks := s.toks + 1 } → wpAny (model X.prog X.w) X.A (f (.int i t) (.int j u)) Q E s) :
    OpR X f (rI C fun i j => .int (g i j)) := by
  intro pins s σ H x y v u Q I rx ry h
  obtain ⟨i, j, rfl, rfl, hc, q⟩ := h
  obtain ⟨t, rfl⟩ := rx
  obtain ⟨t', rfl⟩ := ry
  exact rule i j t t' s _ _ hc ⟨.int (g i j), H, I.tok _, ⟨_, rfl⟩, q⟩
theorem opI0 {f : Value → Value → Sem Value} {g : Int → Int → Int}
    (rule : ∀ (i j : Int) (t u : Tok) (s : Shared) (Q : Value → Shared → Prop) (E : Value → Shared → Prop), Q (.int (g i j) s.toks) { s with toks := s.toks + 1 } → wpAny (model X.prog X.w) X.A (f (.int i t) (.int j u)) Q E s) :
    OpR X f (rI0 fun i j => .int (g i j)) := by
  intro pins s σ H x y v u Q I rx ry h
  obtain ⟨i, j, rfl, rfl, q⟩ := h
  obtain ⟨t, rfl⟩ := rx
  obtain ⟨t', rfl⟩ := ry
  exact rule i j t t' s _ _ ⟨.int (g i j), H, I.tok _, ⟨_, rfl⟩, q⟩
theorem opB0 {f : Value → Value → Sem Value} {g : Int → Int → Bool}
    (rule : ∀ (i j : Int) (t u : Tok) (s : Shared) (Q : Value → Shared → Prop) (E : Value → Shared → Prop), Q (.bool (g i j)) s → wpAny (model X.prog X.w) X.A (f (.int i t) (.int j u)) Q E s) :
    OpR X f (rI0 fun i j => .bl (g i j)) := by
  intro pins s σ H x y v u Q I rx ry h
  obtain ⟨i, j, rfl, rfl, q⟩ := h
  obtain ⟨t, rfl⟩ := rx
  obtain ⟨t', rfl⟩ := ry
  exact rule i j t t' s _ _ ⟨.bl (g i j), H, I, rfl, q⟩
noncomputable def CDiv (i j : Int) : Prop := 0 < j ∧ j < 1073741824
noncomputable def CMul (i j : Int) : Prop := (-(2 ^ 64) < i ∧ i < 2 ^ 64) ∨ (-(2 ^ 64) < j ∧ j < 2 ^ 64)
theorem CMul.ok {i j : Int} (h : CMul i j) : IntMulOk i j := by
  rcases h with ⟨h1, h2⟩ | ⟨h1, h2⟩
  · exact .of_left (intBits_le_64 h1 h2)
  · exact .of_right (intBits_le_64 h1 h2)
theorem op_add : OpR X (binaryOp .Add) (rI0 fun i j => .int (i + j)) := opI0 fun _ _ _ _ _ _ _ q => add_int q
theorem op_sub : OpR X (binaryOp .Sub) (rI0 fun i j => .int (i - j)) := opI0 fun _ _ _ _ _ _ _ q => sub_int q
theorem op_mul : OpR X (binaryOp .Mult) (rI CMul fun i j => .int (i * j)) := opI fun _ _ _ _ _ _ _ hc q => mul_int q hc.ok
/-- // by a positive divisor -/
theorem op_fdiv : OpR X (binaryOp .FloorDiv) (rI CDiv fun i j => .int (i / j)) := opI fun i j _ _ _ _ _ hc q => by
  have h1 : (0 : Int) < j := hc.1
  have h2 : j < 1073741824 := hc.2
  exact floordiv_int (by omega) (by rw [Int.fdiv_eq_ediv_of_nonneg i (by omega)]; exact q) (.inl (PyProof.noPylong_small (by omega)))
/-- % by a positive divisor of any size -/
theorem op_mod : OpR X (binaryOp .Mod) (rI (fun _ j => 0 < j) fun i j => .int (i % j)) := opI fun i j _ _ _ _ _ hc q => by
  have h1 : (0 : Int) < j := hc
  exact mod_int' (by omega) (by rw [Int.fmod_eq_emod_of_nonneg i (by omega)]; exact q)
end
/-- the scalars that == tells apart as data does -/
noncomputable def scal : V → V → Bool
  | .non, .non => true | .non, .int _ => true | .int _, .non => true | .non, .bl _ => true | .bl _, .non => true | .non, .str _ => true | .str _, .non => true
  | .int _, .int _ => true | .bl _, .bl _ => true | .str _, .str _ => true | .byt _, .byt _ => true
  | .int _, .str _ => true | .str _, .int _ => true | .bl _, .str _ => true | .str _, .bl _ => true
  | _, _ => false
noncomputable def rEq : R2 := fun x y H Q => scal x y = true ∧ Q (.bl (decide (x = y))) H
noncomputable def rNe : R2 := fun x y H Q => scal x y = true ∧ Q (.bl (!decide (x = y))) H
theorem dec_int {i j : Int} : decide (V.int i = V.int j) = (i == j) := by
  rw [Bool.eq_iff_iff]
  simp
theorem dec_bl {i j : Bool} : decide (V.bl i = V.bl j) = (i == j) := by
  rw [Bool.eq_iff_iff]
  simp
theorem dec_str {i j : Str} : decide (V.str i = V.str j) = (i == j) := by
  rw [Bool.eq_iff_iff]
  simp
theorem dec_byt {i j : Array UInt8} : decide (V.byt i = V.byt j) = (i.toList == j.toList) := by
  rw [Bool.eq_iff_iff]
  cases i
  cases j
  simp
section
variable {X : Cx} {a b c : Expr} {ta tb tc : TE} {pos : Pos}
theorem fin_bl {pins : List (Addr × Obj)} {σ : St} {H : Hp} {s : Shared} {Q : VK} {k k' : Bool} (I : Inv X pins σ H s) (q : Q (.bl k) H) (e : k = k') : EP X pins σ Q (.bool k') s := by
  subst e
  exact ⟨.bl k, H, I, rfl, q⟩
theorem op_eq : OpR X (compareOp .Eq) rEq := by
  intro pins s σ H x y v u Q I rx ry h
  obtain ⟨hs, q⟩ := h
  cases x with
  | non =>
    cases rx
    cases y with
    | non => cases ry; exact PySem.EqNone.eq_none_none (fin_bl I q (by simp))
    | bl j => cases ry; exact PySem.EqNone.eq_none_bool (fin_bl I q (by simp))
    | int j => obtain ⟨t', rfl⟩ := ry; exact PySem.EqNone.eq_none_int (fin_bl I q (by simp))
    | str j => obtain ⟨t', rfl⟩ := ry; exact PySem.EqNone.eq_none_str (fin_bl I q (by simp))
    | _ => exact absurd (show false = true from hs) Bool.false_ne_true
  | bl i =>
    cases rx
    cases y with
    | non => cases ry; exact PySem.EqNone.eq_bool_none (fin_bl I q (by simp))
    | bl j => cases ry; exact eq_bool (fin_bl I q dec_bl)
    | str j => obtain ⟨t', rfl⟩ := ry; exact PySem.EqMixed.eq_bool_str (fin_bl I q (by simp))
    | _ => exact absurd (show false = true from hs) Bool.false_ne_true
  | int i =>
    obtain ⟨t, rfl⟩ := rx
    cases y with
    | non => cases ry; exact PySem.EqNone.eq_int_none (fin_bl I q (by simp))
    | int j => obtain ⟨t', rfl⟩ := ry; exact eq_int (fin_bl I q dec_int)
    | str j => obtain ⟨t', rfl⟩ := ry; exact PySem.EqMixed.eq_int_str (fin_bl I q (by simp))
    | _ => exact absurd (show false = true from hs) Bool.false_ne_true
  | str i =>
    obtain ⟨t, rfl⟩ := rx
    cases y with
    | non => cases ry; exact PySem.EqNone.eq_str_none (fin_bl I q (by simp))
    | bl j => cases ry; exact PySem.EqMixed.eq_str_bool (fin_bl I q (by simp))
    | int j => obtain ⟨t', rfl⟩ := ry; exact PySem.EqMixed.eq_str_int (fin_bl I q (by simp))
    | str j => obtain ⟨t', rfl⟩ := ry; exact eq_str (fin_bl I q dec_str)
    | _ => exact absurd (show false = true from hs) Bool.false_ne_true
  | byt i =>
    obtain ⟨t, rfl⟩ := rx
    cases y with
    | byt j => obtain ⟨t', rfl⟩ := ry; exact PySem.W.eq_bytes (fin_bl I q dec_byt)
    | _ => exact absurd (show false = true from hs) Bool.false_ne_true
  | _ => cases y <;> exact absurd (show false = true from hs) Bool.false_ne_true
theorem op_ne : OpR X (compareOp .NotEq) rNe := by
  intro pins s σ H x y v u Q I rx ry h
  obtain ⟨hs, q⟩ := h
  cases x with
  | non =>
    cases rx
    cases y with
    | non => cases ry; exact PySem.EqNone.ne_none_none (fin_bl I q (by simp))
    | bl j => cases ry; exact PySem.EqNone.ne_none_bool (fin_bl I q (by simp))
    | int j => obtain ⟨t', rfl⟩ := ry; exact PySem.EqNone.ne_none_int (fin_bl I q (by simp))
    | str j => obtain ⟨t', rfl⟩ := ry; exact PySem.EqNone.ne_none_str (fin_bl I q (by simp))
    | _ => exact absurd (show false = true from hs) Bool.false_ne_true
  | bl i =>
    cases rx
    cases y with
    | non => cases ry; exact PySem.EqNone.ne_bool_none (fin_bl I q (by simp))
    | bl j => cases ry; exact ne_bool (fin_bl I q (congrArg not dec_bl))
    | str j => obtain ⟨t', rfl⟩ := ry; exact PySem.EqMixed.ne_bool_str (fin_bl I q (by simp))
    | _ => exact absurd (show false = true from hs) Bool.false_ne_true
  | int i =>
    obtain ⟨t, rfl⟩ := rx
    cases y with
    | non => cases ry; exact PySem.EqNone.ne_int_none (fin_bl I q (by simp))
    | int j => obtain ⟨t', rfl⟩ := ry; exact ne_int (fin_bl I q (congrArg not dec_int))
    | str j => obtain ⟨t', rfl⟩ := ry; exact PySem.EqMixed.ne_int_str (fin_bl I q (by simp))
    | _ => exact absurd (show false = true from hs) Bool.false_ne_true
  | str i =>
    obtain ⟨t, rfl⟩ := rx
    cases y with
    | non => cases ry; exact PySem.EqNone.ne_str_none (fin_bl I q (by simp))
    | bl j => cases ry; exact PySem.EqMixed.ne_str_bool (fin_bl I q (by simp))
    | int j => obtain ⟨t', rfl⟩ := ry; exact PySem.EqMixed.ne_str_int (fin_bl I q (by simp))
    | str j => obtain ⟨t', rfl⟩ := ry; exact ne_str (fin_bl I q (congrArg not dec_str))
    | _ => exact absurd (show false = true from hs) Bool.false_ne_true
  | byt i =>
    obtain ⟨t, rfl⟩ := rx
    cases y with
    | byt j => obtain ⟨t', rfl⟩ := ry; exact PySem.W.ne_bytes (fin_bl I q (congrArg not dec_byt))
    | _ => exact absurd (show false = true from hs) Bool.false_ne_true
  | _ => cases y <;> exact absurd (show false = true from hs) Bool.false_ne_true
theorem op_lt : OpR X (compareOp .Lt) (rI0 fun i j => .bl (decide (i < j))) := opB0 fun _ _ _ _ _ _ _ q => lt_int q
theorem op_le : OpR X (compareOp .LtE) (rI0 fun i j => .bl (decide (i ≤ j))) := opB0 fun _ _ _ _ _ _ _ q => le_int q
theorem op_gt : OpR X (compareOp .Gt) (rI0 fun i j => .bl (decide (j < i))) := opB0 fun _ _ _ _ _ _ _ q => gt_int q
theorem op_ge : OpR X (compareOp .GtE) (rI0 fun i j => .bl (decide (j ≤ i))) := opB0 fun _ _ _ _ _ _ _ q => ge_int q
theorem nomark (b : Expr) {op : CmpOp} (h : op ≠ .In := by decide) (h2 : op ≠ .NotIn := by decide) : behindInMarks op b = false := by
  have e1 : (op == CmpOp.In) = false := by cases op <;> first | rfl | exact absurd rfl h
  have e2 : (op == CmpOp.NotIn) = false := by cases op <;> first | rfl | exact absurd rfl h2
  cases b <;> simp [behindInMarks, e1, e2]
/-- a comparison as a value; hm: nomark b, or (for in, not in) by with_unfolding_all rfl -/
theorem pe_cmpR {op : CmpOp} {r : R2} (ho : OpR X (compareOp op) r) (ha : PE X a ta) (hb : PE X b tb) (hm : behindInMarks op b = false) : PE X (.Compare a [op] [b] pos) (tOp r ta tb) := by
  intro pins s σ H Q I h
  exact wpAny_Compare1 (binT ha hb I h fun v u s2 x y H2 I2 rx ry q => ho pins s2 σ H2 x y v u Q I2 rx ry q) hm
/-- a reading of a value as a test -/
noncomputable def tTest (t : TE) : TT := fun σ H Q => t σ H fun x H' => ∃ k, x = .bl k ∧ Q k H'
theorem pt_cmpR {op : CmpOp} {r : R2} (ho : OpR X (compareOp op) r) (ha : PE X a ta) (hb : PE X b tb) (hm : behindInMarks op b = false) : PT X (.Compare a [op] [b] pos) (tTest (tOp r ta tb)) := by
  intro pins s σ H Q I h
  refine wpAny_isTrue_Compare1 (thn (ha pins s σ H _ I h) fun v s1 ⟨x, H1, I1, r1, q1⟩ => thn (hb pins s1 σ H1 _ I1 q1) fun u s2 ⟨y, H2, I2, r2, q2⟩ =>
    thn (ho pins s2 σ H2 x y v u _ I2 r1 r2 q2) fun c s3 ⟨z, H3, I3, r3, k, e, q3⟩ => ?_) hm
  subst e
  cases r3
  exact wpAny_truthy_bool ⟨H3, I3, q3⟩
/-- a op1 b op2 c -/
noncomputable def tChain (r r' : R2) (ta tb tc : TE) : TE := fun σ H Q => ta σ H fun x H1 => tb σ H1 fun y H2 => r x y H2 fun z H3 => ∃ k, z = .bl k ∧
  (if k = true then tc σ H3 fun w' H4 => r' y w' H4 Q else Q (.bl false) H3)
theorem pt_chain {op op' : CmpOp} {r r' : R2} (ho : OpR X (compareOp op) r) (ho' : OpR X (compareOp op') r') (ha : PE X a ta) (hb : PE X b tb) (hc : PE X c tc)
    (hm : lastMarks [op, op'] [b, c] = false := by with_unfolding_all rfl) : PT X (.Compare a [op, op'] [b, c] pos) (tTest (tChain r r' ta tb tc)) := by
  intro pins s σ H Q I h
  refine isTrue_chain (thn (ha pins s σ H _ I h) fun v s1 ⟨x, H1, I1, r1, q1⟩ => test_link (thn (hb pins s1 σ H1 _ I1 q1) fun u s2 ⟨y, H2, I2, r2, q2⟩ =>
    thn (ho pins s2 σ H2 x y v u _ I2 r1 r2 q2) fun d s3 ⟨z, H3, I3, r3, k, e, q3⟩ => ?_)) hm
  subst e
  cases r3
  refine wpAny_truthy_bool ?_
  cases k with
  | false =>
    obtain ⟨k', e', q'⟩ := q3
    cases e'
    exact ite_ff ⟨H3, I3, q'⟩
  | true =>
    refine ite_tt (test_last (thn (hc pins s3 σ H3 _ I3 q3) fun w' s4 ⟨z', H4, I4, r4, q4⟩ => thn (ho' pins s4 σ H4 y z' u w' _ I4 r2 r4 q4) fun d' s5 ⟨z2, H5, I5, r5, k2, e2, q5⟩ => ?_))
    subst e2
    cases r5
    exact wpAny_truthy_bool ⟨H5, I5, q5⟩
theorem line63 : (sizeLine : Nat) < 2 ^ 63 := by rw [sizeLine_eq]; decide
theorem vals1 {x : V} {us : List Value} (r : Vals [x] us) : ∃ u, us = [u] ∧ RelV x u := by
  cases r with
  | cons r1 r2 => cases r2; exact ⟨_, rfl, r1⟩
end
end L2
namespace L2
open PySem PySem.Spec PyProof.Rows
structure ObjM (h : Heap) (x dx C : Addr) (mA : Str → Option Value) : Prop where
  obj : h.get? x = some (PySem.W.instObj C dx)
  ns : h.Ns1 dx mA
  ne : dx ≠ x
theorem lookIn_ns {h : Heap} {dx : Addr} {mA : Str → Option Value} (n : h.Ns1 dx mA) : ∃ od, h.get? dx = some od ∧ ∀ name, PySem.W.lookIn name od = some (mA name) := by
  obtain ⟨o, es, ep, ho, hd, hk, _, hm⟩ := n
  refine ⟨o, ho, fun name => ?_⟩
  have e := hm name
  unfold nsFind findBy at e
  rw [← Array.find?_toList] at e
  unfold PySem.W.lookIn
  rw [hd]
  dsimp only
  split
  · rename_i y q
    rw [q] at e
    exact congrArg some e
  · rename_i q
    rw [q] at e
    have a : es.toList.any (·.refKey) = false := by
      rw [List.any_eq_false]
      intro y hy
      obtain ⟨z, t, hkey⟩ := hk y (Array.mem_toList_iff.mp hy)
      simp [DictEntry.refKey, hkey]
    have a' : ¬ es.toList.any (·.refKey) = true := by rw [a]; exact Bool.false_ne_true
    rw [if_neg a']
    exact congrArg some e
theorem ObjM.look {h : Heap} {x dx C : Addr} {mA : Str → Option Value} (I : ObjM h x dx C mA) : ∃ od, PySem.W.InstAt h x (PySem.W.instObj C dx) C (some od) ∧ ∀ name, PySem.W.lookIn name od = some (mA name) :=
  let ⟨od, ho, hl⟩ := lookIn_ns I.ns
  ⟨od, ⟨I.obj, rfl, rfl, ho⟩, hl⟩
section
variable {prog : Program} {w : World} {A : Around} {E : Value → Shared → Prop} {s : Shared} {K : PySem.W.Frag} {x dx C f : Addr} {mA : Str → Option Value} {name : Str} {v : Value}
end
section
variable {P : Program} {w : World} {H H' : Hp} {h h' : Heap} {a C dx : Addr} {fs fs' : List (Str × V)}
theorem ins_get (hok : HOk P w H h) (e : H a = some (.ins C dx fs)) : ∃ mA, ObjM h a dx C mA ∧ (∀ f, RelO (fs.lookup f) (mA f)) ∧ PySem.Within mA (fs.map (·.1)) ∧ fs.length ≤ 1000 ∧ H dx = some (.own a) := by
  obtain ⟨d, z, ne, ob, mA, n, r, q⟩ := (show ObjOk P w H h a (.ins C dx fs) from hok a _ e)
  exact ⟨mA, ⟨ob, n, ne⟩, r, q, z, d⟩
end
structure Cls (K : PySem.W.Frag) (C : Addr) : Prop where
  pg : PySem.W.plainGet K C Str.empty = true
  hd : PySem.W.hasDictIn K C = true
  po : PySem.W.plainOver K C = true
  sa : PySem.W.findIn K (.ref C) "__setattr__" = some (some (.builtin "object.__setattr__"))
theorem Cls.get {K : PySem.W.Frag} {C : Addr} (c : Cls K C) (f : Str) : PySem.W.plainGet K C f = true := c.pg
section
variable {X : Cx} {pins : List (Addr × Obj)} {σ : St} {H : Hp} {s : Shared} {a C dx : Addr} {fs : List (Str × V)} {f : Str} {v : V} {A : Around} {E : Value → Shared → Prop}
end
section
variable {X : Cx} {o e value : Expr} {f : Str} {pos pos' tpos : Pos} {ta tv : TE}
end
section
variable {X : Cx} {pins : List (Addr × Obj)} {σ : St} {H : Hp} {s : Shared} {A : Around} {E : Value → Shared → Prop} {Q : Value → Shared → Prop} {c : Value} {b : Bool}
/-- the type of a value, as the fragment's deciders take it; for an instance its class -/
inductive TyOf (K : PySem.W.Frag) (H : Hp) : V → Value → Prop where
  | non : TyOf K H .non (.type "NoneType")
  | bl (x : Bool) : TyOf K H (.bl x) (.type "bool")
  | int (i : Int) : TyOf K H (.int i) (.type "int")
  | str (x : Str) : TyOf K H (.str x) (.type "str")
  | flt (x : UInt64) : TyOf K H (.flt x) (.type "float")
  | lst {a : Addr} {xs : List V} (e : H a = some (.lst xs)) : TyOf K H (.ref a) (.type "list")
  | frz {a : Addr} {o : Obj} {xs : List V} (e : H a = some (.frz o (.lst xs))) : TyOf K H (.ref a) (.type "list")
  | tup {a : Addr} {xs : List V} (e : H a = some (.tup xs)) : TyOf K H (.ref a) (.type "tuple")
  | dK {a : Addr} {kvs : List (Key × V)} (e : H a = some (.dK kvs)) : TyOf K H (.ref a) (.type "dict")
  | dT {a : Addr} {kvs : List (List Key × V)} (e : H a = some (.dT kvs)) : TyOf K H (.ref a) (.type "dict")
  | ins {a C dx : Addr} {fs : List (Str × V)} (e : H a = some (.ins C dx fs)) (cl : Cls K C) (ha : PySem.W.findIn K (.ref C) "__class__" = some (some (.builtin "object.__class__")))
      (hn : PySem.W.specialIn K (.builtin "object.__class__") "__get__" = some (some (.builtin "getset_descriptor.__get__"))) (htk : PySem.W.takesIn K (.builtin "object.__class__") = some true)
      (hm : PySem.W.mroIn K C (.type "object") = some true) : TyOf K H (.ref a) (.ref C)
/-- isinstance(x, c) for one class c, a built-in or an own one: kitOne's answer -/
theorem isinst_ok {x : V} {u t : Value} (I : Inv X pins σ H s) (rx : RelV x u) (ty : TyOf X.K H x t) (e : PySem.W.kitOne X.K t c = some b) (h : ∀ tk, Q (.bool b) { s with toks := tk }) :
    wpAny (model X.prog X.w) A (call (.builtin "isinstance") [u, c]) Q E s := by
  cases ty with
  | non => cases (show u = Value.none from rx); exact PySem.W.kia_one PySem.W.kitx_none I.kIn True.intro e (fun z => nomatch z) h
  | bl y => cases (show u = Value.bool y from rx); exact PySem.W.kia_one PySem.W.kitx_bool I.kIn True.intro e (fun z => nomatch z) h
  | int i => obtain ⟨t, q⟩ := (show ∃ t, u = Value.int i t from rx); cases q; exact PySem.W.kia_one PySem.W.kitx_int I.kIn True.intro e (fun z => nomatch z) h
  | str y => obtain ⟨t, q⟩ := (show ∃ t, u = Value.str y t from rx); cases q; exact PySem.W.kia_one PySem.W.kitx_str I.kIn True.intro e (fun z => nomatch z) h
  | flt y => obtain ⟨t, q⟩ := (show ∃ t, u = Value.float y t from rx); cases q; exact PySem.W.kia_one PySem.W.kitx_float I.kIn True.intro e (fun z => nomatch z) h
  | @lst a xs ea =>
    cases (show u = Value.ref a from rx)
    obtain ⟨_, _, n, _, h1⟩ := (show ObjOk X.prog X.w H s.heap a (.lst xs) from I.hok a _ ea)
    exact PySem.W.kia_one PySem.W.kitx_list I.kIn ⟨_, h1, rfl⟩ e (fun z => nomatch z) h
  | @frz a ob xs ea =>
    cases (show u = Value.ref a from rx)
    obtain ⟨_, _, _, n, _, h1⟩ := (show ObjOk X.prog X.w H s.heap a (.frz ob (.lst xs)) from I.hok a _ ea)
    exact PySem.W.kia_one PySem.W.kitx_list I.kIn ⟨_, h1, rfl⟩ e (fun z => nomatch z) h
  | @tup a xs ea =>
    cases (show u = Value.ref a from rx)
    obtain ⟨_, _, _, p⟩ := (show ObjOk X.prog X.w H s.heap a (.tup xs) from I.hok a _ ea)
    obtain ⟨o, h1, h2, _⟩ := p
    exact PySem.W.kia_one PySem.W.kitx_tuple I.kIn ⟨o, h1, h2⟩ e (fun z => nomatch z) h
  | @dK a kvs ea =>
    cases (show u = Value.ref a from rx)
    obtain ⟨_, _, vs, _, p⟩ := (show ObjOk X.prog X.w H s.heap a (.dK kvs) from I.hok a _ ea)
    obtain ⟨o, es, ep, h1, h2, _⟩ := p
    exact PySem.W.kia_one PySem.W.kitx_dict I.kIn ⟨o, h1, h2.1⟩ e (fun z => nomatch z) h
  | @dT a kvs ea =>
    cases (show u = Value.ref a from rx)
    obtain ⟨_, _, xs, _, o, es, ep, h1, h2, _⟩ := (show ObjOk X.prog X.w H s.heap a (.dT kvs) from I.hok a _ ea)
    exact PySem.W.kia_one PySem.W.kitx_dict I.kIn ⟨o, h1, h2.1⟩ e (fun z => nomatch z) h
  | @ins a C dx fs ea cl ha hn htk hm =>
    cases (show u = Value.ref a from rx)
    obtain ⟨mA, O, _⟩ := ins_get I.hok ea
    obtain ⟨od, J, _⟩ := O.look
    exact PySem.W.kia_one (PySem.W.kitx_own (cl.get _) cl.hd ha hn htk hm) I.kIn J e (fun z => nomatch z) h
end
end L2
namespace L2
open PySem PySem.Spec PyProof.Rows
structure Room (k : Nat) (A : Around) : Prop where
  hd : A.handled = none
  dp : A.depth + 3 * k + 5 < recursionLimit
  un : A.units + 16 * k + 200 < cLine
theorem Room.mono {j k : Nat} {A : Around} (r : Room k A) (h : j ≤ k) : Room j A := ⟨r.hd, by have := r.dp; omega, by have := r.un; omega⟩
theorem Room.deeper {k : Nat} {A : Around} (r : Room (k + 1) A) (env : Env) : Room k (A.deeper env) :=
  ⟨r.hd, by have := r.dp; show A.depth + 1 + 3 * k + 5 < _; omega, by have := r.un; show A.units + 3 + 16 * k + 200 < _; omega⟩
theorem Room.depth {k : Nat} {A : Around} (r : Room k A) : A.depth < recursionLimit := by have := r.dp; omega
theorem Room.units {k : Nat} {A : Around} (r : Room k A) : A.units + 64 < cLine := by have := r.un; omega
noncomputable def tNil : TA := fun _ H Q => Q [] H
noncomputable def tCons (ta : TE) (tr : TA) : TA := fun σ H Q => ta σ H fun x H1 => tr σ H1 fun xs H2 => Q (x :: xs) H2
section
variable {X : Cx} {e : Expr} {es : List Expr} {te : TE} {t : TA} {pos : Pos}
theorem pa_nil : PA X [] tNil := fun _ _ _ _ H Q I h => Calls.spliced_nil ⟨[], H, I, .nil, h⟩
theorem pa_cons (ha : PE X e te) (hr : PA X es t) (hs : starEach (e :: es) X.env = (false, eval e X.env) :: starEach es X.env := by rfl) : PA X (e :: es) (tCons te t) := by
  intro pos pins s σ H Q I h
  rw [hs]
  show wpAny _ _ (spliced ((false, eval e X.env) :: backTo pos (starEach es X.env))) _ _ s
  refine Calls.spliced_cons (thn (ha pins s σ H _ I h) fun u s1 ⟨x, H1, I1, r1, q1⟩ => ?_)
  exact thn (hr pos pins s1 σ H1 _ I1 q1) fun us s2 ⟨xs, H2, I2, r2, q2⟩ => ⟨x :: xs, H2, I2, .cons r1 r2, q2⟩
/-- a tuple, a list of written items -/
noncomputable def tTup (t : TA) : TE := fun σ H Q => t σ H fun xs H1 => xs.length ≤ sizeLine ∧ ∀ p, H1 p = none → Q (.ref p) (upd H1 p (.tup xs))
noncomputable def tLst (t : TA) : TE := fun σ H Q => t σ H fun xs H1 => xs.length ≤ sizeLine ∧ ∀ p, H1 p = none → Q (.ref p) (upd H1 p (.lst xs))
theorem pe_tup {x1} (h : PA X es t) : PE X (.Tuple es x1 pos) (tTup t) := by
  intro pins s σ H Q I hq
  refine wpAny_Tuple_spliced (thn (h pos pins s σ H _ I hq) fun us s1 ⟨xs, H1, I1, r, z, q⟩ => ⟨by rw [← r.length]; exact z, ?_⟩)
  have hf : H1 s1.heap.objs.size = none := I1.hok.fresh (Nat.le_refl _)
  refine ⟨.ref s1.heap.objs.size, upd H1 s1.heap.objs.size (.tup xs), I1.laid (t' := s1.toks) (fun b u e => Heap.get?_push_of_some _ e) (Nat.le_refl _) ?_, rfl, q _ hf⟩
  exact ⟨z, us, r, ⟨_, Heap.get?_push_size _ rfl, rfl, _, rfl⟩⟩
theorem pe_lst (h : PA X es t) : PE X (.List es pos) (tLst t) := by
  intro pins s σ H Q I hq
  refine wpAny_List_spliced (thn (h pos pins s σ H _ I hq) fun us s1 ⟨xs, H1, I1, r, z, q⟩ => ⟨by rw [← r.length]; exact z, ?_⟩)
  have hf : H1 s1.heap.objs.size = none := I1.hok.fresh (Nat.le_refl _)
  refine ⟨.ref s1.heap.objs.size, upd H1 s1.heap.objs.size (.lst xs), I1.laid (t' := s1.toks) (fun b u e => Heap.get?_push_of_some _ e) (Nat.le_refl _) ?_, rfl, q _ hf⟩
  exact ⟨z, us, 0, r, Heap.get?_push_size _ rfl⟩
end
/-- a def's promise: the bound arguments in the parameters' order, the heap, the wanted end, the wanted exception -/
noncomputable abbrev Sp := List V → Hp → VK → XK → Prop
/-- how an exception lies behind a call (file 08 gives it): the callers' frames, abstract heap and state ahead of the call, the wish, the exception, the state -/
noncomputable abbrev CXT := List Env → Hp → Shared → XK → Value → Shared → Prop
/-- the state at a call -/
structure Env0 (P : Program) (w : World) (K : PySem.W.Frag) (mg : Str → Option Value) (base : Heap) (A : Around) (outer : List Env) (s : Shared) (H : Hp) : Prop where
  frames : A.frames = some outer
  mod : Mod K mg base
  bs : ∀ b o, base.get? b = some o → s.heap.get? b = some o ∧ H b = none
  bsz : base.objs.size ≤ s.heap.objs.size
  funs : s.heap.FunFrames base outer
  frf : ∀ b ∈ frs outer, H b = none
  hok : HOk P w H s.heap
  bare : AllBare s.gens
/-- a call's end -/
noncomputable def CE (outer : List Env) (P : Program) (w : World) (H : Hp) (s : Shared) (Q : VK) (u : Value) (s' : Shared) : Prop :=
  ∃ v H', s'.os = s.os ∧ AllBare s'.gens ∧ Un (frs outer) [] H H' s.heap s'.heap ∧ HOk P w H' s'.heap ∧ RelV v u ∧ Q v H'
noncomputable def CR (CX : CXT) (outer : List Env) (P : Program) (w : World) (H : Hp) (s : Shared) (Q : VK) (E : XK) (r : Result) (s' : Shared) : Prop :=
  match r with
  | .ok (.ret u) => CE outer P w H s Q u s'
  | .ok _ => False
  | .error e => CX outer H s E e s'
structure FnOk (P : Program) (w : World) (K : PySem.W.Frag) (mg : Str → Option Value) (base : Heap) (CX : CXT) (k : Nat) (f : Addr) (fd : FuncData) (ps : List Str) (sp : Sp) : Prop where
  len : ∀ vs H Q E, sp vs H Q E → vs.length = ps.length
  run : ∀ (A : Around) (outer : List Env) (s : Shared) (H : Hp) (args : Args) (us : List Value) (vs : List V) (Q : VK) (E : XK), Room k A → Env0 P w K mg base A outer s H → BindsTo s fd args (ps.zip us) → Vals vs us → sp vs H Q E →
    codeAny (model P w) A (.call (.ref f) args) (CR CX outer P w H s Q E) s
section
variable {X : Cx} {pins : List (Addr × Obj)} {σ : St} {H : Hp} {s s' : Shared}
/-- from a body: what a callee wants -/
theorem Inv.env0 (I : Inv X pins σ H s) : Env0 X.prog X.w X.K X.mg X.base X.A X.stack s H :=
  ⟨I.ok.frames, I.ok.mod, I.bs, Nat.le_trans I.ok.bsz I.sz, I.stack, I.stkFree, I.hok, I.bare⟩
/-- behind a call -/
theorem Inv.after {Q : VK} {u : Value} (I : Inv X pins σ H s) (h : CE X.stack X.prog X.w H s Q u s') : EP X pins σ Q u s' := by
  obtain ⟨v, H', os, bare, un, hok, r, q⟩ := h
  obtain ⟨hh, g, d, t, os'⟩ := s'
  obtain rfl : os' = s.os := os
  exact ⟨v, H', I.call (h' := hh) (g' := g) (d' := d) (t' := t) (ch := []) un hok bare (fun b z => absurd z (by simp)), r, q⟩
end
/-- f(..): the written arguments, then the defaults dvs; E: what is wanted of an exception -/
noncomputable def tCall (sp : Sp) (dvs : List V) (E : XK) (t : TA) : TE := fun σ H Q => t σ H fun vs H1 => sp (vs ++ dvs) H1 Q E
/-- how the parameters are bound: us the positional arguments, kw the keywords' values by name, ds the defaults that fill up -/
noncomputable def Binds (K : PySem.W.Frag) (fd : FuncData) (ps : List Str) (ds : List Value) : Prop :=
  ∀ (s : Shared) (us : List Value), K.In s.heap → (us ++ ds).length = ps.length → BindsTo s fd ⟨us, []⟩ (ps.zip (us ++ ds))
/-- every parameter is given -/
theorem Binds.all {K : PySem.W.Frag} {fd : FuncData} {ps : List Str} (h : ∀ us : List Value, us.length = ps.length → bindArgs fd ⟨us, []⟩ = pure (ps.zip us)) : Binds K fd ps [] := fun s us _ hl => by
  rw [List.append_nil] at hl ⊢
  exact .of_eq (h us hl)
/-- an exception of a callee reaches what this body wants of exceptions -/
noncomputable def Passes (CX : CXT) (X : Cx) (E : XK) : Prop := ∀ (pins : List (Addr × Obj)) (σ : St) (H : Hp) (s : Shared) (e : Value) (s' : Shared), Inv X pins σ H s → CX X.stack H s E e s' → X.xe e s'
section
variable {X : Cx} {CX : CXT} {k : Nat} {f C : Addr} {fd : FuncData} {ps : List Str} {sp : Sp} {dvs : List V} {ds : List Value} {E : XK} {x m : Str} {p pos apos : Pos} {e o : Expr} {es : List Expr} {ta : TE} {t : TA}
/-- the callee runs -/
theorem run_fn {pins : List (Addr × Obj)} {σ : St} {H : Hp} {s : Shared} {Q : VK} {us : List Value} {vs : List V} (F : FnOk X.prog X.w X.K X.mg X.base CX k f fd ps sp) (hr : Room k X.A) (hb : Binds X.K fd ps ds) (hd : Vals dvs ds) (hx : Passes CX X E)
    (I : Inv X pins σ H s) (r : Vals vs us) (h : sp (vs ++ dvs) H Q E) : wpAny (model X.prog X.w) X.A (call (.ref f) us) (EP X pins σ Q) X.xe s := by
  have r2 : Vals (vs ++ dvs) (us ++ ds) := r.append hd
  have hl : (us ++ ds).length = ps.length := by rw [← r2.length]; exact F.len _ _ _ _ h
  refine wpAny_call (codeAny_mono (F.run X.A X.stack s H ⟨us, []⟩ (us ++ ds) (vs ++ dvs) Q E hr I.env0 (hb s us I.kIn hl) r2 h) fun r s' hq => ?_)
  cases r with
  | error e => exact hx pins σ H s e s' I hq
  | ok fl =>
    cases fl with
    | ret u => exact I.after hq
    | next => exact False.elim hq
    | brk => exact False.elim hq
    | cont => exact False.elim hq
theorem pe_call (F : FnOk X.prog X.w X.K X.mg X.base CX k f fd ps sp) (hr : Room k X.A) (hg : Gl X x) (hm : X.mg x = some (.ref f)) (hk : PySem.W.keepIn X.K (.ref f) = true) (hb : Binds X.K fd ps ds) (hd : Vals dvs ds) (hx : Passes CX X E)
    (ha : PA X (e :: es) t) (hdb : (x == ("__debug__" : Str)) = false := by decide) (he : starEach (e :: es) X.env = (false, eval e X.env) :: starEach es X.env := by rfl) (hpl : (backTo pos (starEach es X.env)).any (·.1) = false := by rfl) :
    PE X (.Call (.Name x p) (e :: es) [] pos) (tCall sp dvs E t) := by
  intro pins s σ H Q I h
  refine wpAny_Call_Name_kw (ld_glob I hg hm ?_ hdb)
  refine PySem.W.callWith_K (h₀ := X.base) I.ok.mod.kin hk (thn (ha pos pins s σ H _ I h) fun us s1 ⟨vs, H1, I1, r, q⟩ => ⟨I1.kIn, ?_⟩) he hpl
  exact run_fn F hr hb hd hx I1 r q
end
section
variable {X : Cx} {CX : CXT} {k : Nat} {f C : Addr} {fd : FuncData} {ps ks : List Str} {sp : Sp} {E : XK} {x m : Str} {p pos apos kpos : Pos} {e o : Expr} {es : List Expr} {kws : List Keyword} {te ta : TE} {t tk : TA} {nm : Option Str}
variable {g : List Value → List Value → List Value} {gV : List V → List V → List V}
end
/-- names: the parameters first -/
structure FnScope (N P : List Str) (sc : Scope) : Prop where
  kind : sc.kind = .function
  co : sc.isCoroutine = false
  gen : sc.isGenerator = false
  nd : N.Nodup
  pre : N.take P.length = P
  par : ∀ x ∈ P, sc.names.lookup x = some .local ∨ sc.names.lookup x = some .cell
  nofree : ∀ y ∈ sc.names, y.2 ≠ .free
theorem bindL_out {kindOf : Str → Option NameKind} {x : Str} : ∀ {binds : List (Str × Value)} {m : Str → Option Value}, (∀ v, (x, v) ∉ binds) → bindL kindOf binds m x = m x
  | [], _, _ => rfl
  | (n, v) :: r, m, h => by
    unfold bindL
    rw [bindL_out fun w hw => h w (List.mem_cons_of_mem _ hw)]
    split
    · have : x ≠ n := by rintro rfl; exact h v List.mem_cons_self
      simp [this]
    · rfl
theorem bindC_out {kindOf : Str → Option NameKind} {x : Str} : ∀ {binds : List (Str × Value)} {m : Str → Option Value}, (∀ v, (x, v) ∉ binds) → bindC kindOf binds m x = m x
  | [], _, _ => rfl
  | (n, v) :: r, m, h => by
    unfold bindC
    rw [bindC_out fun w hw => h w (List.mem_cons_of_mem _ hw)]
    split
    · rfl
    · have : x ≠ n := by rintro rfl; exact h v List.mem_cons_self
      simp [this]
theorem bindL_get {kindOf : Str → Option NameKind} {x : Str} {v : Value} : ∀ {P : List Str} {vs : List Value} {i : Nat} {m : Str → Option Value}, P.Nodup → P[i]? = some x → vs[i]? = some v → kindOf x = some .local →
    bindL kindOf (P.zip vs) m x = some v
  | [], _, _, _, _, h, _, _ => by simp at h
  | _ :: _, [], _, _, _, _, h, _ => by simp at h
  | p :: P, w :: vs, 0, m, nd, h1, h2, hk => by
    simp at h1 h2; subst h1; subst h2
    show bindL kindOf ((p, w) :: P.zip vs) m p = _
    unfold bindL
    rw [bindL_out fun v hv => (List.nodup_cons.mp nd).1 (List.of_mem_zip hv).1, if_pos hk]
    simp
  | p :: P, w :: vs, i + 1, m, nd, h1, h2, hk => by
    show bindL kindOf ((p, w) :: P.zip vs) m x = _
    unfold bindL
    exact bindL_get (i := i) (List.nodup_cons.mp nd).2 (by simpa using h1) (by simpa using h2) hk
theorem bindC_get {kindOf : Str → Option NameKind} {x : Str} {v : Value} : ∀ {P : List Str} {vs : List Value} {i : Nat} {m : Str → Option Value}, P.Nodup → P[i]? = some x → vs[i]? = some v → kindOf x ≠ some .local →
    bindC kindOf (P.zip vs) m x = some v
  | [], _, _, _, _, h, _, _ => by simp at h
  | _ :: _, [], _, _, _, _, h, _ => by simp at h
  | p :: P, w :: vs, 0, m, nd, h1, h2, hk => by
    simp at h1 h2; subst h1; subst h2
    show bindC kindOf ((p, w) :: P.zip vs) m p = _
    unfold bindC
    rw [bindC_out fun v hv => (List.nodup_cons.mp nd).1 (List.of_mem_zip hv).1, if_neg hk]
    simp
  | p :: P, w :: vs, i + 1, m, nd, h1, h2, hk => by
    show bindC kindOf ((p, w) :: P.zip vs) m x = _
    unfold bindC
    exact bindC_get (i := i) (List.nodup_cons.mp nd).2 (by simpa using h1) (by simpa using h2) hk
/-- the names' values at the entry -/
noncomputable def start (N : List Str) (vs : List V) : St := vs.map some ++ List.replicate (N.length - vs.length) none
/-- the context of a def's body, at its entry; an exception leaves the frame, then lies as CX says -/
noncomputable def cxOf (CX : CXT) (P : Program) (w : World) (K : PySem.W.Frag) (mg : Str → Option Value) (base : Heap) (N : List Str) (qual : Str) (scope : Scope) (f : Addr) (cd : Value) (A : Around) (outer : List Env) (s : Shared) (H : Hp) (E : XK) : Cx where
  prog := P
  w := w
  K := K
  mg := mg
  base := base
  A := A.deeper (envOfC qual scope s.heap.objs.size f cd)
  N := N
  s₀ := s
  H₀ := H
  env := envOfC qual scope s.heap.objs.size f cd
  outer := outer
  stack := envOfC qual scope s.heap.objs.size f cd :: outer
  ex := []
  calm := true
  fn := fun _ => true
  pn := []
  xe := fun e s' => wpAny (model P w) (A.deeper (envOfC qual scope s.heap.objs.size f cd)) (leaving (envOfC qual scope s.heap.objs.size f cd) e) (fun _ s'' => CX outer H s E e s'') (fun e' s'' => CX outer H s E e' s'') s'
theorem cell_has {sc : Scope} {n : Nat} {x : Str} (h : sc.names.lookup x = some .cell) : ∃ c, (cellsFrom n sc.names []).lookup x = some c := by
  have q := PySem.W.cellsFrom_some sc.names n [] (.inl h)
  exact Option.isSome_iff_exists.mp q
theorem inv_start {CX : CXT} {P : Program} {w : World} {K : PySem.W.Frag} {mg : Str → Option Value} {base : Heap} {N ps : List Str} {qual : Str} {scope : Scope} {f : Addr} {cd : Value} {A : Around} {outer : List Env} {s s1 : Shared} {H : Hp} {E : XK} {us : List Value} {vs : List V}
    (S : FnScope N ps scope) (hd : A.handled = none) (e0 : Env0 P w K mg base A outer s H) (hl : vs.length = ps.length) (r : Vals vs us)
    (x : InCallC s s.heap.objs.size (bindL (envOfC qual scope s.heap.objs.size f cd).kindOf (ps.zip us) fun _ => none) (cellsFrom (s.heap.objs.size + 1) scope.names []) (bindC (envOfC qual scope s.heap.objs.size f cd).kindOf (ps.zip us) fun _ => none) s1) :
    Inv (cxOf CX P w K mg base N qual scope f cd A outer s H E) [] (start N vs) H s1 := by
  have hpl : ps.length ≤ N.length := by have := congrArg List.length S.pre; rw [List.length_take] at this; omega
  obtain ⟨h1, tk, rfl, hk⟩ := x.done
  have noA : ∀ b : Addr, b ∉ (cxOf CX P w K mg base N qual scope f cd A outer s H E).ex := fun b z => absurd (show b ∈ ([] : List Addr) from z) (by simp)
  refine ⟨⟨e0.mod, S.kind, rfl, rfl, Nat.le_refl _, fun y z c h1 h2 => ?_, fun y hy => ?_, fun y c _ h => ?_, fun _ => hd, Around.frames_deeper e0.frames, .inr ⟨rfl, rfl⟩, fun b z => absurd z (noA b), e0.bs, e0.bsz, fun b _ _ => noA b, fun b z => absurd z (noA b), e0.funs, e0.frf⟩,
    rfl, e0.bare, Un.kept hk, ⟨_, x.toInCall.ns, fun i y v h1 h2 h3 => ?_⟩, fun y c h => ⟨_, x.cell y c h⟩, e0.hok.fresh (Nat.le_refl _), fun y c h => ?_, fun p hp => absurd (show p ∈ ([] : List (Addr × Obj)) from hp) (by simp), e0.hok.kept hk, ?_⟩
  · exact name_of_addr x.apart (PySem.mem_of_lookup h1) (PySem.mem_of_lookup h2)
  · have hy : scope.names.lookup y = some .cell ∨ scope.names.lookup y = some .free := hy
    rcases hy with hy | hy
    · exact cell_has hy
    · exact absurd rfl (S.nofree _ (PySem.mem_of_lookup hy))
  · exact Nat.le_of_lt (x.above y c (PySem.mem_of_lookup h))
  · have hi : i < vs.length := by
      unfold start at h2
      by_cases hi : i < vs.length
      · exact hi
      · rw [List.getElem?_append_right (by simpa using hi)] at h2
        rw [List.getElem?_replicate] at h2
        split at h2 <;> cases h2
    have ha : vs[i]? = some v := by
      unfold start at h2
      rw [List.getElem?_append_left (by simpa using hi), List.getElem?_map] at h2
      cases e : vs[i]? with
      | none => rw [e] at h2; cases h2
      | some a => rw [e] at h2; cases h2; rfl
    obtain ⟨u, hu, rv⟩ := r.get ha
    have hp : ps[i]? = some y := by
      rw [← S.pre, List.getElem?_take_of_lt (by omega)]; exact h1
    have ndP : ps.Nodup := by rw [← S.pre]; exact S.nd.sublist (List.take_sublist _ _)
    refine ⟨u, rv, ?_⟩
    rcases S.par y (List.mem_of_getElem? hp) with k | k
    · exact .inl ⟨k, bindL_get ndP hp hu k⟩
    · obtain ⟨c, e⟩ := cell_has (n := s.heap.objs.size + 1) k
      refine .inr ⟨.inl k, c, e, ?_⟩
      have q := x.cell y c e
      rw [bindC_get ndP hp hu (by show scope.names.lookup y ≠ _; rw [k]; decide)] at q
      exact q
  · exact e0.hok.fresh (Nat.le_of_lt (x.above y c (PySem.mem_of_lookup h)))
  · unfold start
    show _ = N.length
    rw [List.length_append, List.length_map, List.length_replicate]
    omega
/-- THE RULE: a def (or a method) of the text, by its body. The body's reading t is chosen for each entry; it is run at the parameters' values -/
theorem fn_of {CX : CXT} {P : Program} {w : World} {K : PySem.W.Frag} {mg : Str → Option Value} {base : Heap} {k : Nat} {f : Addr} {name qual : Str} {params : Arguments} {body : List Stmt} {scope : Scope} {dV kV doc pm cdv ct oc : Value} {an od : Option Addr}
    {osl : Array (Option Value)} {N ps : List Str} {sp : Sp} (lk : K.lookup f = some ⟨oc, od, .func (PySem.W.fnOf name qual params body scope dV kV doc pm an cdv ct), osl⟩) (hcd : PySem.W.codeIn K cdv qual = true) (S : FnScope N ps scope)
    (len : ∀ vs H Q E, sp vs H Q E → vs.length = ps.length)
    (hbody : ∀ (A : Around) (outer : List Env) (s : Shared) (H : Hp) (vs : List V) (Q : VK) (E : XK), Room k (A.deeper (envOfC qual scope s.heap.objs.size f cdv)) → sp vs H Q E →
      ∃ t, PSs (cxOf CX P w K mg base N qual scope f cdv A outer s H E) body t ∧ t { nx := fun _ H' => Q .non H', rt := Q } (start N vs) H) :
    FnOk P w K mg base CX (k + 1) f (PySem.W.fnOf name qual params body scope dV kV doc pm an cdv ct) ps sp := by
  refine ⟨len, fun A outer s H args us vs Q E hr e0 hb r hsp => ?_⟩
  have hl := len _ _ _ _ hsp
  have KX : K.In s.heap := e0.mod.kin.keeps fun b o e => (e0.bs b o e).1
  have lim : s.heap.NoLimit := e0.mod.nolimit.keeps fun b o e => (e0.bs b o e).1
  have hkind : ∀ y ∈ ps.zip us, scope.names.lookup y.1 = some .local ∨ (scope.names.lookup y.1 = some .cell ∧ ((cellsFrom (s.heap.objs.size + 1) scope.names []).lookup y.1).isSome = true) := fun ⟨n, v⟩ hy => by
    rcases S.par n (List.of_mem_zip hy).1 with q | q
    · exact .inl q
    · exact .inr ⟨q, PySem.W.cellsFrom_some _ _ _ (.inl q)⟩
  refine codeAny_call_function hr.depth (KX _ _ lk) rfl S.co S.gen rfl (PySem.W.codeRec_of KX hcd) (hb _ _ _ _ ?_)
  refine wpAny_newFunctionEnv_cells S.kind hkind fun env he s1 x => ?_
  subst he
  refine ⟨lim.keeps x.toInCall.keep, codeAny_func ?_⟩
  obtain ⟨t, ht, hq⟩ := hbody A outer s H vs Q E (hr.deeper _) hsp
  have I : Inv (cxOf CX P w K mg base N qual scope f cdv A outer s H E) [] (start N vs) H s1 := inv_start S hr.hd e0 hl r x
  refine wpAny_mono (ht [] s1 (start N vs) H _ I hq) (fun fl s' hs => ?_) fun e s' hs => hs
  have fin : ∀ {σ' : St} {H' : Hp} {v : V} {u : Value}, Inv (cxOf CX P w K mg base N qual scope f cdv A outer s H E) [] σ' H' s' → RelV v u → Q v H' → CE outer P w H s Q u s' :=
    fun {σ' H' v u} J rv q => ⟨v, H', J.os, J.bare, J.base, J.hok, rv, q⟩
  cases fl with
  | ret u =>
    obtain ⟨v, σ', H', J, rv, q⟩ := hs
    exact fin J rv q
  | next =>
    obtain ⟨σ', H', J, q⟩ := hs
    exact fin (v := V.non) (u := Value.none) J rfl q
  | brk =>
    obtain ⟨_, _, _, q⟩ := hs
    exact False.elim q
  | cont =>
    obtain ⟨_, _, _, q⟩ := hs
    exact False.elim q
end L2
namespace L2
open PySem PySem.Spec PyProof.Rows
section
variable {X : Cx} {x : Str} {p pos : Pos} {e : Expr} {es : List Expr} {t : TA} {id T : String} {r : List V → Hp → VK → Prop}
noncomputable def tCB (r : List V → Hp → VK → Prop) (t : TA) : TE := fun σ H Q => t σ H fun vs H1 => r vs H1 Q
/-- f(e, ..), f a built-in function -/
theorem pe_callB (hc : CallR X (.builtin id) r) (hg : Gl X x) (hm : X.mg x = none) (hv : bootBuiltins x = some (.builtin id)) (ha : PA X (e :: es) t) (hn : x ≠ "__name__" := by decide) (hdb : (x == ("__debug__" : Str)) = false := by decide)
    (he : starEach (e :: es) X.env = (false, eval e X.env) :: starEach es X.env := by rfl) (hpl : (backTo pos (starEach es X.env)).any (·.1) = false := by rfl) : PE X (.Call (.Name x p) (e :: es) [] pos) (tCB r t) := by
  intro pins s σ H Q I h
  refine wpAny_Call_Name_kw (ld_blt I hg hm hv ?_ hn hdb)
  exact PyProof.Rows.callWith_builtin1 (thn (ha pos pins s σ H _ I h) fun us s1 ⟨vs, H1, I1, r1, q1⟩ => hc pins s1 σ H1 vs us Q I1 r1 q1) he hpl
/-- T(e, ..), T a built-in type -/
theorem pe_callTy (hc : CallR X (.type T) r) (hg : Gl X x) (hm : X.mg x = none) (hv : bootBuiltins x = some (.type T)) (ha : PA X (e :: es) t) (hn : x ≠ "__name__" := by decide) (hdb : (x == ("__debug__" : Str)) = false := by decide)
    (he : starEach (e :: es) X.env = (false, eval e X.env) :: starEach es X.env := by rfl) (hpl : (backTo pos (starEach es X.env)).any (·.1) = false := by rfl) : PE X (.Call (.Name x p) (e :: es) [] pos) (tCB r t) := by
  intro pins s σ H Q I h
  refine wpAny_Call_Name_kw (ld_blt I hg hm hv ?_ hn hdb)
  exact PyProof.Rows.callWith_type1 (thn (ha pos pins s σ H _ I h) fun us s1 ⟨vs, H1, I1, r1, q1⟩ => hc pins s1 σ H1 vs us Q I1 r1 q1) he hpl
end
end L2
namespace HT
open PySem PyProof.Rows
section
open PySem.SeqAt
open PySem.AutoSeq1 (wpAny_loadPart')
open PySem.MeetsSeq PySem.MeetsSeq2 PySem.MeetsSeq3
end
section
variable {prog : Program} {w : World} {A : Around} {E : Value → Shared → Prop} {s : Shared}
/-- a slice's bound as a place among n (d where it is left out) -/
noncomputable def sIx (n d : Nat) : Option Int → Nat
  | none => d
  | some v => if v < 0 then (v + (n : Int)).toNat else min v.toNat n
theorem sIx_none (n d : Nat) : sIx n d none = d := rfl
theorem sIx_nat (n d k : Nat) : sIx n d (some (k : Int)) = min k n := by
  show (if (k : Int) < 0 then ((k : Int) + (n : Int)).toNat else min (k : Int).toNat n) = min k n
  rw [if_neg (by omega), Int.toNat_natCast]
end
end HT
namespace L2
open PySem PySem.Spec PyProof.Rows
noncomputable abbrev TO := St → Hp → (Option Int → Hp → Prop) → Prop
/-- a slice's part (left out, or an int) -/
noncomputable def PO (X : Cx) (e : Option Expr) (t : TO) : Prop :=
  ∀ (pins : List (Addr × Obj)) (s : Shared) (σ : St) (H : Hp) (Q : Option Int → Hp → Prop), Inv X pins σ H s → t σ H Q →
    wpAny (model X.prog X.w) X.A (evalPart e X.env) (fun u s' => ∃ o H', Inv X pins σ H' s' ∧ IsPart u o ∧ Q o H') X.xe s
noncomputable def tNoPart : TO := fun _ H Q => Q none H
noncomputable def tPart (t : TE) : TO := fun σ H Q => t σ H fun x H1 => ∃ i, x = .int i ∧ Q (some i) H1
section
variable {X : Cx} {e : Expr} {te : TE} {lo hi : Option Expr} {tl th : TO} {pos p2 : Pos}
theorem po_none : PO X none tNoPart := by
  intro pins s σ H Q I h
  rw [evalPart_none]
  exact wpAny_pure ⟨none, H, I, .none, h⟩
theorem po_some (h : PE X e te) : PO X (some e) (tPart te) := by
  intro pins s σ H Q I hw
  rw [evalPart_some]
  refine thn (h pins s σ H _ I hw) fun u s1 ⟨x, H1, I1, r1, q1⟩ => ?_
  obtain ⟨i, rfl, q⟩ := q1
  obtain ⟨t, rfl⟩ := r1
  exact ⟨some i, H1, I1, .int i t, q⟩
/-- what a slice of a value is, by values: the slice object stands at sl -/
noncomputable def SlR (X : Cx) (r : V → Option Int → Option Int → Hp → VK → Prop) : Prop :=
  ∀ (pins : List (Addr × Obj)) (s : Shared) (σ : St) (H : Hp) (x : V) (v vl vu : Value) (lo hi : Option Int) (sl : Addr) (Q : VK), Inv X pins σ H s → RelV x v → s.heap.IsSliceOf sl vl vu .none → IsPart vl lo → IsPart vu hi → r x lo hi H Q →
    ∃ T id, typeLookup (.type T) "__getitem__" = pure (some (.builtin id)) ∧ s.TypeIs v T ∧ wpAny (model X.prog X.w) X.A (getItem v (.ref sl)) (EP X pins σ Q) X.xe s
noncomputable def tSl (r : V → Option Int → Option Int → Hp → VK → Prop) (te : TE) (tl th : TO) : TE := fun σ H Q => te σ H fun x H1 => tl σ H1 fun l H2 => th σ H2 fun u H3 => r x l u H3 Q
/-- a[lo:hi], any a -/
theorem pe_slice {r : V → Option Int → Option Int → Hp → VK → Prop} (hr : SlR X r) (he : PE X e te) (hl : PO X lo tl) (hu : PO X hi th) : PE X (.Subscript e (.Slice lo hi none p2) pos) (tSl r te tl th) := by
  intro pins s σ H Q I h
  refine Subscript_ (thn (he pins s σ H _ I h) fun v s1 ⟨x, H1, I1, r1, q1⟩ => ?_)
  refine wpAny_Slice (thn (hl pins s1 σ H1 _ I1 q1) fun vl s2 ⟨l, H2, I2, pl, q2⟩ => thn (hu pins s2 σ H2 _ I2 q2) fun vu s3 ⟨u, H3, I3, pu, q3⟩ => ?_)
  rw [evalPart_none]
  refine wpAny_pure ?_
  have I4 : Inv X pins σ H3 { s3 with heap := s3.heap.push { cls := .type "slice", data := .fields #[vl, vu, .none] } } := I3.kept (t' := s3.toks) fun b ob q => Heap.get?_push_of_some _ q
  obtain ⟨T, id, hT, ht, hg⟩ := hr pins { s3 with heap := s3.heap.push { cls := .type "slice", data := .fields #[vl, vu, .none] } } σ H3 x v vl vu l u s3.heap.objs.size Q I4 r1 (Heap.IsSliceOf.new ..) pl pu q3
  show wpAny (model X.prog X.w) X.A (subscriptTail e (.Slice lo hi none p2) v (.ref s3.heap.objs.size)) (EP X pins σ Q) X.xe { s3 with heap := s3.heap.push { cls := .type "slice", data := .fields #[vl, vu, .none] } }
  exact tail_any (ops := [.ref s3.heap.objs.size, v]) ht hT hg (by with_unfolding_all rfl)
/-- the items of xs[lo:hi] -/
noncomputable def cutV (xs : List V) (lo hi : Option Int) : List V := (xs.drop (HT.sIx xs.length 0 lo)).take (HT.sIx xs.length xs.length hi - HT.sIx xs.length 0 lo)
theorem cutV_length (xs : List V) (lo hi : Option Int) : (cutV xs lo hi).length ≤ xs.length := by
  unfold cutV
  rw [List.length_take, List.length_drop]
  omega
end
end L2
namespace L2
open PySem PySem.Spec PyProof.Rows
/-- the place that an index of any sign means -/
noncomputable def ixN (n : Nat) (i : Int) : Option Nat := if 0 ≤ i then (if i < n then some i.toNat else none) else if -(n : Int) ≤ i then some (i + n).toNat else none
noncomputable def atI {α : Type} (xs : List α) (i : Int) : Option α := (ixN xs.length i).bind fun j => xs[j]?
theorem ixN_seq {n : Nat} {i : Int} {j : Nat} (h : ixN n i = some j) : seqIndex? i n = some j ∧ j < n ∧ -(n : Int) ≤ i ∧ i < n := by
  unfold ixN at h
  by_cases h0 : 0 ≤ i
  · rw [if_pos h0] at h
    by_cases h1 : i < n
    · rw [if_pos h1] at h
      have e : i.toNat = j := Option.some.inj h
      exact ⟨by rw [seqIndex_of h0 h1, e], by omega, by omega, h1⟩
    · rw [if_neg h1] at h; cases h
  · rw [if_neg h0] at h
    by_cases h1 : -(n : Int) ≤ i
    · rw [if_pos h1] at h
      have e : (i + n).toNat = j := Option.some.inj h
      exact ⟨by rw [seqIndex_neg (by omega) h1, e], by omega, h1, by omega⟩
    · rw [if_neg h1] at h; cases h
theorem atI_get {α : Type} {xs : List α} {i : Int} {v : α} (h : atI xs i = some v) : ∃ j, seqIndex? i xs.length = some j ∧ xs[j]? = some v ∧ j < xs.length ∧ -(xs.length : Int) ≤ i ∧ i < xs.length := by
  unfold atI at h
  cases e : ixN xs.length i with
  | none => rw [e] at h; cases h
  | some j =>
    rw [e] at h
    obtain ⟨h1, h2, h3, h4⟩ := ixN_seq e
    exact ⟨j, h1, h, h2, h3, h4⟩
theorem atI_nat {α : Type} {xs : List α} {j : Nat} {v : α} (h : xs[j]? = some v) : atI xs (j : Int) = some v := by
  have hj : j < xs.length := (List.getElem?_eq_some_iff.mp h).1
  have e : ixN xs.length (j : Int) = some j := by
    unfold ixN
    rw [if_pos (by omega), if_pos (by omega)]; simp
  unfold atI; rw [e]; exact h
/-- what stands as an index of a plain subscript -/
noncomputable def PlainIx (b : Expr) : Prop := ∀ o i, subscripted b false o i = operate [o, i] (getItem o i)
/-- a subscript by values -/
noncomputable def IxR (X : Cx) (r : R2) : Prop :=
  ∀ (value slice : Expr) (pins : List (Addr × Obj)) (s : Shared) (σ : St) (H : Hp) (x y : V) (v u : Value) (Q : VK), Inv X pins σ H s → RelV x v → RelV y u → r x y H Q →
    subscripted slice false v u = operate [v, u] (getItem v u) → wpAny (model X.prog X.w) X.A (subscriptTail value slice v u) (EP X pins σ Q) X.xe s
/-- a call of a builtin's method by values: the receiver, the arguments -/
noncomputable def MtR (X : Cx) (id : String) (r : V → List V → Hp → VK → Prop) : Prop :=
  ∀ (pins : List (Addr × Obj)) (s : Shared) (σ : St) (H : Hp) (x : V) (xs : List V) (v : Value) (us : List Value) (Q : VK), Inv X pins σ H s → RelV x v → Vals xs us → r x xs H Q →
    wpAny (model X.prog X.w) X.A (call (.builtin id) (v :: us)) (EP X pins σ Q) X.xe s
section
variable {X : Cx} {a b : Expr} {ta tb : TE} {pos : Pos}
/-- a[b] -/
theorem pe_ix {r : R2} (hr : IxR X r) (ha : PE X a ta) (hb : PE X b tb) (hs : PlainIx b) : PE X (.Subscript a b pos) (tOp r ta tb) := by
  intro pins s σ H Q I h
  exact Subscript_ (binT ha hb I h fun v u s2 x y H2 I2 rx ry q => hr a b pins s2 σ H2 x y v u Q I2 rx ry q (hs _ _))
noncomputable def rIxL (K : PySem.W.Frag) : R2 := fun x y H Q => ∃ p xs i v, x = .ref p ∧ y = .int i ∧ SqL K H p xs ∧ atI xs i = some v ∧ Q v H
noncomputable def rIxT (K : PySem.W.Frag) : R2 := fun x y H Q => ∃ p xs i v, x = .ref p ∧ y = .int i ∧ SqT K H p xs ∧ atI xs i = some v ∧ Q v H
theorem ix_list : IxR X (rIxL X.K) := by
  intro value slice pins s σ H x y v u Q I rx ry h hs
  obtain ⟨p, xs, i, z, rfl, rfl, hq, he, q⟩ := h
  cases rx
  obtain ⟨t, rfl⟩ := ry
  obtain ⟨its, r, pl, hz⟩ := I.list hq
  obtain ⟨j, h1, h2, h3, h4, h5⟩ := atI_get he
  obtain ⟨w, ew, rw'⟩ := r.get h2
  have hl := r.length
  have hn := line63
  have fin : EP X pins σ Q w s := ⟨z, H, I, rw', q⟩
  by_cases h0 : 0 ≤ i
  · have hj : i.toNat = j := by
      rw [seqIndex_of h0 h5] at h1
      exact Option.some.inj h1
    exact item_listR pl.isList h0 (by omega) (by rw [hj]; simpa using ew) fin hs
  · have hj : (i + (its.toArray.size : Int)).toNat = j := by
      rw [seqIndex_neg (by omega) h4] at h1
      rw [List.size_toArray, ← hl]
      exact Option.some.inj h1
    exact subscriptTail_builtinR (x := w) pl.isList.typeIs slot_list_getitem.lookup
      (wpAny_getItem_list_neg (Q := fun r s' => r = w ∧ EP X pins σ Q r s') pl.isList (by omega) (by rw [List.size_toArray] <;> omega) (by omega) (by rw [hj]; simpa using ew) ⟨rfl, fin⟩) hs
theorem ix_tup : IxR X (rIxT X.K) := by
  intro value slice pins s σ H x y v u Q I rx ry h hs
  obtain ⟨p, xs, i, z, rfl, rfl, hq, he, q⟩ := h
  cases rx
  obtain ⟨t, rfl⟩ := ry
  obtain ⟨its, r, pl, hz⟩ := I.tuple hq
  obtain ⟨j, h1, h2, h3, h4, h5⟩ := atI_get he
  obtain ⟨w, ew, rw'⟩ := r.get h2
  have hl := r.length
  have hn := line63
  have fin : EP X pins σ Q w s := ⟨z, H, I, rw', q⟩
  exact subscriptTail_builtinR (x := w) pl.typeIs slot_tuple_getitem.lookup
    (getItem_tuple (j := j) (Q := fun r s' => r = w ∧ EP X pins σ Q r s') pl (by omega) (by omega) (by rw [List.size_toArray, ← hl]; exact h1) (by simpa using ew) ⟨rfl, fin⟩) hs
/-- the list's object behind a store -/
theorem mapSeq_set (its : List Value) (n j : Nat) (u : Value) : Obj.mapSeq (·.setIfInBounds j u) { cls := .type "list", data := .seq its.toArray n } = { cls := .type "list", data := .seq (its.set j u).toArray n } := by
  simp [Obj.mapSeq]
theorem Inv.lst {pins : List (Addr × Obj)} {σ : St} {H : Hp} {s : Shared} {p : Addr} {xs : List V} (I : Inv X pins σ H s) (h : H p = some (.lst xs)) :
    ∃ (its : List Value) (n : Nat), Vals xs its ∧ s.heap.get? p = some { cls := .type "list", data := .seq its.toArray n } ∧ xs.length ≤ sizeLine := by
  obtain ⟨z, its, n, r, e⟩ := I.hok p _ h
  exact ⟨its, n, r, e, z⟩
/-- the list at p is written by an update of its object -/
theorem Inv.lstUpd {pins : List (Addr × Obj)} {σ : St} {H : Hp} {s : Shared} {p : Addr} {xs ys : List V} {its its' : List Value} {n n' : Nat} {f : Obj → Obj} (I : Inv X pins σ H s) (h : H p = some (.lst xs))
    (ho : s.heap.get? p = some { cls := .type "list", data := .seq its.toArray n }) (hf : f { cls := .type "list", data := .seq its.toArray n } = { cls := .type "list", data := .seq its'.toArray n' }) (r : Vals ys its') (hz : ys.length ≤ sizeLine) (t : Nat) :
    Inv X pins σ (upd H p (.lst ys)) { s with heap := s.heap.update p f, toks := t } := by
  have e : (s.heap.update p f).get? p = some { cls := .type "list", data := .seq its'.toArray n' } := by
    rw [Heap.get?_update_self f ho (by rw [hf] <;> rfl), hf]
  refine I.write (x := p) (e := p) (by rw [h]; trivial) (.inl rfl) (fun b u hb q => (Heap.get?_update_other _ _ (Ne.symm hb)).trans q) ⟨_, e⟩ ?_
  exact ⟨hz, its', n', r, e⟩
noncomputable def rSetL : V → V → V → Hp → (Hp → Prop) → Prop := fun o i v H Q => ∃ p xs k j, o = .ref p ∧ i = .int k ∧ H p = some (.lst xs) ∧ ixN xs.length k = some j ∧ Q (upd H p (.lst (xs.set j v)))
theorem set_list : PSet X rSetL := by
  intro pins s σ H o i v ov iv u Q I ro ri rv h
  obtain ⟨p, xs, k, j, rfl, rfl, hp, hj, q⟩ := h
  cases ro
  obtain ⟨t, rfl⟩ := ri
  obtain ⟨its, n, r, ho, hz⟩ := I.lst hp
  obtain ⟨h1, h2, h3, h4⟩ := ixN_seq hj
  have hl := r.length
  have hn := line63
  have I' : Inv X pins σ (upd H p (.lst (xs.set j v))) { s with heap := s.heap.update p (Obj.mapSeq (·.setIfInBounds j u)) } :=
    I.lstUpd hp ho (mapSeq_set its n j u) (r.set rv j) (by rw [List.length_set]; exact hz) s.toks
  by_cases h0 : 0 ≤ k
  · have hk : k.toNat = j := by
      rw [seqIndex_of h0 h4] at h1
      exact Option.some.inj h1
    exact PySem.W.ki_setAt ho h0 (by omega) (by rw [List.size_toArray, ← hl]; exact h4) (by rw [hk]; exact ⟨_, I', q⟩)
  · have hk : (k + (its.toArray.size : Int)).toNat = j := by
      rw [seqIndex_neg (by omega) h3] at h1
      rw [List.size_toArray, ← hl]
      exact Option.some.inj h1
    exact PySem.W.ki_setBack ho (by omega) (by rw [List.size_toArray, ← hl]; exact h3) (by omega) (by rw [hk]; exact ⟨_, I', q⟩)
theorem slice_bounds (lo hi : Option Int) (n : Nat) : (sliceBounds lo hi none n).1 = ((HT.sIx n 0 lo : Nat) : Int) ∧ (sliceBounds lo hi none n).2.1 = ((HT.sIx n n hi : Nat) : Int) ∧ (sliceBounds lo hi none n).2.2 = 1 := by
  refine ⟨?_, ?_, rfl⟩
  · cases lo with
    | none => simp [sliceBounds, HT.sIx]
    | some i =>
      simp only [sliceBounds, HT.sIx, Option.getD_none, show (1 : Int) > 0 by decide, if_true]
      by_cases h : i < 0
      · simp only [h, if_true] <;> omega
      · simp only [h, if_false] <;> omega
  · cases hi with
    | none => simp [sliceBounds, HT.sIx]
    | some i =>
      simp only [sliceBounds, HT.sIx, Option.getD_none, show (1 : Int) > 0 by decide, if_true]
      by_cases h : i < 0
      · simp only [h, if_true] <;> omega
      · simp only [h, if_false] <;> omega
theorem slicePick_cut (its : List Value) (lo hi : Option Int) : slicePick its.toArray lo hi none = ((its.drop (HT.sIx its.length 0 lo)).take (HT.sIx its.length its.length hi - HT.sIx its.length 0 lo)).toArray := by
  obtain ⟨h1, h2, h3⟩ := slice_bounds lo hi its.toArray.size
  unfold slicePick
  rw [h1, h2, h3]
  simp only [sliceRange_one, pick_run, List.size_toArray] <;> rfl
/-- xs[lo:hi] of a list: a new list -/
noncomputable def rSlL (K : PySem.W.Frag) : V → Option Int → Option Int → Hp → VK → Prop := fun x lo hi H Q => ∃ a xs, x = .ref a ∧ SqL K H a xs ∧ ∀ p, H p = none → Q (.ref p) (upd H p (.lst (cutV xs lo hi)))
theorem sl_list : SlR X (rSlL X.K) := by
  intro pins s σ H x v vl vu lo hi sl Q I rx hs pl pu h
  obtain ⟨a, xs, rfl, hx, q⟩ := h
  cases rx
  obtain ⟨its, r, ht, hz⟩ := I.list hx
  have hlen := r.length
  refine ⟨"list", _, slot_list_getitem.lookup, ht.isList.typeIs, ?_⟩
  refine wpAny_getItem_list_slice ht.isList hs pl pu .none (by simp) ?_ (by rw [List.size_toArray] <;> omega)
  rw [slicePick_cut, ← hlen]
  refine ⟨.ref s.heap.objs.size, _, I.laid (t' := s.toks) (o := .lst (cutV xs lo hi)) (fun b ob q => Heap.get?_push_of_some _ q) (Nat.le_refl _) ?_, rfl, q _ (I.hok.fresh (Nat.le_refl _))⟩
  exact ⟨Nat.le_trans (cutV_length xs lo hi) hz, _, 0, (r.drop (HT.sIx xs.length 0 lo)).take (HT.sIx xs.length xs.length hi - HT.sIx xs.length 0 lo), Heap.get?_push_size _ rfl⟩
noncomputable def flatV : V → Bool
  | .non => true
  | .bl _ => true
  | .int _ => true
  | .str _ => true
  | _ => false
/-- == of flat values -/
noncomputable def eqV : V → V → Bool
  | .non, .non => true
  | .bl a, .bl b => a == b
  | .bl a, .int b => (if a then 1 else 0) == b
  | .int a, .bl b => a == (if b then 1 else 0)
  | .int a, .int b => a == b
  | .str a, .str b => a == b
  | _, _ => false
theorem eqAt_V {A : Around} {s : Shared} {y x : V} {u v : Value} (ry : RelV y u) (rx : RelV x v) (fy : flatV y = true) (fx : flatV x = true) : SeqAt.EqAt A s u v (eqV y x) := by
  cases y with
  | non =>
    cases ry
    cases x with
    | non => cases rx; exact SeqAt.EqAt.same _
    | bl b => cases rx; exact SeqAt.EqAt.none_bool b
    | int b => obtain ⟨t, rfl⟩ := rx; exact SeqAt.EqAt.none_int b t
    | str b => obtain ⟨t, rfl⟩ := rx; exact SeqAt.EqAt.none_str b t
    | _ => exact absurd (show false = true from fx) Bool.false_ne_true
  | bl a =>
    cases ry
    cases x with
    | non => cases rx; exact SeqAt.EqAt.bool_none a
    | bl b => cases rx; exact SeqAt.EqAt.bool_bool a b
    | int b => obtain ⟨t, rfl⟩ := rx; exact SeqAt.EqAt.bool_int a b t
    | str b => obtain ⟨t, rfl⟩ := rx; exact SeqAt.EqAt.bool_str a b t
    | _ => exact absurd (show false = true from fx) Bool.false_ne_true
  | int a =>
    obtain ⟨t', rfl⟩ := ry
    cases x with
    | non => cases rx; exact SeqAt.EqAt.int_none a t'
    | bl b => cases rx; exact SeqAt.EqAt.int_bool a t' b
    | int b => obtain ⟨t, rfl⟩ := rx; exact SeqAt.EqAt.int_int a t' b t
    | str b => obtain ⟨t, rfl⟩ := rx; exact SeqAt.EqAt.int_str a t' b t
    | _ => exact absurd (show false = true from fx) Bool.false_ne_true
  | str a =>
    obtain ⟨t', rfl⟩ := ry
    cases x with
    | non => cases rx; exact SeqAt.EqAt.str_none a t'
    | bl b => cases rx; exact SeqAt.EqAt.str_bool a t' b
    | int b => obtain ⟨t, rfl⟩ := rx; exact SeqAt.EqAt.str_int a t' b t
    | str b => obtain ⟨t, rfl⟩ := rx; exact SeqAt.EqAt.str_str a t' b t
    | _ => exact absurd (show false = true from fx) Bool.false_ne_true
  | _ => exact absurd (show false = true from fy) Bool.false_ne_true
noncomputable def inV (x : V) (xs : List V) : Bool := xs.any fun y => eqV y x
theorem call_len_seq : CallR X (.builtin "len") (fun xs H Q => ∃ p ys, xs = [.ref p] ∧ (SqL X.K H p ys ∨ SqT X.K H p ys) ∧ Q (.int ys.length) H) := by
  intro pins s σ H xs us Q I r h
  obtain ⟨p, ys, rfl, hq, q⟩ := h
  obtain ⟨u, rfl, rx⟩ := vals1 r
  cases rx
  have hn := line63
  rcases hq with hq | hq
  · obtain ⟨its, r', pl, hz⟩ := I.list hq
    have hlen := r'.length
    exact Calls.call_len_list pl.isList (by simp only [List.size_toArray] <;> omega) ⟨.int ys.length, H, I.tok _, ⟨s.toks + 1, by rw [List.size_toArray, hlen]⟩, q⟩
  · obtain ⟨its, r', pl, hz⟩ := I.tuple hq
    have hlen := r'.length
    exact len_tuple pl (by simp only [List.size_toArray] <;> omega) ⟨.int ys.length, H, I.tok _, ⟨s.toks + 1, by rw [List.size_toArray, hlen]⟩, q⟩
theorem call_list_of : CallR X (.type "list") (fun xs H Q => ∃ p ys, xs = [.ref p] ∧ (SqL X.K H p ys ∨ SqT X.K H p ys) ∧ ∀ l, H l = none → Q (.ref l) (upd H l (.lst ys))) := by
  intro pins s σ H xs us Q I r h
  obtain ⟨p, ys, rfl, hq, q⟩ := h
  obtain ⟨u, rfl, rx⟩ := vals1 r
  cases rx
  have fin : ∀ (its : List Value), Vals ys its → ys.length ≤ sizeLine → ∀ (h' : Heap) (c' : Nat), (∀ b o', s.heap.get? b = some o' → h'.get? b = some o') →
      h'.get? s.heap.objs.size = some { cls := .type "list", dict := none, data := .seq its.toArray c', slots := #[] } → EP X pins σ Q (.ref s.heap.objs.size) { s with heap := h' } := fun its r' hz h' c' kp e =>
    ⟨.ref s.heap.objs.size, _, I.laid (t' := s.toks) kp (Nat.le_refl _) (show ObjOk X.prog X.w _ h' _ (.lst ys) from ⟨hz, its, c', r', e⟩), rfl, q _ (I.hok.fresh (Nat.le_refl _))⟩
  rcases hq with hq | hq
  · obtain ⟨its, r', pl, hz⟩ := I.list hq
    have hlen := r'.length
    obtain ⟨o, ho, hc, n, hd⟩ := pl.isList
    exact call_list_seq p (.inl rfl) ho hc hd (fun h' c' kp e => fin its r' hz h' c' kp e) (by simp only [List.size_toArray] <;> omega)
  · obtain ⟨its, r', pl, hz⟩ := I.tuple hq
    have hlen := r'.length
    obtain ⟨o, ho, hc, n, hd⟩ := pl
    exact call_list_seq p (.inr rfl) ho hc hd (fun h' c' kp e => fin its r' hz h' c' kp e) (by simp only [List.size_toArray] <;> omega)
theorem call_tuple_of : CallR X (.type "tuple") (fun xs H Q => ∃ p ys, xs = [.ref p] ∧ ((SqL X.K H p ys ∧ ∀ l, H l = none → Q (.ref l) (upd H l (.tup ys))) ∨ (SqT X.K H p ys ∧ Q (.ref p) H))) := by
  intro pins s σ H xs us Q I r h
  obtain ⟨p, ys, rfl, h⟩ := h
  obtain ⟨u, rfl, rx⟩ := vals1 r
  cases rx
  rcases h with ⟨hq, q⟩ | ⟨hq, q⟩
  · obtain ⟨its, r', pl, hz⟩ := I.list hq
    have hlen := r'.length
    refine call_tuple_list pl.isList (fun h' kp => ?_) (by simp only [List.size_toArray] <;> omega)
    have I1 : Inv X pins σ H { s with heap := h' } := I.kept (t' := s.toks) kp
    have I2 : Inv X pins σ (upd H h'.objs.size (.tup ys)) { s with heap := h'.push { cls := .type "tuple", data := .seq its.toArray } } :=
      I1.laid (t' := s.toks) (fun b o e => Heap.get?_push_of_some _ e) (Nat.le_refl _) (show ObjOk X.prog X.w _ _ _ (.tup ys) from ⟨hz, its, r', IsTup.new _ _⟩)
    exact ⟨.ref h'.objs.size, _, I2, rfl, q _ (I1.hok.fresh (Nat.le_refl _))⟩
  · obtain ⟨its, r', pl, hz⟩ := I.tuple hq
    exact call_tuple_same pl ⟨.ref p, H, I, rfl, q⟩
/-- the value is of that builtin type -/
noncomputable def tyV (K : PySem.W.Frag) (T : String) (x : V) (H : Hp) : Prop := match x with
  | .str _ => T = "str"
  | .int _ => T = "int"
  | .ref p => (T = "list" ∧ ∃ xs, SqL K H p xs) ∨ (T = "tuple" ∧ ∃ o, K.lookup p = some o ∧ o.cls = .type "tuple" ∧ o.dict = none) ∨
      (T = "dict" ∧ ((∃ kvs, H p = some (.dK kvs)) ∨ ∃ kvs, H p = some (.dT kvs))) ∨ (T = "set" ∧ ∃ S n, H p = some (.set S n))
  | _ => False
theorem tyV_is {pins : List (Addr × Obj)} {σ : St} {H : Hp} {s : Shared} {T : String} {x : V} {v : Value} (I : Inv X pins σ H s) (r : RelV x v) (ty : tyV X.K T x H) :
    s.TypeIs v T ∧ ∀ a, v = .ref a → ∃ ob, s.heap.get? a = some ob ∧ ob.dict = none := by
  cases x with
  | str z =>
    obtain ⟨t, rfl⟩ := r
    cases (show T = "str" from ty)
    exact ⟨typeIs_str s z t, fun _ e => nomatch e⟩
  | int i =>
    obtain ⟨t, rfl⟩ := r
    cases (show T = "int" from ty)
    exact ⟨typeIs_int s i t, fun _ e => nomatch e⟩
  | ref p =>
    cases r
    rcases ty with ⟨rfl, xs, hq⟩ | ⟨rfl, o, hk, hc, hd⟩ | ⟨rfl, hk⟩ | ⟨rfl, S, n, hk⟩
    · obtain ⟨its, _, pl, _⟩ := I.list hq
      refine ⟨pl.isList.typeIs, fun a e => ?_⟩
      cases e
      obtain ⟨o, n, e, c, hd, _⟩ := pl
      exact ⟨o, e, hd⟩
    · refine ⟨⟨o, I.kIn p o hk, hc⟩, fun a e => ?_⟩
      cases e
      exact ⟨o, I.kIn _ o hk, hd⟩
    · have z : ∃ o, s.heap.get? p = some o ∧ o.ExactDict := by
        rcases hk with ⟨kvs, hk⟩ | ⟨kvs, hk⟩
        · obtain ⟨_, _, _, _, o, _, _, e, ex, _⟩ := I.hok p _ hk
          exact ⟨o, e, ex⟩
        · obtain ⟨_, _, _, _, o, _, _, e, ex, _⟩ := I.hok p _ hk
          exact ⟨o, e, ex⟩
      obtain ⟨o, e, ex⟩ := z
      refine ⟨⟨o, e, ex.1⟩, fun a e2 => ?_⟩
      cases e2
      exact ⟨o, e, ex.2.1⟩
    · obtain ⟨o, _, _, _, e, ex, _⟩ := I.hok p _ hk
      refine ⟨⟨o, e, ex.1⟩, fun a e2 => ?_⟩
      cases e2
      exact ⟨o, e, ex.2.1⟩
  | _ => exact False.elim ty
noncomputable def tBM0 (K : PySem.W.Frag) (T : String) (r : V → List V → Hp → VK → Prop) (to : TE) : TE := fun σ H Q => to σ H fun x H1 => tyV K T x H1 ∧ r x [] H1 Q
noncomputable def tBM (K : PySem.W.Frag) (T : String) (r : V → List V → Hp → VK → Prop) (to : TE) (t : TA) : TE := fun σ H Q => to σ H fun x H1 => tyV K T x H1 ∧ t σ H1 fun xs H2 => r x xs H2 Q
variable {o e : Expr} {es : List Expr} {to : TE} {t : TA} {name : Str} {apos cpos : Pos} {T id : String} {r : V → List V → Hp → VK → Prop}
theorem pe_bm0 (pa : PlainAttrs T) (slot : Slot T name id) (hty : typeOf (.builtin id) = pure (.type "method_descriptor")) (hm : MtR X id r) (ho : PE X o to)
    (hbase : attributeBase o name X.env (eval o X.env) = eval o X.env := by rfl) (hline : (apos.endLine == cpos.line) = true := by rfl) : PE X (.Call (.Attribute o name apos) [] [] cpos) (tBM0 X.K T r to) := by
  intro pins s σ H Q I h
  refine wpAny_Call_method0_late hbase hline (thn (ho pins s σ H _ I h) fun v s1 ⟨x, H1, I1, r1, ty, q1⟩ => ?_)
  obtain ⟨h1, h2⟩ := tyV_is I1 r1 ty
  exact ⟨T, id, pa, slot, hty, h1, h2, Calls.callWith_builtin rfl (PySem.evalArgs_none (hm pins s1 σ H1 x [] v [] Q I1 r1 .nil q1))⟩
theorem pe_bm (pa : PlainAttrs T) (slot : Slot T name id) (hty : typeOf (.builtin id) = pure (.type "method_descriptor")) (hm : MtR X id r) (ho : PE X o to) (ha : PA X (e :: es) t)
    (hbase : attributeBase o name X.env (eval o X.env) = eval o X.env := by rfl)
    (hfew : ((backTo cpos (starEach (e :: es) X.env)).all (fun x => !x.1) && (backToKw cpos (keywordEach [] X.env)).all (fun x => x.1.isSome)
      && decide ((e :: es).length + ([] : List Keyword).length + (if ([] : List Keyword).isEmpty then 0 else 1) < 30)) = true := by rfl)
    (hline : (apos.endLine == cpos.line) = true := by rfl) (hs : starEach (e :: es) X.env = (false, eval e X.env) :: starEach es X.env := by rfl) (hplain : (backTo cpos (starEach es X.env)).any (·.1) = false := by rfl) :
    PE X (.Call (.Attribute o name apos) (e :: es) [] cpos) (tBM X.K T r to t) := by
  intro pins s σ H Q I h
  refine wpAny_Call_method_late hbase hfew hline rfl (thn (ho pins s σ H _ I h) fun v s1 ⟨x, H1, I1, r1, ty, q1⟩ => ?_)
  obtain ⟨h1, h2⟩ := tyV_is I1 r1 ty
  refine ⟨T, id, pa, slot, hty, h1, h2, ?_⟩
  have hA := ha cpos pins s1 σ H1 _ I1 q1
  rw [hs] at hA ⊢
  refine Calls.callWith_builtin (by show (false || (backTo cpos (starEach es X.env)).any (·.1)) = false; rw [hplain] <;> rfl) (Calls.evalArgs_plain ?_)
  exact thn hA fun us s2 ⟨vs, H2, I2, r2, q2⟩ => hm pins s2 σ H2 x vs v us Q I2 r1 r2 q2
/- xs.append(e), list.index on a module's tuple .. are MtR facts of 06m -/
end
end L2
namespace L2
open PySem PySem.Spec PyProof.Rows
noncomputable def MtM (X : Cx) (id : String) (r : V → List V → Hp → VK → Prop) : Prop :=
  ∀ (pins : List (Addr × Obj)) (s : Shared) (σ : St) (H : Hp) (x : V) (xs : List V) (v : Value) (us : List Value) (Q : VK), Inv X pins σ H s → RelV x v → Vals xs us → r x xs H Q →
    wpAny (model X.prog X.w) X.A (call (.builtin id) (v :: us)) (EP X pins σ Q) X.xe s
theorem Vals.one : ∀ {x : V} {us : List Value}, Vals [x] us → ∃ u, us = [u] ∧ RelV x u
  := by intro _ _ h; cases h with | cons r n => cases n; exact ⟨_, rfl, r⟩
theorem Vals.two : ∀ {x y : V} {us : List Value}, Vals [x, y] us → ∃ u v, us = [u, v] ∧ RelV x u ∧ RelV y v
  := by intro _ _ _ h; cases h with | cons r q => cases q with | cons q n => cases n; exact ⟨_, _, rfl, r, q⟩
theorem Vals.zero : ∀ {us : List Value}, Vals [] us → us = []
  | _, .nil => rfl
theorem Vals.eraseIdx : ∀ {xs : List V} {us : List Value} (i : Nat), Vals xs us → Vals (xs.eraseIdx i) (us.eraseIdx i)
  | _, _, _, .nil => .nil
  | _, _, 0, .cons _ t => t
  | _, _, i + 1, .cons r t => .cons r (Vals.eraseIdx i t)
theorem Vals.rep {xs : List V} {us : List Value} (h : Vals xs us) : ∀ k : Nat, Vals (List.replicate k xs).flatten (List.replicate k us).flatten
  | 0 => .nil
  | k + 1 => by
    rw [List.replicate_succ, List.replicate_succ, List.flatten_cons, List.flatten_cons]
    exact Vals.append h (Vals.rep h k)
theorem len_erase {α : Type} : ∀ (l : List α) (i : Nat), (l.eraseIdx i).length ≤ l.length
  | [], _ => Nat.le_refl _
  | _ :: _, 0 => Nat.le_succ _
  | _ :: r, i + 1 => Nat.succ_le_succ (len_erase r i)
theorem foldl_rep (its : List Value) : ∀ (k : Nat) (acc : List Value),
    List.foldl (fun x1 x2 => x1 ++ x2) acc.toArray (List.replicate k its.toArray) = (acc ++ (List.replicate k its).flatten).toArray
  | 0, acc => by simp
  | k + 1, acc => by
    have e : acc.toArray ++ its.toArray = (acc ++ its).toArray := by simp
    have e2 : (acc ++ its) ++ (List.replicate k its).flatten = acc ++ (List.replicate (k + 1) its).flatten := by
      rw [List.replicate_succ, List.flatten_cons, List.append_assoc]
    rw [← e2, ← foldl_rep its k (acc ++ its), ← e, List.replicate_succ, List.foldl_cons]
section
variable {X : Cx} {pins : List (Addr × Obj)} {σ : St} {H : Hp} {s : Shared} {l b : Addr} {xs ys zs : List V}
theorem Inv.lset {its its' : List Value} {n : Nat} {f : Array Value → Array Value} {t' : Nat} (I : Inv X pins σ H s) (hH : H l = some (.lst xs))
    (e : s.heap.get? l = some { cls := .type "list", data := .seq its.toArray n }) (hf : f its.toArray = its'.toArray) (hv : Vals ys its') (hz : ys.length ≤ sizeLine) :
    Inv X pins σ (upd H l (.lst ys)) { s with heap := s.heap.update l (Obj.mapSeq f), toks := t' } := by
  have q := PySem.IsL.update e f
  rw [hf] at q
  refine I.write (x := l) (e := l) (by rw [hH]; exact trivial) (.inl rfl) (fun b' u hb hu => (Heap.get?_update_other s.heap (Obj.mapSeq f) (Ne.symm hb)).trans hu) ⟨_, q⟩ ?_
  exact ⟨hz, its', _, hv, q⟩
theorem Inv.lnew {its : List Value} {t' : Nat} (I : Inv X pins σ H s) (hv : Vals ys its) (hz : ys.length ≤ sizeLine) :
    Inv X pins σ (upd H s.heap.objs.size (.lst ys)) { s with heap := s.heap.push { cls := .type "list", data := .seq its.toArray }, toks := t' } :=
  I.laid (fun _ _ q => Heap.get?_push_of_some _ q) (Nat.le_refl _) ⟨hz, its, 0, hv, Heap.get?_push_size _ rfl⟩
theorem Inv.fresh (I : Inv X pins σ H s) : H s.heap.objs.size = none := I.hok.fresh (Nat.le_refl _)
theorem Inv.lstM (I : Inv X pins σ H s) (hH : H l = some (.lst xs)) : xs.length ≤ sizeLine ∧ ∃ (its : List Value) (n : Nat), Vals xs its ∧ xs.length = its.length ∧ s.heap.get? l = some { cls := .type "list", data := .seq its.toArray n } := by
  obtain ⟨z, its, n, r, e⟩ := I.hok l _ hH
  exact ⟨z, its, n, r, r.length, e⟩
theorem notLongL {n : Nat} (h : n ≤ sizeLine) : Builtin.List.listTooLong n = false := by
  unfold Builtin.List.listTooLong
  exact decide_eq_false (by omega)
end
section
variable {X : Cx}
noncomputable def rAppend : V → List V → Hp → VK → Prop := fun x vs H Q => ∃ l xs y, x = .ref l ∧ vs = [y] ∧ H l = some (.lst xs) ∧ xs.length < sizeLine ∧ Q .non (upd H l (.lst (xs ++ [y])))
theorem mt_append : MtM X "list.append" rAppend := by
  intro pins s σ H x vs v us Q I rx rv h
  obtain ⟨l, xs, y, rfl, rfl, hH, hz, q⟩ := h
  cases rx
  obtain ⟨u, rfl, ru⟩ := rv.one
  obtain ⟨z, its, n, r, hl, e⟩ := I.lstM hH
  refine call_meets F.slot_list_append ⟨_, e, rfl⟩ F.entry_list_append (F.args_list_append_2 _ _) (PySem.list_append l its.toArray n u (by rw [List.size_toArray]; omega)) ⟨e, ?_⟩
  refine ⟨.non, _, I.lset (its' := its ++ [u]) hH e (by simp) (r.append (.cons ru .nil)) ?_, rfl, q⟩
  rw [List.length_append, List.length_singleton]
  omega
noncomputable def rPopAt : V → List V → Hp → VK → Prop := fun x vs H Q => ∃ l xs i k y, x = .ref l ∧ vs = [.int i] ∧ H l = some (.lst xs) ∧ -(2 ^ 63) ≤ i ∧ i < 2 ^ 63 ∧ seqIndex? i xs.length = some k ∧ xs[k]? = some y ∧ Q y (upd H l (.lst (xs.eraseIdx k)))
theorem mt_popAt : MtM X "list.pop" rPopAt := by
  intro pins s σ H x vs v us Q I rx rv h
  obtain ⟨l, xs, i, k, y, rfl, rfl, hH, h1, h2, hk, hy, q⟩ := h
  cases rx
  obtain ⟨u, rfl, ru⟩ := rv.one
  obtain ⟨t, rfl⟩ := ru
  obtain ⟨z, its, n, r, hl, e⟩ := I.lstM hH
  obtain ⟨w, hw, rw'⟩ := r.get hy
  refine call_meets F.slot_list_pop ⟨_, e, rfl⟩ F.entry_list_pop (F.args_list_pop_2 _ _)
    (MeetsSeq.list_pop_at l its.toArray n i t k w (fitsIndex_both h1 h2) (by rw [List.size_toArray, ← hl]; exact hk) (by rw [← Array.getElem?_toList]; exact hw) (by rw [List.size_toArray]; omega)) ⟨e, ?_⟩
  refine ⟨y, _, I.lset (its' := its.eraseIdx k) hH e ?_ (r.eraseIdx k) ?_, rw', q⟩
  · show its.toArray.eraseIdxIfInBounds k = (its.eraseIdx k).toArray
    rw [List.eraseIdxIfInBounds_toArray]
  · have := len_erase xs k
    omega
noncomputable def rClear : V → List V → Hp → VK → Prop := fun x vs H Q => ∃ l xs, x = .ref l ∧ vs = [] ∧ H l = some (.lst xs) ∧ Q .non (upd H l (.lst []))
theorem mt_clear : MtM X "list.clear" rClear := by
  intro pins s σ H x vs v us Q I rx rv h
  obtain ⟨l, xs, rfl, rfl, hH, q⟩ := h
  cases rx
  have hus := rv.zero
  subst hus
  obtain ⟨z, its, n, r, hl, e⟩ := I.lstM hH
  refine call_meets F.slot_list_clear ⟨_, e, rfl⟩ F.entry_list_clear (F.args_list_clear_1 _) (AutoSeq1.list_clear_list_0 l its.toArray n (by rw [List.size_toArray]; omega)) ⟨e, ?_⟩
  exact ⟨.non, _, I.lset (its' := []) (ys := []) hH e rfl .nil (Nat.zero_le _), rfl, q⟩
noncomputable def rCat : R2 := fun x y H Q => ∃ l b xs zs, x = .ref l ∧ y = .ref b ∧ H l = some (.lst xs) ∧ H b = some (.lst zs) ∧ xs.length + zs.length ≤ sizeLine ∧ ∀ p, H p = none → Q (.ref p) (upd H p (.lst (xs ++ zs)))
theorem op_cat : OpR X (binaryOp .Add) rCat := by
  intro pins s σ H x y v u Q I rx ry h
  obtain ⟨l, b, xs, zs, rfl, rfl, hH, hB, hz, q⟩ := h
  cases rx
  cases ry
  obtain ⟨z, its, n, r, hl, e⟩ := I.lstM hH
  obtain ⟨z2, its2, n2, r2, hl2, e2⟩ := I.lstM hB
  refine PySem.P.add_list e e2 ?_ (by rw [List.size_toArray, List.size_toArray]; omega)
  have ea : its.toArray ++ its2.toArray = (its ++ its2).toArray := by simp
  rw [ea]
  exact ⟨.ref _, _, I.lnew (t' := s.toks) (r.append r2) (by rw [List.length_append]; omega), rfl, q _ I.fresh⟩
/-- a list times an int (a negative one is nothing) -/
noncomputable def rRep : R2 := fun x y H Q => ∃ l k xs, x = .ref l ∧ y = .int k ∧ H l = some (.lst xs) ∧ -(2 ^ 63) ≤ k ∧ k < 2 ^ 63 ∧ xs.length * k.toNat ≤ sizeLine ∧
  ∀ p, H p = none → Q (.ref p) (upd H p (.lst (List.replicate k.toNat xs).flatten))
theorem len_rep {α : Type} (xs : List α) (k : Nat) : (List.replicate k xs).flatten.length = k * xs.length := by
  induction k with
  | zero => simp
  | succ k ih => rw [List.replicate_succ, List.flatten_cons, List.length_append, ih, Nat.succ_mul, Nat.add_comm]
theorem op_rep : OpR X (binaryOp .Mult) rRep := by
  intro pins s σ H x y v u Q I rx ry h
  obtain ⟨l, k, xs, rfl, rfl, hH, h1, h2, hz, q⟩ := h
  cases rx
  obtain ⟨t, rfl⟩ := ry
  obtain ⟨z, its, n, r, hl, e⟩ := I.lstM hH
  have hlen : its.toArray.size * k.toNat ≤ sizeLine := by rw [List.size_toArray, ← hl]; exact hz
  have hcap : ¬ its.toArray.size * k.toNat > (2 ^ 63 - 1) / 8 := by
    have : (sizeLine : Nat) ≤ (2 ^ 63 - 1) / 8 := by decide
    omega
  have hfit : ¬ (!Builtin.List.listFitsIndex k) = true := by
    rw [fitsIndex_both h1 h2]
    exact Bool.false_ne_true
  have hlong : ¬ Builtin.List.listTooLong (its.toArray.size * k.toNat) = true := by
    rw [notLongL hlen]
    exact Bool.false_ne_true
  have hnew : List.foldl (fun x1 x2 => x1 ++ x2) #[] (List.replicate (if its.toArray.isEmpty = true then 0 else k.toNat) its.toArray) = (List.replicate k.toNat its).flatten.toArray := by
    have f0 : ∀ m : Nat, List.foldl (fun x1 x2 => x1 ++ x2) #[] (List.replicate m its.toArray) = (List.replicate m its).flatten.toArray := fun m => by
      have := foldl_rep its m []
      rw [List.nil_append] at this
      exact this
    rw [f0]
    cases its with
    | nil => simp
    | cons a r' => rw [if_neg (by simp)]
  refine wpAny_binaryOp_repeat_ref (T := "list") (U := "int") (by decide) ⟨_, e, rfl⟩ (fun s' => typeIs_int s' k t) noFill_list_mul F.fills_int_mul F.slot_int_rmul repeat_list F.slot_int_index.lookup
    (call_meets F.slot_int_rmul (typeIs_int s k t) F.entry_int_rmul (F.args_int_rmul_2 _ _) (int___rmul___int_list k t l its.toArray n)
      ⟨e, rfl, ⟨_, e, rfl⟩, call_meets F.slot_list_mul ⟨_, e, rfl⟩ F.entry_list_mul (F.args_list_mul_2 _ _) (AutoListH.list___mul___list_int_3 l its.toArray n k t hfit hcap hlong) ⟨e, ?_⟩⟩)
  rw [hnew]
  exact ⟨.ref _, _, I.lnew (t' := s.toks) (r.rep k.toNat) (by rw [len_rep, Nat.mul_comm]; exact hz), rfl, q _ I.fresh⟩
end
section
variable {prog : Program} {w : World} {A : Around} {E : Value → Shared → Prop} {s : Shared}
set_option maxRecDepth 100000 in
end
section
variable {X : Cx}
end
end L2
namespace Att
open PySem PySem.W PySem.Calls PyProof.Rows
theorem ints_of_wellAll {P : Params} {h : Heap} : ∀ (ns : List Int) (vs : List Value), WellAll P h vs (ns.map WData.int) → IntsAre vs ns := by
  intro ns
  induction ns with
  | nil =>
    intro vs w
    rw [List.map_nil] at w
    cases w
    exact .nil
  | cons n ns ih =>
    intro vs w
    rw [List.map_cons] at w
    cases w with
    | cons a b =>
      cases a
      exact .cons _ _ (ih _ b)
theorem script_of {l : OpenLaw} {n : Nat} (hn : l.most = some n) {P : Params} {h : Heap} {args : List WData} {vals : List Value}
    (hpre : l.row.toRowW.claim.pre args = true) (hwl : WellAll P h vals args) :
    ∃ a vs ns, vals = [Value.ref a] ∧ args = [WData.list (ns.map WData.int)] ∧ h.get? a = some { cls := .type "list", data := .seq vs.toArray } ∧ IntsAre vs ns ∧ ns.length ≤ n := by
  have hsh : WShape.hasAll [] args [.list .int] = true := (pre_splitW hpre).1
  have hc : l.pre.holds [] { args := args } = true := (pre_splitW hpre).2
  obtain ⟨d, r, rfl, h1, h2⟩ := hasAllW_cons hsh
  obtain rfl := hasAllW_nil h2
  obtain ⟨xs, rfl, h3⟩ := hasW_list h1
  obtain ⟨ns, rfl⟩ := items_int h3
  have hlen : ns.length ≤ n := by
    unfold OpenLaw.pre at hc
    have h4 : (WTm.not (.lt (.lit (.int (n : Int))) (.len (.arg 0)))).holds [] { args := [.list (ns.map .int)] } = true := by
      have h4 := (holds_andW hc).1
      rw [hn] at h4
      exact h4
    have h5 := condW_of h4 (w_not (w_lt w_lit (w_len_list (w_arg rfl))))
    rw [List.length_map] at h5
    refine Nat.le_of_not_lt fun q => ?_
    have q' : (n : Int) < ((ns.length : Nat) : Int) := by omega
    first
      | (rw [decide_eq_true q'] at h5; exact absurd h5 (by decide))
      | (simp at h5; omega)
  cases hwl with
  | cons w1 w2 =>
    cases w2
    cases w1 with
    | list ho hall => exact ⟨_, _, ns, rfl, rfl, ho, ints_of_wellAll ns _ hall, hlen⟩
theorem post_true (l : OpenLaw) (args : List WData) : l.row.toRowW.claim.post args (.bool true) args = true :=
  postW_of (r := l.row.toRowW) (X := (true == true))
    (show WShape.has [] (.bool true) .bool = true by first | rfl | decide | simp [WShape.has, WShape.arms, WShape.armsAll])
    (show (WTm.eq .res (.lit (.bool true))).value [] { args := args, res := some (.bool true), after := args } = some (.bool (true == true)) from w_eq_bool (w_res rfl) w_lit) rfl
/-- the same from a codeAny of the CALL (for a layer whose function contracts speak of calls) -/
theorem attach_call {l : OpenLaw} {n : Nat} {q : Program} {loose : List Str} {XP : (Str → Option Value) → Heap → Prop} {YP : World → Heap → Prop} {d : DefRec}
    (hn : l.most = some n) (hdf : d.params.defaults = [])
    (call : ∀ (w : World) (s₀ s₁ : Shared) (mg mb : Str → Option Value) (fa : Addr) (o : Obj) (pm cd doc : Value) (a : Addr) (vs : List Value) (ns : List Int),
      Ground q loose [] XP w s₀ mg mb s₁.heap → YP w s₁.heap →
      s₁.heap.get? fa = some o → o.data = .func (docDef d.name d.params d.body d.scope pm cd doc) → s₁.heap.CodeRec cd d.name → mg d.name = some (.ref fa) →
      s₁.heap.get? a = some { cls := .type "list", data := .seq vs.toArray } → IntsAre vs ns → ns.length ≤ n → s₁.gens = #[] →
      codeAny (model l.prog w) callerA (.call (.ref fa) ⟨[.ref a], []⟩) (fun r s' => r = .ok (.ret (.bool true)) ∧ OldK s₁.heap s'.heap ∧ s'.os = s₁.os ∧ AllBare s'.gens) s₁) :
    WalkO q loose XP YP l.row.toRowW d [] (fun f vs => PySem.call f vs) := by
  intro w s₀ s₁ mg mb G Y fa o pm cd doc dV kV ho hd hcd hD hmg hg args vals as hpre hlay hrd hwl hlo
  obtain rfl : dV = .none := Dflts.none hD hdf
  obtain rfl : kV = .none := Dflts.noKw hD
  obtain ⟨a, vs, ns, rfl, rfl, hobj, hints, hlen⟩ := script_of hn hpre hwl
  refine enter_call (codeAny_mono (call w s₀ s₁ mg mb fa o pm cd doc a vs ns G Y ho (fd_plain hd) hcd hmg hobj hints hlen hg) fun r s' hq => ?_)
  obtain ⟨rfl, h2, h3, h4⟩ := hq
  exact ⟨.inl ⟨.bool true, .bool true, [], rfl, fun _ => rfl, .bool true, post_true l _, fun _ => ⟨List.Pairwise.nil, fun _ hm => (nomatch hm)⟩⟩, h2, h3, h4⟩
section
variable {prog : Program} {w : World} {A : Around} {E : Value → Shared → Prop} {s : Shared} {K : Frag}
end
end Att
namespace L2
open PySem PySem.Spec PyProof.Rows
theorem vals_ints : ∀ {vs : List Value} {ns : List Int}, IntsAre vs ns → Vals (ns.map V.int) vs
  | _, _, .nil => .nil
  | _, _, .cons n t h => .cons ⟨t, rfl⟩ (vals_ints h)
/-- nothing is tracked but the script, known to the object (or it is an object of the module) -/
noncomputable def Only (H : Hp) : Prop := ∀ b, H b = none ∨ ∃ o xs, H b = some (.frz o (.lst xs))
/-- THE HEAD: the law's promise, at the heap behind the top. F, the promise of the law's def, may use that base is part of the heap (so K.In base, base.Ns mainGlobals mg stand in Mod) -/
theorem law_call {P : Program} {w : World} {K : PySem.W.Frag} {mg mb : Str → Option Value} {CX : CXT} {k : Nat} {fa a : Addr} {fd : FuncData} {x : Str} {sp : Sp} {s₁ : Shared} {vs : List Value} {ns : List Int}
    (KX : K.In s₁.heap) (hns : s₁.heap.Ns mainGlobals mg) (hb : s₁.heap.Ns builtinsNs mb) (hbb : ∀ x : Str, x ≠ "__name__" → mb x = bootBuiltins x) (hlim : s₁.heap.NoLimit) (hg : s₁.gens = #[])
    (ha : s₁.heap.get? a = some { cls := .type "list", data := .seq vs.toArray }) (hi : IntsAre vs ns) (hl : ns.length ≤ sizeLine) (hr : Room k callerA)
    (F : ∀ base : Heap, K.In base → base.Ns mainGlobals mg → FnOk P w K mg base CX k fa fd [x] sp) (hbind : ∀ (s : Shared) (u : Value), BindsTo s fd ⟨[u], []⟩ [(x, u)])
    (hsp : ∀ H : Hp, Only H → SqL K H a (ns.map V.int) → sp [.ref a] H (fun v _ => v = .bl true) fun _ _ _ => False)
    (hCX : ∀ H e s', CX [] H s₁ (fun _ _ _ => False) e s' → False) :
    codeAny (model P w) callerA (.call (.ref fa) ⟨[.ref a], []⟩) (fun r s' => r = .ok (.ret (.bool true)) ∧ OldK s₁.heap s'.heap ∧ s'.os = s₁.os ∧ AllBare s'.gens) s₁ := by
  have rv := vals_ints hi
  have lenV := hi.length
  -- from an abstract heap in which nothing but the script may be tracked
  have core : ∀ H : Hp, Only H → SqL K H a (ns.map V.int) → HOk P w H s₁.heap → (∀ b, H b ≠ none → b = a) → (H a ≠ none → K.lookup a = none) →
      codeAny (model P w) callerA (.call (.ref fa) ⟨[.ref a], []⟩) (fun r s' => r = .ok (.ret (.bool true)) ∧ OldK s₁.heap s'.heap ∧ s'.os = s₁.os ∧ AllBare s'.gens) s₁ := by
    intro H hO hS hok hA hK
    have base_of : ∀ {b : Addr} {o : Obj}, s₁.heap.get? b = some o → H b = none → (hidT s₁.heap H).get? b = some o := fun e n => hidT_get e n
    have noA : ∀ {b : Addr} {o : Obj} {es : Array DictEntry} {ep : Nat}, s₁.heap.get? b = some o → o.data = .dict es ep → H b = none := fun {b o es ep} e d => by
      cases q : H b with
      | none => rfl
      | some u =>
        have e' : b = a := hA b (by rw [q]; simp)
        subst e'
        rw [ha] at e; cases e
        have d' : Data.seq vs.toArray _ = Data.dict es ep := d
        cases d'
    have nsK : ∀ {b : Addr} {m : Str → Option Value}, s₁.heap.Ns b m → (hidT s₁.heap H).Ns b m := fun {b m} ⟨o, es, ep, e, d, r⟩ => ⟨o, es, ep, base_of e (noA e d), d, r⟩
    have hKb : K.In (hidT s₁.heap H) := fun b o e => base_of (KX b o e) (by
      cases q : H b with
      | none => rfl
      | some u =>
        have e' : b = a := hA b (by rw [q]; simp)
        subst e'
        rw [hK (by rw [q]; simp)] at e; cases e)
    have hM : Mod K mg (hidT s₁.heap H) := ⟨hKb, nsK hns, ⟨mb, nsK hb, hbb⟩, let ⟨mc, h1, h2⟩ := hlim; ⟨mc, nsK h1, h2⟩⟩
    have e0 : Env0 P w K mg (hidT s₁.heap H) callerA [] s₁ H := ⟨rfl, hM, fun b o e => of_hidT e, Nat.le_of_eq (hidT_size _ _), trivial, fun b hb => absurd (show b ∈ ([] : List Addr) from hb) (by simp), hok, .of_eq hg⟩
    refine codeAny_mono ((F _ hKb (nsK hns)).run callerA [] s₁ H ⟨[.ref a], []⟩ [.ref a] [.ref a] _ _ hr e0 (hbind s₁ (.ref a)) (.cons rfl .nil) (hsp H hO hS)) fun r s' h => ?_
    cases r with
    | error e => exact (hCX H e s' h).elim
    | ok fl =>
      cases fl with
      | next => exact False.elim h
      | brk => exact False.elim h
      | cont => exact False.elim h
      | ret u =>
        obtain ⟨v, H', os, bare, un, hok', r', q⟩ := h
        have q' : v = .bl true := q
        subst q'
        obtain rfl : u = Value.bool true := r'
        refine ⟨rfl, OldK.of_keep fun b o e => ?_, os, bare⟩
        cases q : H b with
        | none => exact un.keep b o e q (by intro z; exact absurd (show b ∈ ([] : List Addr) from z) (by simp)) (by simp)
        | some u =>
          rcases hO b with z | ⟨ob, xs, z⟩
          · rw [q] at z; cases z
          · have z2 := un.frzs b ob _ z
            obtain ⟨e1, _⟩ := hok b _ z
            obtain ⟨e2, _⟩ := hok' b _ z2
            rw [e] at e1; cases e1
            exact e2
  cases hk : K.lookup a with
  | some o =>
    -- the script is one of the module's own objects
    have e := KX a o hk
    rw [ha] at e
    cases e
    refine core (fun _ => none) (fun _ => .inl rfl) (.inr ⟨_, vs.toArray, _, hk, rfl, rfl, rfl, by rw [List.size_toArray, lenV]; exact hl, by simpa using rv⟩) (fun b u z => by have z' : (none : Option HO) = some u := z; cases z') (fun b z => absurd rfl z) fun z => absurd rfl z
  | none =>
    refine core (fun b => if b = a then some (.frz { cls := .type "list", data := .seq vs.toArray } (.lst (ns.map V.int))) else none) (fun b => ?_) (.inl (.inr ⟨{ cls := .type "list", data := .seq vs.toArray }, if_pos rfl⟩)) (fun b u z => ?_) (fun b z => ?_) fun _ => hk
    · by_cases hb : b = a
      · exact .inr ⟨_, _, if_pos hb⟩
      · exact .inl (if_neg hb)
    · by_cases hb : b = a
      · have z' := (if_pos hb).symm.trans z
        cases z'
        subst hb
        exact ⟨ha, by rw [List.length_map]; exact hl, vs, _, rv, ha⟩
      · have z' := (if_neg hb).symm.trans z
        cases z'
    · by_cases hb : b = a
      · exact hb
      · exact absurd (if_neg hb) z
end L2
namespace L2
open PySem PySem.Spec PyProof.Rows
/-- the goal that k_head leaves (case hc), from the law's promise. F gives the function object fd (K's own) once, then the promise over every base -/
theorem walk_of {l : PySem.W.OpenLaw} {n k : Nat} {q : Program} {loose : List Str} {XP : (Str → Option Value) → Heap → Prop} {YP : World → Heap → Prop} {d : DefRec} {K : Params → PySem.W.Frag} {CX : World → CXT} {sp : World → Sp} {x : Str}
    (hn : l.most = some n) (hn2 : n ≤ sizeLine) (hdf : d.params.defaults = []) (hr : Room k callerA)
    (hY : ∀ (w : World) (h : Heap), YP w h → (K w.params).In h)
    (F : ∀ (w : World) (mg : Str → Option Value) (fa : Addr) (h : Heap), (K w.params).In h → h.Ns mainGlobals mg → mg d.name = some (.ref fa) →
      ∃ fd : FuncData, (∀ (s : Shared) (u : Value), BindsTo s fd ⟨[u], []⟩ [(x, u)]) ∧
        ∀ base : Heap, (K w.params).In base → base.Ns mainGlobals mg → FnOk l.prog w (K w.params) mg base (CX w) k fa fd [x] (sp w))
    (hsp : ∀ (w : World) (H : Hp) (a : Addr) (ns : List Int), ns.length ≤ n → Only H → SqL (K w.params) H a (ns.map V.int) → sp w [.ref a] H (fun v _ => v = .bl true) fun _ _ _ => False)
    (hCX : ∀ (w : World) (H : Hp) (s : Shared) (e : Value) (s' : Shared), CX w [] H s (fun _ _ _ => False) e s' → False) :
    PySem.W.WalkO q loose XP YP l.row.toRowW d [] (fun f vs => PySem.call f vs) := by
  refine Att.attach_call hn hdf fun w s₀ s₁ mg mb fa o pm cd doc a vs ns G Y ho hd hcd hmg hobj hints hlen hg => ?_
  have KX := hY w _ Y
  obtain ⟨fd, hb, hF⟩ := F w mg fa _ KX G.T.g hmg
  exact law_call KX G.T.g G.T.b G.T.builtins G.T.nolimit hg hobj hints (Nat.le_trans hlen hn2) hr hF hb (fun H hO hS => hsp w H a ns hlen hO hS) fun H e s' => hCX w H s₁ e s'
end L2
/- THE LAST THEOREM (shape; LID, My.* are yours):
   My.Adr: a structure of the addresses that your layer names (classes, functions); My.Txt K t: a structure (Prop) of the equations over K;
   My.txt_mk : {K} {implicit addresses ..} (e1 : nsIn K mainGlobals "law" = some (some (.ref f))) (e2 : K.lookup f = some ⟨oc, od, .func (fnOf "law" "law" params body scope dV kV doc pm an cdv ct), sl⟩) (e3 : codeIn K cdv "law" = true) .. : ∃ t, My.Txt K t
set_option maxRecDepth 100000 in
set_option maxHeartbeats 0 in
theorem PySem.Challenge.cw_LID_holds : PySem.Challenge.rw_LID.Holds := by
  w_on; o_law; k_head; (case hw => w_witness2)
  k_fill
  refine L2.walk_of (l := PySem.Challenge.rw_LID) (n := 63) (k := 40) (x := "script") (CX := fun w => ..) (sp := fun _ => My.sp_law) rfl (by decide) rfl ⟨rfl, by decide, by decide⟩ (fun w h Y => PySem.W.kIn_of Y) ?F ?S ?C
  case F =>
    intro w mg fa h KX G hmg
    have T : ∃ t, My.Txt (L2.KOf KX) t := by
      dsimp only [L2.KOf]                          -- K must stand as «<heap const> w.params» for k_is
      refine' My.txt_mk ?e1 ?e2 ?e3 ..
      (case e1 => PySem.W.k_is)                    -- in the order: a name -> its address -> its object -> its parts
      (case e2 => PySem.W.k_is)
      ..
    obtain ⟨t, T⟩ := T
    have e0 := hmg.symm.trans (PySem.W.mg_of KX G T.law)
    cases e0                                       -- fa is the law's own address
    exact ⟨_, fun s u => .of_eq rfl, fun base kb nb => My.law_fn T kb nb⟩     -- if «.of_eq rfl» comes too early: refine' ⟨_, ?b, fun base kb nb => My.law_fn T kb nb⟩; exact fun s u => .of_eq rfl
  case S => exact fun w H a ns hl hO hS => ..
  case C => exact ..
(the tactic k_is has no namespace: write k_is) -/
namespace L2
open PySem PySem.Spec PyProof.Rows
noncomputable def defArgs (s : Stmt) : Arguments := match s with
  | .FunctionDef _ a _ _ _ _ _ _ _ _ => a
  | _ => { posonlyargs := [], args := [], vararg := none, kwonlyargs := [], kw_defaults := [], kwarg := none, defaults := [] }
noncomputable def defBody (s : Stmt) : List Stmt := match s with
  | .FunctionDef _ _ b _ _ _ _ _ _ _ => b
  | _ => []
noncomputable def defScope (s : Stmt) : Scope := match s with
  | .FunctionDef _ _ _ _ _ _ sc _ _ _ => sc
  | _ => { kind := .function, names := [], isGenerator := false, isCoroutine := false }
noncomputable abbrev CX0 : CXT := fun _ _ _ _ _ _ => False
noncomputable abbrev E0 : XK := fun _ _ _ => False
theorem pass0 {X : Cx} : Passes CX0 X E0 := fun _ _ _ _ _ _ _ h => h.elim
structure Fun (K : PySem.W.Frag) (x qual : Str) (st : Stmt) (f : Addr) (fd : FuncData) : Prop where
  ex : ∃ (oc : Value) (od : Option Addr) (kV doc pm : Value) (an : Option Addr) (cdv ct : Value) (osl : Array (Option Value)),
    fd = PySem.W.fnOf x qual (defArgs st) (defBody st) (defScope st) .none kV doc pm an cdv ct ∧ K.lookup f = some ⟨oc, od, .func fd, osl⟩ ∧ PySem.W.codeIn K cdv qual = true
  kp : PySem.W.keepIn K (.ref f) = true
section
variable {P : Program} {w : World} {K : PySem.W.Frag} {mg : Str → Option Value} {base : Heap}
/-- THE RULE for a def: its body as a term of rules, and the reading of that term -/
theorem Fun.ok {x qual : Str} {st : Stmt} {f : Addr} {fd : FuncData} {N ps : List Str} {k : Nat} {sp : Sp} (F : Fun K x qual st f fd) (S : FnScope N ps (defScope st)) (len : ∀ vs H Q E, sp vs H Q E → vs.length = ps.length)
    (hbody : ∀ (cdv : Value) (A : Around) (outer : List Env) (s : Shared) (H : Hp) (vs : List V) (Q : VK) (E : XK), Room k (A.deeper (envOfC qual (defScope st) s.heap.objs.size f cdv)) → sp vs H Q E →
      ∃ t, PSs (cxOf CX0 P w K mg base N qual (defScope st) f cdv A outer s H E).nox (defBody st) t ∧ t { nx := fun _ H' => Q .non H', rt := Q } (start N vs) H) : FnOk P w K mg base CX0 (k + 1) f fd ps sp := by
  obtain ⟨oc, od, kV, doc, pm, an, cdv, ct, osl, rfl, lk, hcd⟩ := F.ex
  refine fn_of lk hcd S len fun A outer s H vs Q E hr hsp => ?_
  obtain ⟨t, h, q⟩ := hbody cdv A outer s H vs Q E hr hsp
  exact ⟨t, h.nox, q⟩
/-- how its arguments bind (no defaults): h is «fun _ _ _ _ _ _ us hl => match us, hl with | [_, _], _ => rfl», one _ a parameter -/
theorem Fun.binds {x qual : Str} {st : Stmt} {f : Addr} {fd : FuncData} {ps : List Str} (F : Fun K x qual st f fd)
    (h : ∀ (kV doc pm : Value) (an : Option Addr) (cdv ct : Value) (us : List Value), us.length = ps.length → bindArgs (PySem.W.fnOf x qual (defArgs st) (defBody st) (defScope st) .none kV doc pm an cdv ct) ⟨us, []⟩ = pure (ps.zip us)) : Binds K fd ps [] := by
  obtain ⟨oc, od, kV, doc, pm, an, cdv, ct, osl, rfl, lk, hcd⟩ := F.ex
  exact .all (h kV doc pm an cdv ct)
theorem fun_mk {x qual : Str} {st : Stmt} {f : Addr} {oc : Value} {od an : Option Addr} {osl : Array (Option Value)} {kV doc pm cdv ct : Value} (l : K.lookup f = some ⟨oc, od, .func (PySem.W.fnOf x qual (defArgs st) (defBody st) (defScope st) .none kV doc pm an cdv ct), osl⟩)
    (c : PySem.W.codeIn K cdv qual = true) (k : PySem.W.keepIn K (.ref f) = true) : Fun K x qual st f (PySem.W.fnOf x qual (defArgs st) (defBody st) (defScope st) .none kV doc pm an cdv ct) := ⟨⟨oc, od, kV, doc, pm, an, cdv, ct, osl, rfl, l, c⟩, k⟩
end
theorem hu_of {A : Around} {k : Nat} (hr : Room k A) : A.units + 1 < cLine := Nat.lt_of_le_of_lt (Nat.add_le_add_left (by decide : 1 ≤ 64) _) hr.units
section
variable {X : Cx}
theorem pv (i : Nat) {x : Str} {pos : Pos} (hN : X.N[i]? = some x := by rfl) (hv : Vis X.env.scope x := by first | exact Or.inl rfl | exact Or.inr (Or.inl rfl) | exact Or.inr (Or.inr rfl)) (hd : (x == ("__debug__" : Str)) = false := by decide)
    (hcd : (x == ("__classdict__" : Str)) = false := by decide) : PE X (.Name x pos) (tVar i) := pe_var hN hv hd hcd
end
theorem iteF {A B : Prop} (h : B) : if false = true then A else B := by
  rw [if_neg Bool.false_ne_true]
  exact h
theorem iteT {A B : Prop} (h : A) : if true = true then A else B := by
  rw [if_pos rfl]
  exact h
theorem ite2 {c A B : Prop} [Decidable c] (h1 : c → A) (h2 : ¬ c → B) : if c then A else B := by
  by_cases h : c
  · rw [if_pos h]
    exact h1 h
  · rw [if_neg h]
    exact h2 h
theorem iteNS {c A B : Prop} [Decidable c] (hc : c) (h : B) : if (!decide c) = true then A else B := by
  rw [decide_eq_true hc]
  exact iteF h
/-- all that was tracked is as it was -/
noncomputable def Same (H H' : Hp) : Prop := ∀ b o, H b = some o → H' b = some o
theorem Same.refl (H : Hp) : Same H H := fun _ _ h => h
theorem Same.trans {H H1 H2 : Hp} (a : Same H H1) (b : Same H1 H2) : Same H H2 := fun c o h => b c o (a c o h)
theorem Same.free {H H' : Hp} (e : Same H H') {l : Addr} (h : H' l = Option.none) : H l = Option.none := by
  cases q : H l with
  | none => rfl
  | some o =>
    rw [e l o q] at h
    cases h
theorem Same.seq {K : PySem.W.Frag} {H H' : Hp} {a : Addr} {xs : List V} (e : Same H H') (h : SqL K H a xs) : SqL K H' a xs := by
  rcases h with (h | ⟨o, h⟩) | h
  · exact .inl (.inl (e _ _ h))
  · exact .inl (.inr ⟨o, e _ _ h⟩)
  · exact .inr h
end L2
end
section
set_option maxRecDepth 100000
namespace KsTab
open PySem PySem.SetTable
theorem nodup_sub_len {α : Type} [DecidableEq α] : ∀ {l m : List α}, l.Nodup → (∀ x ∈ l, x ∈ m) → l.length ≤ m.length
  | [], _, _, _ => Nat.zero_le _
  | a :: l, m, nd, h => by
    have ha := h a List.mem_cons_self
    have nd' := List.nodup_cons.mp nd
    have := nodup_sub_len (l := l) (m := m.erase a) nd'.2 fun x hx => by
      have hne : x ≠ a := fun e => nd'.1 (e ▸ hx)
      exact (List.mem_erase_of_ne hne).mpr (h x (List.mem_cons_of_mem _ hx))
    rw [List.length_erase_of_mem ha] at this
    have hp : 0 < m.length := List.length_pos_of_mem ha
    simp only [List.length_cons]
    omega
noncomputable def it (n : Nat) : Nat → Nat → Nat
  | 0, i => i
  | k + 1, i => it n k ((i * 5 + 1) % n)
theorem it_add (n : Nat) : ∀ (a b i : Nat), it n (a + b) i = it n b (it n a i)
  | 0, b, i => by simp [it]
  | a + 1, b, i => by rw [Nat.succ_add]; exact it_add n a b _
noncomputable def orb (n : Nat) : Nat → Nat → List Nat
  | 0, _ => []
  | k + 1, i => i :: orb n k ((i * 5 + 1) % n)
theorem mem_orb {n : Nat} : ∀ {k i t : Nat}, t ∈ orb n k i → ∃ a, a < k ∧ it n a i = t
  | 0, _, _, h => nomatch h
  | k + 1, i, t, h => by
    rcases List.mem_cons.mp h with rfl | h
    · exact ⟨0, Nat.succ_pos _, rfl⟩
    · obtain ⟨a, ha, e⟩ := mem_orb h
      exact ⟨a + 1, by omega, e⟩
noncomputable def Full (n : Nat) : Prop := 0 < n ∧ it n n 0 = 0 ∧ ∀ t, t < n → t ∈ orb n n 0
theorem Full.reach {n : Nat} (f : Full n) {i t : Nat} (hi : i < n) (ht : t < n) : ∃ k, k < n ∧ it n k i = t := by
  obtain ⟨hn, h0, h⟩ := f
  obtain ⟨a, ha, ea⟩ := mem_orb (h i hi)
  obtain ⟨b, hb, eb⟩ := mem_orb (h t ht)
  by_cases hab : a ≤ b
  · refine ⟨b - a, by omega, ?_⟩
    rw [← ea, ← it_add, show a + (b - a) = b by omega]; exact eb
  · refine ⟨n + b - a, by omega, ?_⟩
    rw [← ea, ← it_add, show a + (n + b - a) = n + b by omega, it_add, h0]; exact eb
theorem full8 : Full 8 := ⟨by decide, by decide, by decide⟩
theorem full32 : Full 32 := ⟨by decide, by decide, by decide⟩
theorem full128 : Full 128 := ⟨by decide, by decide +kernel, by decide +kernel⟩
noncomputable def lp (mask : Nat) : Nat → Nat × Nat → Nat × Nat
  | 0, x => x
  | k + 1, x => lp mask k (leap mask x.1 x.2)
theorem lp_add (mask : Nat) : ∀ (a b : Nat) (x : Nat × Nat), lp mask (a + b) x = lp mask b (lp mask a x)
  | 0, b, x => by simp [lp]
  | a + 1, b, x => by rw [Nat.succ_add]; exact lp_add mask a b _
theorem lp_snd (mask : Nat) : ∀ (k : Nat) (x : Nat × Nat), (lp mask k x).2 = x.2 / 32 ^ k
  | 0, x => by simp [lp]
  | k + 1, x => by
    rw [lp, lp_snd mask k]
    show x.2 / 32 / 32 ^ k = x.2 / 32 ^ (k + 1)
    rw [Nat.div_div_eq_div_mul, Nat.pow_succ, Nat.mul_comm]
theorem lp_lt (mask : Nat) : ∀ (k : Nat) {x : Nat × Nat}, x.1 < mask + 1 → (lp mask k x).1 < mask + 1
  | 0, _, h => h
  | k + 1, x, _ => lp_lt mask k (Nat.mod_lt _ (Nat.succ_pos _))
theorem lp_zero (mask : Nat) : ∀ (k i : Nat), lp mask k (i, 0) = (it (mask + 1) k i, 0)
  | 0, i => rfl
  | k + 1, i => by
    show lp mask k ((i * 5 + 1 + 0 / 32) % (mask + 1), 0 / 32) = _
    rw [Nat.zero_div, Nat.add_zero, lp_zero mask k]; rfl
theorem lp_reach {mask : Nat} (f : Full (mask + 1)) {x : Nat × Nat} (h1 : x.1 < mask + 1) (h2 : x.2 < 2 ^ 64) {t : Nat} (ht : t < mask + 1) : ∃ k, k < 13 + (mask + 1) ∧ (lp mask k x).1 = t := by
  have h13 : (lp mask 13 x).2 = 0 := by
    rw [lp_snd]
    exact Nat.div_eq_of_lt (Nat.lt_of_lt_of_le h2 (by decide))
  obtain ⟨k, hk, e⟩ := f.reach (lp_lt mask 13 h1) ht
  refine ⟨13 + k, by omega, ?_⟩
  rw [lp_add]
  have e2 : lp mask 13 x = ((lp mask 13 x).1, 0) := by rw [← h13]
  rw [e2, lp_zero]; exact e
noncomputable def adv (t : SetTable) : Nat → Probe → Probe
  | 0, p => p
  | k + 1, p => adv t k (t.advance p)
theorem adv_add (t : SetTable) : ∀ (a b : Nat) (p : Probe), adv t (a + b) p = adv t b (adv t a p)
  | 0, b, p => by simp [adv]
  | a + 1, b, p => by rw [Nat.succ_add]; exact adv_add t a b _
/-- a probe at the start of a run -/
noncomputable def At (t : SetTable) (p : Probe) (x : Nat × Nat) : Prop := p.j = x.1 ∧ p.more = runEnd t.mask x.1 - x.1 ∧ p.i = x.1 ∧ p.perturb = x.2 ∧ p.dummy = none
theorem run_le (mask i : Nat) : runEnd mask i - i ≤ 9 := by unfold runEnd; split <;> omega
theorem adv_run (t : SetTable) : ∀ (m : Nat) (p : Probe), p.more = m → ∃ q, adv t (m + 1) p = q ∧ q.j = (leap t.mask p.i p.perturb).1 ∧ q.more = runEnd t.mask (leap t.mask p.i p.perturb).1 - (leap t.mask p.i p.perturb).1 ∧ q.i = (leap t.mask p.i p.perturb).1 ∧ q.perturb = (leap t.mask p.i p.perturb).2 ∧ q.dummy = p.dummy
  | 0, p, h => by
    refine ⟨_, rfl, ?_⟩
    show (t.advance p).j = _ ∧ (t.advance p).more = _ ∧ (t.advance p).i = _ ∧ (t.advance p).perturb = _ ∧ (t.advance p).dummy = _
    have : t.advance p = { p with j := (leap t.mask p.i p.perturb).1, more := runEnd t.mask (leap t.mask p.i p.perturb).1 - (leap t.mask p.i p.perturb).1, i := (leap t.mask p.i p.perturb).1, perturb := (leap t.mask p.i p.perturb).2 } := by
      unfold advance
      rw [if_neg (by omega)]
    rw [this]
    exact ⟨rfl, rfl, rfl, rfl, rfl⟩
  | m + 1, p, h => by
    have e : t.advance p = { p with j := p.j + 1, more := p.more - 1 } := by
      unfold advance
      rw [if_pos (by omega)]
    obtain ⟨q, h1, h2⟩ := adv_run t m (t.advance p) (by rw [e]; show p.more - 1 = m; omega)
    refine ⟨q, h1, ?_⟩
    rw [e] at h2
    exact h2
theorem adv_at (t : SetTable) : ∀ (n : Nat) {p : Probe} {x : Nat × Nat}, At t p x → ∃ k, k ≤ 10 * n ∧ At t (adv t k p) (lp t.mask n x)
  | 0, p, x, h => ⟨0, Nat.le_refl _, h⟩
  | n + 1, p, x, h => by
    obtain ⟨h1, h2, h3, h4, h5⟩ := h
    obtain ⟨q, e, q1, q2, q3, q4, q5⟩ := adv_run t _ p h2
    rw [h3, h4] at q1 q2 q3 q4
    obtain ⟨k, hk, ha⟩ := adv_at t n (p := q) (x := leap t.mask x.1 x.2) ⟨q1, q2, q3, q4, q5.trans h5⟩
    refine ⟨runEnd t.mask x.1 - x.1 + 1 + k, ?_, ?_⟩
    · have := run_le t.mask x.1
      omega
    · rw [adv_add, e]; exact ha
theorem bits_lt (h : Int) : bits h < 2 ^ 64 := by
  unfold bits
  have h1 : 0 ≤ h % (2 ^ 64 : Int) := Int.emod_nonneg _ (by decide)
  have h2 : h % (2 ^ 64 : Int) < 2 ^ 64 := Int.emod_lt_of_pos _ (by decide)
  omega
theorem start_at (t : SetTable) (h : Int) : At t (t.probeStart h) (bits h % (t.mask + 1), bits h) := ⟨rfl, rfl, rfl, rfl, rfl⟩
theorem has_nil (j : Nat) : has #[] j = false := by unfold has; simp
theorem slot_live {t : SetTable} {j i : Nat} (h : t.slot j = .live i) : t.place[i]? = some j := by
  unfold slot at h
  dsimp only at h
  split at h
  · rename_i e
    cases h
    exact eq_of_beq e
  · split at h <;> cases h
theorem slot_nodummy {t : SetTable} (hd : t.dummies = #[]) {j : Nat} (h : t.slot j = .dummy) : False := by
  unfold slot at h
  dsimp only at h
  split at h
  · cases h
  · rw [hd, has_nil] at h; simp at h
theorem empty_slot {t : SetTable} (hd : t.dummies = #[]) (hs : t.place.size ≤ t.mask) : ∃ j, j < t.mask + 1 ∧ t.slot j = .empty := by
  by_cases hx : ∃ j, j < t.mask + 1 ∧ t.slot j = .empty
  · exact hx
  · exfalso
    have all : ∀ j ∈ List.range (t.mask + 1), j ∈ t.place.toList := fun j hj => by
      have hj := List.mem_range.mp hj
      cases e : t.slot j with
      | empty => exact absurd ⟨j, hj, e⟩ hx
      | dummy => exact (slot_nodummy hd e).elim
      | live i =>
        have q := slot_live e
        rw [← Array.getElem?_toList] at q
        exact List.mem_of_getElem? q
    have := nodup_sub_len List.nodup_range all
    rw [List.length_range, Array.length_toList] at this
    omega
/-- from p an empty slot is met within n steps -/
noncomputable def Near (t : SetTable) (n : Nat) (p : Probe) : Prop := ∃ k, k ≤ n ∧ t.slot (adv t k p).j = .empty
theorem near_start {t : SetTable} (f : Full (t.mask + 1)) (hd : t.dummies = #[]) (hs : t.place.size ≤ t.mask) (h : Int) : Near t (10 * (13 + t.mask)) (t.probeStart h) := by
  obtain ⟨j, hj, e⟩ := empty_slot hd hs
  obtain ⟨k, hk, ek⟩ := lp_reach f (x := (bits h % (t.mask + 1), bits h)) (Nat.mod_lt _ (Nat.succ_pos _)) (bits_lt h) hj
  obtain ⟨a, ha, at1⟩ := adv_at t k (start_at t h)
  refine ⟨a, by omega, ?_⟩
  rw [at1.1, ek]; exact e
theorem adv_dummy (t : SetTable) (p : Probe) : (t.advance p).dummy = p.dummy := by
  unfold advance
  split <;> rfl
theorem probe_go {t : SetTable} {hashAt : Nat → Int} {h : Int} (hd : t.dummies = #[]) : ∀ (n : Nat) (fuel : Nat) (p : Probe), n < fuel → Near t n p → p.dummy = none →
    (∃ j, probe.go t hashAt h fuel p = some (.empty j none) ∧ t.slot j = .empty) ∨
    (∃ j i next m, probe.go t hashAt h fuel p = some (.candidate j i next) ∧ t.slot j = .live i ∧ m < n ∧ Near t m next ∧ next.dummy = none ∧ hashAt i = h)
  | n, 0, p, hf, _, _ => absurd hf (Nat.not_lt_zero _)
  | n, fuel + 1, p, hf, hn, hp => by
    obtain ⟨k, hk, e⟩ := hn
    unfold probe.go
    cases es : t.slot p.j with
    | empty => exact .inl ⟨p.j, by simp [hp], es⟩
    | dummy => exact (slot_nodummy hd es).elim
    | live i =>
      cases k with
      | zero =>
        have : t.slot p.j = .empty := e
        rw [es] at this; cases this
      | succ k =>
        have nr : Near t (n - 1) (t.advance p) := ⟨k, by omega, e⟩
        have dd : (t.advance p).dummy = none := (adv_dummy t p).trans hp
        dsimp only
        by_cases hh : (hashAt i == h) = true
        · rw [if_pos hh]
          exact .inr ⟨p.j, i, t.advance p, n - 1, rfl, es, by omega, nr, dd, eq_of_beq hh⟩
        · rw [if_neg hh]
          rcases probe_go hd (n - 1) fuel (t.advance p) (by omega) nr dd with q | ⟨j, i', next, m, q1, q2, q3, q4⟩
          · exact .inl q
          · exact .inr ⟨j, i', next, m, q1, q2, by omega, q4⟩
theorem probe_some {t : SetTable} {hashAt : Nat → Int} {h : Int} (hd : t.dummies = #[]) {n : Nat} {p : Probe} (hn : n ≤ 10 * (13 + t.mask)) (hr : Near t n p) (hp : p.dummy = none) :
    (∃ j, t.probe hashAt h p = some (.empty j none) ∧ t.slot j = .empty) ∨
    (∃ j i next m, t.probe hashAt h p = some (.candidate j i next) ∧ t.slot j = .live i ∧ m < n ∧ Near t m next ∧ next.dummy = none ∧ hashAt i = h) :=
  probe_go hd n _ p (by unfold turns; omega) hr hp
end KsTab
end
section
set_option maxRecDepth 100000
namespace KsTab
open PySem PySem.SetTable
theorem fm_congr {α β : Type} {f g : α → Option β} : ∀ {l : List α}, (∀ x ∈ l, f x = g x) → l.filterMap f = l.filterMap g
  | [], _ => rfl
  | a :: l, h => by
    have ih := fm_congr (f := f) (g := g) (l := l) fun x hx => h x (List.mem_cons_of_mem _ hx)
    have ha := h a List.mem_cons_self
    cases q : g a with
    | none => rw [List.filterMap_cons_none (ha.trans q), List.filterMap_cons_none q, ih]
    | some v => rw [List.filterMap_cons_some (ha.trans q), List.filterMap_cons_some q, ih]
theorem range_get {α : Type} : ∀ (l : List α), (List.range l.length).filterMap (fun i => l[i]?) = l
  | [] => rfl
  | a :: l => by
    rw [List.length_cons, List.range_succ_eq_map]
    have e1 : List.filterMap (fun i => (a :: l)[i]?) (0 :: List.map Nat.succ (List.range l.length)) = a :: List.filterMap (fun i => (a :: l)[i]?) (List.map Nat.succ (List.range l.length)) := List.filterMap_cons_some rfl
    rw [e1, List.filterMap_map]
    have : ((fun i => (a :: l)[i]?) ∘ Nat.succ) = fun i => l[i]? := by funext i; simp
    rw [this, range_get l]
noncomputable def Ris (xs : Array Nat) : Prop := xs.toList.Pairwise (· < ·)
theorem Ris.lt {xs : Array Nat} (r : Ris xs) {i k u v : Nat} (h : i < k) (hi : xs[i]? = some u) (hk : xs[k]? = some v) : u < v := by
  rw [← Array.getElem?_toList] at hi hk
  obtain ⟨h1, e1⟩ := List.getElem?_eq_some_iff.mp hi
  obtain ⟨h2, e2⟩ := List.getElem?_eq_some_iff.mp hk
  have := List.pairwise_iff_getElem.mp r i k h1 h2 h
  rw [e1, e2] at this
  exact this
theorem below_go {xs : Array Nat} {j : Nat} (r : Ris xs) : ∀ (fuel lo hi : Nat), lo ≤ hi → hi ≤ xs.size → hi - lo ≤ fuel →
    (∀ i v, i < lo → xs[i]? = some v → v < j) → (∀ i v, hi ≤ i → xs[i]? = some v → j ≤ v) →
    below.go xs j fuel lo hi ≤ xs.size ∧ (∀ i v, i < below.go xs j fuel lo hi → xs[i]? = some v → v < j) ∧ (∀ i v, below.go xs j fuel lo hi ≤ i → xs[i]? = some v → j ≤ v)
  | 0, lo, hi, h1, h2, h3, h4, h5 => by
    have e : lo = hi := by omega
    subst e
    exact ⟨h2, h4, h5⟩
  | fuel + 1, lo, hi, h1, h2, h3, h4, h5 => by
    unfold below.go
    by_cases hlt : lo < hi
    · rw [if_pos hlt]
      dsimp only
      have hm : (lo + hi) / 2 < xs.size := by omega
      have eg : xs[(lo + hi) / 2]? = some (xs.getD ((lo + hi) / 2) j) := by simp [Array.getD, hm]
      by_cases hc : xs.getD ((lo + hi) / 2) j < j
      · rw [if_pos hc]
        refine below_go r fuel _ hi (by omega) h2 (by omega) (fun i v hi' e => ?_) h5
        by_cases he : i = (lo + hi) / 2
        · subst he; rw [eg] at e; cases e; exact hc
        · exact Nat.lt_trans (r.lt (by omega) e eg) hc
      · rw [if_neg hc]
        refine below_go r fuel lo _ (by omega) (by omega) (by omega) h4 fun i v hi' e => ?_
        by_cases he : i = (lo + hi) / 2
        · subst he; rw [eg] at e; cases e; exact Nat.le_of_not_lt hc
        · exact Nat.le_of_lt (Nat.lt_of_le_of_lt (Nat.le_of_not_lt hc) (r.lt (by omega) eg e))
    · rw [if_neg hlt]
      have e : lo = hi := by omega
      subst e
      exact ⟨h2, h4, h5⟩
theorem below_spec {xs : Array Nat} (r : Ris xs) (j : Nat) : below xs j ≤ xs.size ∧ (∀ i v, i < below xs j → xs[i]? = some v → v < j) ∧ (∀ i v, below xs j ≤ i → xs[i]? = some v → j ≤ v) :=
  below_go r _ _ _ (Nat.zero_le _) (Nat.le_refl _) (by omega) (fun i v h => absurd h (Nat.not_lt_zero _)) fun i v h e => by
    have := (Array.getElem?_eq_some_iff.mp e).1
    omega
/-- the iterator's next place -/
theorem below_next {xs : Array Nat} (r : Ris xs) {n slot : Nat} (hn : n ≤ xs.size) (h1 : ∀ i v, i < n → xs[i]? = some v → v < slot) (h2 : ∀ i v, n ≤ i → xs[i]? = some v → slot ≤ v) : below xs slot = n := by
  obtain ⟨b0, b1, b2⟩ := below_spec r slot
  rcases Nat.lt_trichotomy (below xs slot) n with h | h | h
  · have hs : below xs slot < xs.size := by omega
    have e : xs[below xs slot]? = some xs[below xs slot] := by simp [hs]
    have a := h1 _ _ h e
    have b := b2 _ _ (Nat.le_refl _) e
    omega
  · exact h
  · have hs : n < xs.size := by omega
    have e : xs[n]? = some xs[n] := by simp [hs]
    have a := b1 _ _ h e
    have b := h2 _ _ (Nat.le_refl _) e
    omega
theorem insertAt_toList {α : Type} (xs : Array α) (p : Nat) (x : α) : (insertAt xs p x).toList = xs.toList.take p ++ x :: xs.toList.drop p := by
  unfold insertAt
  simp [Array.toList_extract, List.take_of_length_le]
theorem insertAt_perm {α : Type} (xs : Array α) (p : Nat) (x : α) : (insertAt xs p x).toList.Perm (xs.toList ++ [x]) := by
  rw [insertAt_toList]
  refine (List.perm_middle).trans ?_
  rw [List.take_append_drop]
  exact (List.perm_append_singleton x xs.toList).symm
theorem insertAt_size {α : Type} (xs : Array α) (p : Nat) (x : α) : (insertAt xs p x).size = xs.size + 1 := by
  rw [← Array.length_toList, (insertAt_perm xs p x).length_eq, List.length_append, Array.length_toList]; rfl
theorem ris_insert {t : SetTable} (r : Ris t.place) {j : Nat} (he : t.slot j = .empty) : Ris (insertAt t.place (below t.place j) j) := by
  obtain ⟨b0, b1, b2⟩ := below_spec r j
  have hne : t.place[below t.place j]? ≠ some j := fun z => by
    unfold slot at he
    dsimp only at he
    rw [z] at he
    simp at he
  unfold Ris
  rw [insertAt_toList]
  have l1 : ∀ v ∈ t.place.toList.take (below t.place j), v < j := fun v hv => by
    obtain ⟨i, hi⟩ := List.getElem?_of_mem hv
    rw [List.getElem?_take] at hi
    split at hi
    · rename_i hlt
      rw [Array.getElem?_toList] at hi
      exact b1 i v hlt hi
    · cases hi
  have l2 : ∀ v ∈ t.place.toList.drop (below t.place j), j < v := fun v hv => by
    obtain ⟨i, hi⟩ := List.getElem?_of_mem hv
    rw [List.getElem?_drop, Array.getElem?_toList] at hi
    have h1 := b2 _ _ (Nat.le_add_right _ _) hi
    rcases Nat.lt_or_ge j v with h | h
    · exact h
    · exfalso
      have ev : v = j := by omega
      subst ev
      cases i with
      | zero => exact hne hi
      | succ i =>
        have hs := (Array.getElem?_eq_some_iff.mp hi).1
        have hb : below t.place v < t.place.size := by omega
        have eb : t.place[below t.place v]? = some t.place[below t.place v] := by simp [hb]
        have q1 := r.lt (by omega) eb hi
        have q2 := b2 _ _ (Nat.le_refl _) eb
        omega
  refine List.pairwise_append.mpr ⟨r.sublist (List.take_sublist _ _), List.pairwise_cons.mpr ⟨l2, r.sublist (List.drop_sublist _ _)⟩, fun a ha b hb => ?_⟩
  rcases List.mem_cons.mp hb with rfl | hb
  · exact l1 a ha
  · exact Nat.lt_trans (l1 a ha) (l2 b hb)
noncomputable def live (mask : Nat) (owner : Array (Option Nat)) : List Nat := (List.range (mask + 1)).filterMap fun j => owner.getD j none
structure Lay (mask : Nat) (owner : Array (Option Nat)) (k : Nat) : Prop where
  size : owner.size = mask + 1
  perm : (live mask owner).Perm (List.range k)
theorem filterMap_all {α β : Type} {f : α → Option β} : ∀ {l : List α}, (∀ x ∈ l, (f x).isSome = true) → (l.filterMap f).length = l.length
  | [], _ => rfl
  | a :: l, h => by
    obtain ⟨b, e⟩ := Option.isSome_iff_exists.mp (h a List.mem_cons_self)
    rw [List.filterMap_cons_some e, List.length_cons, List.length_cons, filterMap_all fun x hx => h x (List.mem_cons_of_mem _ hx)]
theorem Lay.room {mask : Nat} {owner : Array (Option Nat)} {k : Nat} (L : Lay mask owner k) (hk : k ≤ mask) : ∃ j, j < mask + 1 ∧ (owner.getD j (some 0)).isNone = true := by
  by_cases hx : ∃ j, j < mask + 1 ∧ (owner.getD j (some 0)).isNone = true
  · exact hx
  · exfalso
    have h1 := filterMap_all (l := List.range (mask + 1)) (f := fun j => owner.getD j none) fun j hj => by
      have hj := List.mem_range.mp hj
      cases e : owner.getD j none with
      | some v => rfl
      | none =>
        refine (hx ⟨j, hj, ?_⟩).elim
        have hs : j < owner.size := by rw [L.size]; exact hj
        simp only [Array.getD, hs, dite_true] at e ⊢
        rw [e]; rfl
    have h2 := L.perm.length_eq
    unfold live at h2
    rw [h1, List.length_range, List.length_range] at h2
    omega
theorem free_some {mask : Nat} {owner : Array (Option Nat)} : ∀ (n fuel i p : Nat), n < fuel → (owner.getD (lp mask n (i, p)).1 (some 0)).isNone = true →
    ∃ j, layClean.free mask owner fuel i p = some j ∧ (owner.getD j (some 0)).isNone = true
  | n, 0, i, p, h, _ => absurd h (Nat.not_lt_zero _)
  | n, fuel + 1, i, p, h, e => by
    unfold layClean.free
    cases q : (List.range (runEnd mask i + 1 - i)).find? fun k => (owner.getD (i + k) (some 0)).isNone with
    | some k => exact ⟨i + k, rfl, (List.find?_eq_some_iff_append.mp q).1⟩
    | none =>
      cases n with
      | zero =>
        exfalso
        have z := List.find?_eq_none.mp q 0 (List.mem_range.mpr (by unfold runEnd; split <;> omega))
        exact z e
      | succ n => exact free_some n fuel _ _ (by omega) e
theorem set_perm {k j : Nat} {g : Nat → Option Nat} (hg : g j = none) : ∀ {l : List Nat}, l.Nodup → j ∈ l → (l.filterMap fun x => if x = j then some k else g x).Perm (k :: l.filterMap g)
  | [], _, h => nomatch h
  | a :: l, nd, h => by
    obtain ⟨n1, n2⟩ := List.nodup_cons.mp nd
    by_cases ha : a = j
    · subst ha
      have e : (l.filterMap fun x => if x = a then some k else g x) = l.filterMap g := fm_congr fun x hx => if_neg fun (z : x = a) => n1 (z ▸ hx)
      have e1 : ((a :: l).filterMap fun x => if x = a then some k else g x) = k :: l.filterMap fun x => if x = a then some k else g x := List.filterMap_cons_some (if_pos rfl)
      rw [e1, e, List.filterMap_cons_none hg]
    · have hl : j ∈ l := (List.mem_cons.mp h).resolve_left fun z => ha z.symm
      have ih := set_perm (k := k) hg n2 hl
      cases q : g a with
      | none => rw [List.filterMap_cons_none (by rw [if_neg ha]; exact q), List.filterMap_cons_none q]; exact ih
      | some v =>
        rw [List.filterMap_cons_some (b := v) (by rw [if_neg ha]; exact q), List.filterMap_cons_some q]
        exact (ih.cons v).trans (List.Perm.swap k v _)
theorem Lay.step {mask : Nat} {owner : Array (Option Nat)} {k j : Nat} (L : Lay mask owner k) (hj : (owner.getD j (some 0)).isNone = true) : Lay mask (owner.setIfInBounds j (some k)) (k + 1) := by
  have hs : j < owner.size := by
    rcases Nat.lt_or_ge j owner.size with h | h
    · exact h
    · simp [Array.getD, Nat.not_lt.mpr h] at hj
  have e0 : owner.getD j none = none := by
    simp only [Array.getD, hs, dite_true] at hj ⊢
    exact Option.isNone_iff_eq_none.mp hj
  refine ⟨by rw [Array.size_setIfInBounds]; exact L.size, ?_⟩
  have e : live mask (owner.setIfInBounds j (some k)) = (List.range (mask + 1)).filterMap fun x => if x = j then some k else owner.getD x none := by
    unfold live
    refine fm_congr fun x hx => ?_
    have hx := List.mem_range.mp hx
    have hxs : x < owner.size := by rw [L.size]; exact hx
    by_cases hxj : x = j
    · subst hxj; simp [Array.getD, hxs]
    · simp [Array.getD, hxs, hxj, Ne.symm hxj]
  rw [e]
  refine (set_perm e0 List.nodup_range (List.mem_range.mpr (by rw [← L.size]; exact hs))).trans ?_
  refine (List.Perm.cons k L.perm).trans ?_
  rw [List.range_succ]
  exact (List.perm_append_singleton k _).symm
theorem lay_start (mask : Nat) : Lay mask (Array.replicate (mask + 1) none) 0 := by
  refine ⟨Array.size_replicate, ?_⟩
  have : live mask (Array.replicate (mask + 1) none) = [] := by
    unfold live
    refine List.filterMap_eq_nil_iff.mpr fun j hj => ?_
    have hj := List.mem_range.mp hj
    simp [Array.getD, hj]
  rw [this]
  exact List.Perm.refl _
theorem lay_fold {mask : Nat} (f : Full (mask + 1)) : ∀ (hs : List Int) (owner : Array (Option Nat)) (k : Nat), Lay mask owner k → k + hs.length ≤ mask →
    ∃ owner', hs.foldl (fun (acc : Option (Array (Option Nat) × Nat)) h => do
        let (owner, k) ← acc
        let j ← layClean.free mask owner (turns mask) (bits h % (mask + 1)) (bits h)
        pure (owner.setIfInBounds j (some k), k + 1)) (some (owner, k)) = some (owner', k + hs.length) ∧ Lay mask owner' (k + hs.length)
  | [], owner, k, L, _ => ⟨owner, rfl, L⟩
  | h :: hs, owner, k, L, hk => by
    rw [List.length_cons] at hk
    obtain ⟨t, ht, et⟩ := L.room (by omega)
    obtain ⟨n, hn, en⟩ := lp_reach f (x := (bits h % (mask + 1), bits h)) (Nat.mod_lt _ (Nat.succ_pos _)) (bits_lt h) ht
    obtain ⟨j, e1, e2⟩ := free_some (mask := mask) (owner := owner) n (turns mask) (bits h % (mask + 1)) (bits h) (by unfold turns; omega) (by rw [en]; exact et)
    obtain ⟨o', h1, h2⟩ := lay_fold f hs _ (k + 1) (L.step e2) (by omega)
    refine ⟨o', ?_, ?_⟩
    · rw [List.foldl_cons]
      show List.foldl _ (do let j ← layClean.free mask owner (turns mask) (bits h % (mask + 1)) (bits h); pure (owner.setIfInBounds j (some k), k + 1)) hs = _
      rw [e1]
      rw [List.length_cons, show k + (hs.length + 1) = k + 1 + hs.length by omega]
      exact h1
    · rw [List.length_cons, show k + (hs.length + 1) = k + 1 + hs.length by omega]
      exact h2
theorem laid_some {mask finger moves : Nat} {led plain : Bool} {hashes : Array Int} (f : Full (mask + 1)) (hk : hashes.size ≤ mask) :
    ∃ t order, laid mask finger moves led plain hashes = some (t, order) ∧ t.mask = mask ∧ t.dummies = #[] ∧ t.led = led ∧ t.plain = plain ∧ Ris t.place ∧ t.place.size = hashes.size ∧ order.toList.Perm (List.range hashes.size) := by
  obtain ⟨o, h1, L⟩ := lay_fold f hashes.toList _ 0 (lay_start mask) (by rw [Array.length_toList]; omega)
  rw [Nat.zero_add, Array.length_toList] at h1 L
  have e : layClean mask hashes = some o := by
    unfold layClean
    rw [← Array.foldl_toList]
    rw [h1]; rfl
  unfold laid
  rw [e]
  refine ⟨_, _, rfl, rfl, rfl, rfl, rfl, ?_, ?_, ?_⟩
  · unfold Ris
    show List.Pairwise _ (List.map _ _)
    have : (List.filterMap (fun j => (o.getD j none).map (j, ·)) (List.range (mask + 1))).map (·.1) = (List.range (mask + 1)).filter fun j => (o.getD j none).isSome := by
      rw [List.map_filterMap]
      rw [← List.filterMap_eq_filter]
      refine fm_congr fun x _ => ?_
      cases q : o.getD x none <;> simp [q, Option.guard]
    rw [this]
    exact List.pairwise_lt_range.sublist List.filter_sublist
  · have : (List.filterMap (fun j => (o.getD j none).map (j, ·)) (List.range (mask + 1))).length = (live mask o).length := by
      unfold live
      have e2 : (List.range (mask + 1)).filterMap (fun j => o.getD j none) = ((List.range (mask + 1)).filterMap (fun j => (o.getD j none).map (j, ·))).map (·.2) := by
        rw [List.map_filterMap]
        refine fm_congr fun x _ => ?_
        cases q : o.getD x none <;> simp [q]
      rw [e2, List.length_map]
    simp only [List.size_toArray, List.length_map]
    rw [this, L.perm.length_eq, List.length_range]
  · have e2 : ((List.range (mask + 1)).filterMap (fun j => (o.getD j none).map (j, ·))).map (·.2) = live mask o := by
      unfold live
      rw [List.map_filterMap]
      refine fm_congr fun x _ => ?_
      cases q : o.getD x none <;> simp [q]
    show (List.map _ _).Perm _
    rw [e2]
    exact L.perm
theorem order_perm {α : Type} {es : Array α} {order : Array Nat} (h : order.toList.Perm (List.range es.size)) : (order.filterMap (es[·]?)).toList.Perm es.toList := by
  rw [Array.toList_filterMap]
  refine (h.filterMap _).trans ?_
  have : (List.range es.size).filterMap (fun i => es[i]?) = es.toList := by
    have e := range_get es.toList
    rw [Array.length_toList] at e
    rw [← e]
    refine fm_congr fun x _ => ?_
    rw [Array.getElem?_toList]
  rw [this]
end KsTab
end
section
set_option maxRecDepth 100000
set_option maxHeartbeats 4000000
namespace KS
open PySem KsTab
section
variable {prog : Program} {w : World} {A : Around} {E : Value → Shared → Prop} {s : Shared}
/-- the table of a set of n elements as adding alone makes it -/
structure Tk (t : SetTable) (n : Nat) : Prop where
  mask : t.mask = 7 ∨ t.mask = 31 ∨ t.mask = 127
  dum : t.dummies = #[]
  ris : Ris t.place
  size : t.place.size = n
  room : n * 5 < t.mask * 3
  plain : t.plain = true
theorem Tk.full {t : SetTable} {n : Nat} (T : Tk t n) : Full (t.mask + 1) := by
  rcases T.mask with h | h | h <;> rw [h]
  · exact full8
  · exact full32
  · exact full128
theorem Tk.odd {t : SetTable} {n : Nat} (T : Tk t n) : t.gaveWay = false := by
  unfold SetTable.gaveWay
  rcases T.mask with h | h | h <;> rw [h] <;> rfl
theorem Tk.fits {t : SetTable} {n : Nat} (T : Tk t n) : t.fits n = true := by
  unfold SetTable.fits SetTable.fill
  have h1 := T.size
  have h2 := T.room
  have h3 : t.dummies.size = 0 := by rw [T.dum]; rfl
  simp only [Bool.and_eq_true, beq_iff_eq, decide_eq_true_eq]
  omega
theorem Tk.le {t : SetTable} {n : Nat} (T : Tk t n) : t.place.size ≤ t.mask := by
  have h1 := T.size
  have h2 := T.room
  omega
theorem tk_fresh (f m : Nat) (led : Bool) : Tk (.fresh f m led) 0 := ⟨.inl rfl, rfl, List.Pairwise.nil, rfl, by show 0 * 5 < 7 * 3; decide, rfl⟩
/-- a value that is a tuple of these ints -/
noncomputable def Kof (prog : Program) (w : World) (h : Heap) (v : Value) (k : List Int) : Prop := ∃ c, v = .ref c ∧ IsTupleKey (intKind prog w) h k c
theorem Kof.at {h h' : Heap} {v : Value} {k : List Int} (x : Kof prog w h v k) (kp : ∀ c o, v = .ref c → h.get? c = some o → h'.get? c = some o) : Kof prog w h' v k := by
  obtain ⟨c, e, o, its, n, ho, r⟩ := x
  exact ⟨c, e, o, its, n, kp c o e ho, r⟩
theorem ofClass_tup {k : List Int} {c : Addr} {Q : Bool → Shared → Prop} (hk : IsTupleKey (intKind prog w) s.heap k c) (h : Q false s) : wpAny (model prog w) A (ofAClassStatement 8 (.ref c)) Q E s := by
  have hT := hk.typeIs
  obtain ⟨o, its, n, ho, _, hd, hi⟩ := hk
  unfold ofAClassStatement
  refine wpAny_bind (wpAny_typeOf hT ?_)
  dsimp only
  rw [if_pos (by decide)]
  refine wpAny_bind (wpAny_pure ?_)
  simp only [Bool.not_true, Bool.false_eq_true, if_false]
  refine wpAny_bind (wpAny_seqItems ho hd ?_)
  dsimp only
  refine wpAny_bind ?_
  rw [← Array.forIn_toList]
  refine wpAny_forIn_list _ (fun rest (r : Option Bool × PUnit) s' => r.1 = none ∧ s' = s ∧ ∀ v ∈ rest, ∃ i t, v = Value.int i t) _ ?_ ?_ _ _ ⟨rfl, rfl, fun v hv => ?_⟩
  · rintro v rest r s' ⟨hr, rfl, hv⟩
    obtain ⟨i, t, rfl⟩ := hv v List.mem_cons_self
    refine wpAny_bind (m := ofAClassStatement 7 _) (wpAny_pure ?_)
    simp only [Bool.false_eq_true, if_false]
    exact wpAny_pure ⟨rfl, rfl, fun u hu => hv u (List.mem_cons_of_mem _ hu)⟩
  · rintro ⟨r1, r2⟩ s' ⟨hr, rfl, _⟩
    simp only at hr
    subst hr
    exact wpAny_pure h
  · generalize its.toList = l at hi hv
    clear ho hT hd
    induction hi with
    | nil => cases hv
    | @cons k0 _ _ _ h1 _ ih =>
      rcases List.mem_cons.mp hv with rfl | hv
      · obtain ⟨t, e⟩ := Value.isInt_shape h1
        exact ⟨k0, t, e⟩
      · exact ih hv
theorem unseen {x : Value} {k : List Int} {Q : Bool → Shared → Prop} (hx : Kof prog w s.heap x k) : ∀ (l : List Value), (∀ y ∈ l, ∃ k', Kof prog w s.heap y k') → Q false s → wpAny (model prog w) A (searchCouldBeSeen x l) Q E s := by
  intro l hl h
  obtain ⟨c, rfl, hc⟩ := hx
  unfold searchCouldBeSeen
  refine wpAny_bind ?_
  refine wpAny_forIn_list _ (fun rest (r : Option Bool × PUnit) s' => r.1 = none ∧ s' = s ∧ ∀ v ∈ rest, ∃ k', Kof prog w s.heap v k') _ ?_ ?_ _ _ ⟨rfl, rfl, hl⟩
  · rintro v rest r s' ⟨hr, rfl, hv⟩
    obtain ⟨k', d, rfl, hd⟩ := hv v List.mem_cons_self
    have hv' : ∀ v ∈ rest, ∃ k', Kof prog w s'.heap v k' := fun u hu => hv u (List.mem_cons_of_mem _ hu)
    dsimp only
    refine wpAny_ite_split (fun _ => wpAny_pure ⟨rfl, rfl, hv'⟩) fun _ => ?_
    refine wpAny_bind (wpAny_eqIsQuiet_tuple hc ?_)
    refine wpAny_ite_split (fun z => Bool.noConfusion z) fun _ => ?_
    refine wpAny_bind (wpAny_eqIsQuiet_tuple hd ?_)
    refine wpAny_ite_split (fun z => Bool.noConfusion z) fun _ => ?_
    refine wpAny_bind (ofClass_tup hc ?_)
    refine wpAny_ite_split (fun z => Bool.noConfusion z) fun _ => ?_
    refine wpAny_bind (ofClass_tup hd ?_)
    refine wpAny_ite_split (fun z => Bool.noConfusion z) fun _ => ?_
    exact wpAny_pure ⟨rfl, rfl, hv'⟩
  · rintro ⟨r1, r2⟩ s' ⟨hr, rfl, _⟩
    simp only at hr
    subst hr
    exact wpAny_pure h
theorem probe_found {t : SetTable} {f : Nat → Int} {h : Int} (hd : t.dummies = #[]) {n : Nat} {p : SetTable.Probe} (hn : n ≤ 10 * (13 + t.mask)) (hr : Near t n p) (hp : p.dummy = none) {r : Option SetTable.Met} (e : t.probe f h p = r) :
    (∃ j, r = some (.empty j none) ∧ t.slot j = .empty) ∨ (∃ j i next m, r = some (.candidate j i next) ∧ t.slot j = .live i ∧ m < n ∧ Near t m next ∧ next.dummy = none ∧ f i = h) := by
  subst e
  exact probe_some hd hn hr hp
theorem search_ok {a : Addr} {o : Obj} {es : Array (Int × Value)} {ep : Nat} {t : SetTable} {x : Value} {k : List Int} {kf : Value → List Int} {h : Int} {Q : SetFound → Shared → Prop} (ho : s.heap.get? a = some o) (hd : o.data = .set es ep t) (T : Tk t es.size) (hu : A.units < cLine)
    (hE : ∀ e ∈ es.toList, Kof prog w s.heap e.2 (kf e.2)) (hx : Kof prog w s.heap x k) (hfree : ∀ j, t.slot j = .empty → Q (.free j false) s) (hthere : (∃ e ∈ es.toList, kf e.2 = k) → Q (.there none) s) :
    ∀ (fuel m : Nat) (stand : Option SetTable.Probe), m < fuel → m ≤ 10 * (13 + t.mask) → Near t m (stand.getD (t.probeStart h)) → (stand.getD (t.probeStart h)).dummy = none → wpAny (model prog w) A (setSearchFrom a x h true fuel stand) Q E s
  | 0, m, _, hf, _, _, _ => absurd hf (Nat.not_lt_zero _)
  | fuel + 1, m, stand, hf, hm, hn, hdm => by
    unfold setSearchFrom
    refine wpAny_bind (wpAny_setState_of ho hd T.fits ?_)
    dsimp only
    rw [T.odd]
    simp only [Bool.false_eq_true, if_false]
    generalize hr : t.probe _ h _ = r
    rcases probe_found T.dum hm hn hdm hr with ⟨j, rfl, hj⟩ | ⟨j, i, next, m', rfl, hj, hm', hn', hd', hh⟩
    · exact wpAny_pure (hfree j hj)
    · have hi : i < es.size := by
        have q := (Array.getElem?_eq_some_iff.mp (slot_live hj)).1
        rw [T.size] at q
        exact q
      have he : es[i]? = some es[i] := by simp [hi]
      have hm1 : es[i] ∈ es.toList := by simp
      obtain ⟨d, hy, hyk⟩ := hE _ hm1
      obtain ⟨c, rfl, hc⟩ := id hx
      have hall : ∀ y ∈ (es.filter (·.1 == h)).toList.map (·.2), ∃ k', Kof prog w s.heap y k' := fun y hy => by
        obtain ⟨e, h1, rfl⟩ := List.mem_map.mp hy
        rw [Array.toList_filter] at h1
        exact ⟨_, hE e (List.mem_filter.mp h1).1⟩
      have same : t.sameMemory t.moves t.mask = some true := by unfold SetTable.sameMemory; simp
      have he2 : es[i]? = some (es[i].1, Value.ref d) := by rw [he, ← hy]
      refine wpAny_ite_split (fun _ => wpAny_bind (unseen hx _ hall (wpAny_ite_split (fun z => Bool.noConfusion z) fun _ => ?_))) fun _ => ?_
      all_goals
        rw [he2]
        dsimp only
        refine wpAny_bind (wpAny_holding (wpAny_eqBool_tuple hu hyk hc ?_))
        refine wpAny_bind (wpAny_setState_of ho hd T.fits ?_)
        dsimp only
        refine wpAny_ite_split (fun z => ?_) fun z => ?_
        · simp only [Bool.true_and, decide_eq_true_eq] at z
          exact wpAny_pure (hthere ⟨_, hm1, z⟩)
        · have z' : ¬ kf es[i].2 = k := by simpa using z
          rw [same]
          dsimp only
          rw [if_pos rfl, hj]
          dsimp only
          rw [he2]
          dsimp only
          refine wpAny_bind (m := isSame (.ref d) (.ref d)) ?_
          have sm : isSame (.ref d) (.ref d) = pure true := by unfold isSame; simp
          rw [sm]
          refine wpAny_pure (wpAny_bind (wpAny_pure ?_))
          rw [if_pos rfl]
          dsimp only
          rw [if_neg (by simpa using z')]
          exact search_ok ho hd T hu hE hx hfree hthere fuel m' (some next) (by omega) (by omega) hn' hd'
theorem byVal_tup {k : List Int} {c : Addr} {Q : Bool → Shared → Prop} (hk : IsTupleKey (intKind prog w) s.heap k c) (h : Q true s) : wpAny (model prog w) A (hashByValue 8 (.ref c)) Q E s := by
  have hT := hk.typeIs
  obtain ⟨o, its, n, ho, _, hd, hi⟩ := hk
  unfold hashByValue
  refine wpAny_bind (wpAny_specialOf hT F.slot_tuple_hash.lookup ?_)
  dsimp only
  refine wpAny_bind (wpAny_seqItems ho hd ?_)
  refine wpAny_bind ?_
  show wpAny _ _ (forIn its _ _) _ _ s
  rw [← Array.forIn_toList]
  refine wpAny_forIn_list _ (fun rest (r : Option Bool × PUnit) s' => r.1 = none ∧ s' = s ∧ ∀ v ∈ rest, ∃ i t, v = Value.int i t) _ ?_ ?_ _ _ ⟨rfl, rfl, fun v hv => ?_⟩
  · rintro v rest r s' ⟨hr, rfl, hv⟩
    obtain ⟨i, t, rfl⟩ := hv v List.mem_cons_self
    refine wpAny_bind (m := hashByValue 7 _) (wpAny_pure ?_)
    simp only [Bool.not_true, Bool.false_eq_true, if_false]
    exact wpAny_pure ⟨rfl, rfl, fun u hu => hv u (List.mem_cons_of_mem _ hu)⟩
  · rintro ⟨r1, r2⟩ s' ⟨hr, rfl, _⟩
    simp only at hr
    subst hr
    exact wpAny_pure h
  · generalize its.toList = l at hi hv
    clear ho hT hd
    induction hi with
    | nil => cases hv
    | @cons k0 _ _ _ h1 _ ih =>
      rcases List.mem_cons.mp hv with rfl | hv
      · obtain ⟨t, e⟩ := Value.isInt_shape h1
        exact ⟨k0, t, e⟩
      · exact ih hv
/-- what stands in the set: es, of values among vs, each of those in done by its like -/
structure TS (w : World) (kf : Value → List Int) (vs done : List Value) (h : Heap) (a : Addr) (es : Array (Int × Value)) : Prop where
  ob : ∃ o ep t, h.get? a = some o ∧ o.ExactSet ∧ o.data = .set es ep t ∧ Tk t es.size ∧ t.led = !w.params.followText "set-order"
  mem : ∀ e ∈ es.toList, e.2 ∈ vs
  cov : ∀ v ∈ done, ∃ e ∈ es.toList, kf e.2 = kf v
  len : es.size ≤ done.length
theorem notScan {x : Value} {k : List Int} {es : Array (Int × Value)} (hx : Kof prog w s.heap x k) : byScan x es = false := by
  obtain ⟨c, rfl, _⟩ := hx
  rfl
theorem add_ok {kf : Value → List Int} {vs done : List Value} {a : Addr} {es : Array (Int × Value)} {x : Value} {Q : Bool → Shared → Prop} (S : TS w kf vs done s.heap a es) (hV : ∀ v ∈ vs, Kof prog w s.heap v (kf v)) (hu : A.units < cLine) (hx : x ∈ vs) (hroom : done.length < 76)
    (hQ : ∀ b h' es', Heap.SameBut a s.heap h' → TS w kf vs (done ++ [x]) h' a es' → Q b { s with heap := h' }) {hh : Int} : wpAny (model prog w) A (setAddHashed a x hh) Q E s := by
  obtain ⟨⟨o, ep, t, ho, hex, hd, T, hled⟩, hmem, hcov, hlen⟩ := id S
  have hkx := hV x hx
  unfold setAddHashed setAddHashedIn
  refine wpAny_holding (wpAny_bind (wpAny_setState_of ho hd T.fits ?_))
  dsimp only
  rw [notScan hkx]
  simp only [Bool.false_eq_true, if_false]
  unfold setSearch
  refine wpAny_bind (search_ok (kf := kf) (k := kf x) ho hd T hu (fun e he => hV _ (hmem e he)) hkx (fun j hj => ?_) (fun hth => ?_) 100000 (10 * (13 + t.mask)) none ?_ (Nat.le_refl _) (near_start T.full T.dum T.le hh) rfl)
  · dsimp only
    refine wpAny_bind (wpAny_setState_of ho hd T.fits ?_)
    dsimp only
    obtain ⟨c, rfl, hc⟩ := id hkx
    have p1 : (t.put j).1.mask = t.mask := rfl
    have p2 : (t.put j).1.place = SetTable.insertAt t.place (SetTable.below t.place j) j := rfl
    have p3 : (t.put j).1.dummies = #[] := by
      show (if SetTable.has t.dummies j = true then _ else t.dummies) = #[]
      rw [T.dum, has_nil]
      rfl
    have p4 : (t.put j).1.plain = true := T.plain
    have p5 : (t.put j).1.led = t.led := rfl
    have p6 : (t.put j).2 = SetTable.below t.place j := rfl
    have p7 : Ris (t.put j).1.place := ris_insert T.ris hj
    have p8 : (t.put j).1.place.size = es.size + 1 := by rw [p2, insertAt_size, T.size]
    have e1 := insertAt_perm es (t.put j).2 (hh, Value.ref c)
    have e2 : (SetTable.insertAt es (t.put j).2 (hh, Value.ref c)).size = es.size + 1 := insertAt_size es _ _
    generalize hes : SetTable.insertAt es (t.put j).2 (hh, Value.ref c) = es1 at e1 e2 ⊢
    generalize ht1 : (t.put j).1 = t1 at p1 p2 p3 p4 p5 p7 p8 ⊢
    rw [if_pos p4]
    refine wpAny_bind (byVal_tup hc ?_)
    simp only [if_true]
    have hsz : es1.size ≤ sizeLine := by rw [e2, sizeLine_eq]; omega
    refine wpAny_bind (wpAny_storeSet_of ho hd ?_ hsz)
    have ho1 : (s.heap.update a (Obj.putSet es1 t1)).get? a = some { o with data := .set es1 (ep + 1) t1 } := by
      have q := Heap.get?_update_self (Obj.putSet es1 t1) ho (by rw [putSet_of es1 t1 hd]; rfl)
      rw [putSet_of es1 t1 hd] at q
      exact q
    have hs1 := Heap.SameBut.update s.heap a (Obj.putSet es1 t1)
    have m1 : ∀ {l : List (Int × Value)}, l.Perm es1.toList → (∀ e ∈ l, e.2 ∈ vs) ∧ ∀ v ∈ done ++ [Value.ref c], ∃ e ∈ l, kf e.2 = kf v := fun {l} hp => by
      have hm : ∀ e, e ∈ l ↔ e ∈ es.toList ∨ e = (hh, Value.ref c) := fun e => by
        rw [hp.mem_iff, e1.mem_iff, List.mem_append, List.mem_singleton]
      refine ⟨fun e he => ?_, fun v hv => ?_⟩
      · rcases (hm e).mp he with z | rfl
        · exact hmem e z
        · exact hx
      · rcases List.mem_append.mp hv with z | z
        · obtain ⟨e, q1, q2⟩ := hcov v z
          exact ⟨e, (hm e).mpr (.inl q1), q2⟩
        · rw [List.mem_singleton.mp z]
          exact ⟨_, (hm _).mpr (.inr rfl), rfl⟩
    have hfill : t1.fill = es.size + 1 := by
      unfold SetTable.fill
      rw [p3, p8]
      rfl
    refine wpAny_ite_split (fun hfull => ?_) fun hfull => ?_
    · have hfull' : (es.size + 1) * 5 ≥ t.mask * 3 := by
        simp only [Bool.not_false, Bool.true_and] at hfull
        unfold SetTable.tooFull at hfull
        rw [hfill, p1] at hfull
        exact of_decide_eq_true hfull
      obtain ⟨nm, f, hsa, hr1, hr2, hr3⟩ : ∃ nm, Full (nm + 1) ∧ SetTable.sizeAbove (SetTable.grown (es.size + 1)) = nm + 1 ∧ (nm = 7 ∨ nm = 31 ∨ nm = 127) ∧ es.size + 1 ≤ nm ∧ (es.size + 1) * 5 < nm * 3 := by
        have hr := T.room
        rcases T.mask with h | h | h
        · have e : es.size + 1 = 5 := by rw [h] at hr hfull'; omega
          rw [e]
          exact ⟨31, full32, by decide, by decide, by decide, by decide⟩
        · have e : es.size + 1 = 19 := by rw [h] at hr hfull'; omega
          rw [e]
          exact ⟨127, full128, by decide, by decide, by decide, by decide⟩
        · rw [h] at hfull'
          omega
      have fits1 : t1.fits es1.size = true := by
        unfold SetTable.fits
        rw [hfill, p8, e2, p1]
        simp only [Bool.and_eq_true, beq_iff_eq, decide_eq_true_eq, true_and]
        have := T.room
        rcases T.mask with h | h | h <;> (rw [h] at this ⊢; omega)
      unfold setRelay
      refine wpAny_bind (wpAny_bind (wpAny_setState_of ho1 rfl fits1 ?_))
      dsimp only
      rw [hsa]
      refine wpAny_ite_split (fun z => absurd z (by rw [sizeLine_eq]; rcases hr1 with h | h | h <;> (rw [h]; omega))) fun _ => ?_
      obtain ⟨t2, order, el, q1, q2, q3, q4, q5, q6, q7⟩ := laid_some (mask := nm) (finger := t1.finger) (moves := t1.movedTo nm) (led := t1.led) (plain := t1.plain) (hashes := es1.map (·.1)) f (by rw [Array.size_map, e2]; exact hr2)
      have er : t1.relaid (es1.map (·.1)) (SetTable.grown (es.size + 1)) = some (t2, order) := by
        unfold SetTable.relaid
        rw [hsa]
        exact el
      rw [er]
      rw [Array.size_map] at q6 q7
      have op := order_perm (es := es1) q7
      have osz : (order.filterMap (es1[·]?)).size = es1.size := by rw [← Array.length_toList, op.length_eq, Array.length_toList]
      refine wpAny_bind ?_
      show wpAny _ _ (if ((order.filterMap (es1[·]?)).size != es1.size) = true then _ else pure (order.filterMap (es1[·]?), t2)) _ _ _
      rw [if_neg (by rw [osz]; simp)]
      refine wpAny_pure (wpAny_storeSet_of ho1 rfl ?_ (by rw [osz]; exact hsz))
      dsimp only
      generalize order.filterMap (es1[·]?) = es2 at op osz ⊢
      have ho2 : ((s.heap.update a (Obj.putSet es1 t1)).update a (Obj.putSet es2 t2)).get? a = some { o with data := .set es2 (ep + 1 + 1) t2 } := Heap.get?_update_self (Obj.putSet es2 t2) ho1 rfl
      have hs2 := Heap.SameBut.update (s.heap.update a (Obj.putSet es1 t1)) a (Obj.putSet es2 t2)
      refine wpAny_pure (hQ true _ es2 (hs1.trans hs2) ⟨⟨_, ep + 1 + 1, t2, ho2, hex, rfl, ⟨by rw [q1]; exact hr1, q2, q5, by rw [q6, osz], by rw [osz, e2, q1]; exact hr3, q4.trans p4⟩, (q3.trans p5).trans hled⟩, (m1 op).1, (m1 op).2, ?_⟩)
      rw [osz, e2, List.length_append, List.length_singleton]
      omega
    · have hfull' : (es.size + 1) * 5 < t.mask * 3 := by
        simp only [Bool.not_false, Bool.true_and] at hfull
        unfold SetTable.tooFull at hfull
        rw [hfill, p1] at hfull
        simpa using hfull
      refine wpAny_pure (hQ true _ es1 hs1 ⟨⟨_, ep + 1, t1, ho1, hex, rfl, ⟨by rw [p1]; exact T.mask, p3, p7, p8.trans e2.symm, by rw [e2, p1]; exact hfull', p4⟩, p5.trans hled⟩, (m1 (List.Perm.refl _)).1, (m1 (List.Perm.refl _)).2, ?_⟩)
      rw [e2, List.length_append, List.length_singleton]
      omega
  · refine wpAny_pure ?_
    have e : s = { s with heap := s.heap } := by cases s; rfl
    rw [e]
    refine hQ _ s.heap es (Heap.SameBut.refl a s.heap) ⟨S.ob, hmem, fun v hv => ?_, by rw [List.length_append]; omega⟩
    rcases List.mem_append.mp hv with z | z
    · exact hcov v z
    · rw [List.mem_singleton.mp z]; exact hth
  · rcases T.mask with h | h | h <;> omega
end
end KS
end
section
set_option maxRecDepth 100000
set_option maxHeartbeats 4000000
namespace KS
open PySem KsTab PyProof.Rows
section
variable {prog : Program} {w : World} {A : Around} {E : Value → Shared → Prop} {s : Shared}
noncomputable abbrev newSetO (w : World) : Obj := { cls := .type "set", dict := none, data := .set #[] 0 (.fresh 0 0 (!w.params.followText "set-order")) }
theorem ts_fresh {kf : Value → List Int} {vs : List Value} {h : Heap} {a : Addr} (e : h.get? a = some (newSetO w)) : TS w kf vs [] h a #[] :=
  ⟨⟨_, 0, _, e, ⟨rfl, rfl, rfl⟩, rfl, tk_fresh _ _ _, rfl⟩, fun e he => (by simp at he), fun v hv => (nomatch hv), Nat.le_refl _⟩
theorem TS.at {kf : Value → List Int} {vs done : List Value} {h h' : Heap} {a : Addr} {es : Array (Int × Value)} (S : TS w kf vs done h a es) (k : ∀ o, h.get? a = some o → h'.get? a = some o) : TS w kf vs done h' a es := by
  obtain ⟨⟨o, ep, t, ho, r⟩, q1, q2, q3⟩ := S
  exact ⟨⟨o, ep, t, k o ho, r⟩, q1, q2, q3⟩
/-- the loop that takes a list's items into the set -/
theorem fill_loop {kf : Value → List Int} {R : Result → Shared → Prop} {I l S : Addr} {items : Array Value} (hh : A.in1.handled = none) (hIl : l ≠ I) (hSI : S ≠ I) (hSl : S ≠ l) (hu : A.in1.units < cLine) (hz : items.size ≤ 76) :
    ∀ (k i : Nat) (s : Shared) (es : Array (Int × Value)), items.size - i = k → i ≤ items.size → s.heap.IsListIter I l i → s.heap.IsList l items → (∀ v ∈ items.toList, Kof prog w s.heap v (kf v)) → (∀ c, Value.ref c ∈ items.toList → c ≠ I ∧ c ≠ S) →
      TS w kf items.toList (items.toList.take i) s.heap S es →
      (∀ h' tk es', (∀ b o, b ≠ I → b ≠ S → s.heap.get? b = some o → h'.get? b = some o) → TS w kf items.toList items.toList h' S es' → R (.ok (.ret .none)) { s with heap := h', toks := tk }) →
      codeAny (model prog w) A (.builtin "set.update.loop" ⟨[.ref S, .ref I], []⟩) R s := by
  intro k
  induction k with
  | zero =>
    intro i s es hk hi hit hl hV hne hS hR
    have ei : i = items.size := by omega
    subst ei
    refine codeAny_builtin PyProof.Rows.F.entry_set_update_loop ?_
    rw [Around.under_plainId PyProof.Rows.F.plain_set_update_loop _]
    show wpAny _ A.in1 (pyNext (.ref I) >>= _) _ _ s
    refine wpAny_bind (wpAny_pyNext_list_end hh hit hl (by simp) fun h' he => ?_)
    show wpAny _ A.in1 (ret Value.none) _ _ _
    have e1 : items.toList.take items.size = items.toList := by rw [← Array.length_toList, List.take_length]
    rw [e1] at hS
    exact wpAny_pure (hR h' s.toks es (fun b o hb _ e => he b o hb e) (hS.at fun o e => he S o hSI e))
  | succ k ih =>
    intro i s es hk hi hit hl hV hne hS hR
    have hlt : i < items.size := by omega
    refine codeAny_builtin PyProof.Rows.F.entry_set_update_loop ?_
    rw [Around.under_plainId PyProof.Rows.F.plain_set_update_loop _]
    show wpAny _ A.in1 (pyNext (.ref I) >>= _) _ _ s
    refine wpAny_bind (wpAny_pyNext_list_item hit hl (x := items[i]) (by simp [hlt]) fun h1 hit1 sb => ?_)
    have kp1 : ∀ b o, b ≠ I → s.heap.get? b = some o → h1.get? b = some o := fun b o hb e => sb.extBut b o hb e
    have hx : items[i] ∈ items.toList := by simp
    have hV1 : ∀ v ∈ items.toList, Kof prog w h1 v (kf v) := fun v hv => (hV v hv).at fun c o e => kp1 c o (hne c (e ▸ hv)).1
    obtain ⟨c, ec, hc⟩ := hV1 _ hx
    show wpAny _ A.in1 (holding [items[i]] (setAdd S items[i]) >>= _) _ _ _
    refine wpAny_bind (wpAny_holding ?_)
    unfold setAdd
    refine wpAny_holding (wpAny_bind ?_)
    have hV2 : ∀ v ∈ items.toList, Kof prog w ({ s with heap := h1, toks := s.toks + ((kf items[i]).length + 1) } : Shared).heap v (kf v) := hV1
    rw [ec]
    rw [ec] at hx
    refine wpAny_pyHash_tuple (s := { s with heap := h1 }) hu hc ?_
    refine add_ok (s := { s with heap := h1, toks := s.toks + ((kf items[i]).length + 1) }) (hS.at fun o e => kp1 S o hSI e) hV2 hu hx (by rw [List.length_take, Array.length_toList]; omega) fun b h2 es2 sb2 S2 => ?_
    have kp2 : ∀ b o, b ≠ S → h1.get? b = some o → h2.get? b = some o := fun b o hb e => sb2.extBut b o hb e
    have e2 : items.toList.take i ++ [Value.ref c] = items.toList.take (i + 1) := by
      rw [← ec, List.take_add_one]
      simp [hlt]
    rw [e2] at S2
    refine wpAny_pure ⟨plainId_quiet PyProof.Rows.F.plain_set_update_loop _, ih (i + 1) _ es2 (by omega) hlt (hit1.at fun o e => kp2 I o (Ne.symm hSI) e) ?_ ?_ hne S2 fun h' tk es' kp S' => ?_⟩
    · exact (hl.at fun o e => kp1 l o hIl e).at fun o e => kp2 l o (Ne.symm hSl) e
    · exact fun v hv => (hV1 v hv).at fun c o e => kp2 c o (hne c (e ▸ hv)).2
    · exact hR h' tk es' (fun b o hb hb' e => kp b o hb hb' (kp2 b o hb' (kp1 b o hb e))) S'
theorem set_new1 (v : Value) {Q₁ : Value → Shared → Prop} (h : Q₁ (.ref s.heap.objs.size) { s with heap := s.heap.push (newSetO w) }) :
    codeAny (model prog w) A (.call (.builtin "set.__new__") ⟨[.type "set", v], []⟩) (wants Q₁ E) s := by
  refine codeAny_of_tree ?_
  show wpAny _ A.in1 (checkBuiltinCall "set.__new__" ⟨[.type "set", v], []⟩ >>= fun _ => again (.builtin "set.__new__" ⟨[.type "set", v], []⟩)) _ _ s
  refine wpAny_bind (wpAny_of_eq (PySem.F.newCall_set_1 v) (wpAny_pure ⟨plainId_quiet PySem.F.plain_set_new _, codeAny_builtin PySem.F.entry_set_new ?_⟩))
  rw [Around.under_plainId PySem.F.plain_set_new _]
  unfold Builtin.«set.__new__» Builtin.Frozenset.newClass
  have hsb := sub_set_self
  obtain ⟨hp, g, d, tk, os⟩ := s
  dsimp only at h ⊢
  wp_walk
  refine wpAny_askSetting (wpAny_pure ?_)
  dsimp only
  simp only [newObj]
  exact wpAny_bind (wpAny_alloc (wpAny_pure (wpAny_pure h)))
set_option maxHeartbeats 8000000 in
theorem call_set_tup {kf : Value → List Int} {l : Addr} {items : Array Value} {Q : Value → Shared → Prop} (hd : A.handled = none) (hu : A.units + 8 < cLine) (hl : s.heap.IsList l items) (hV : ∀ v ∈ items.toList, Kof prog w s.heap v (kf v)) (hz : items.size ≤ 76)
    (h : ∀ (h' : Heap) (tk : Nat) (es : Array (Int × Value)), TS w kf items.toList items.toList h' s.heap.objs.size es → (∀ b o, s.heap.get? b = some o → h'.get? b = some o) → Q (.ref s.heap.objs.size) { s with heap := h', toks := tk }) :
    wpAny (model prog w) A (call (.type "set") [.ref l]) Q E s := by
  obtain ⟨cc, tt, hmro⟩ := PySem.F.called_set.mro
  have hmade := PySem.F.called_set.made
  have hsubt := PySem.F.called_set.sub
  refine wpAny_call (codeAny_of_tree ?_)
  show wpAny _ _ (callAny (.type "set") _) _ _ _
  refine wpAny_pure ⟨Code.quiet_builtin _ (by decide +kernel), codeAny_builtin PySem.F.entry_type_call ?_⟩
  rw [Around.under_plain (weight_type_call_type "set" [.ref l] []) rfl]
  have k1 := PySem.F.called_set.notType
  have k2 := PySem.F.called_set.canCreate
  have k3 := PySem.F.typeCall_set_1 (.ref l)
  repeat (any_goals (first | assumption | wp_step))
  refine codeAny_mono (set_new1 (.ref l) (E := E) (Q₁ := fun ob s1 => ob = .ref s.heap.objs.size ∧ s1 = { s with heap := s.heap.push (newSetO w) }) ⟨rfl, rfl⟩) fun r s1 hr => ?_
  cases r with
  | error e => exact hr
  | ok fl =>
    cases fl with
    | ret ob =>
      obtain ⟨rfl, rfl⟩ := hr
      have hS : (s.heap.push (newSetO w)).get? s.heap.objs.size = some (newSetO w) := Heap.get?_push_size _ rfl
      have hT : Shared.TypeIs { s with heap := s.heap.push (newSetO w) } (.ref s.heap.objs.size) "set" := ⟨_, hS, rfl⟩
      have k4 := PySem.F.called_set.init.lookup
      have k5 := PySem.F.called_set.init.bind (.ref s.heap.objs.size)
      repeat (any_goals (first | assumption | wp_step))
      refine codeAny_mono (codeAny_call_builtin (R := wants (fun r s2 => r = .none ∧ ∃ h' tk es, s2 = { s with heap := h', toks := tk } ∧ TS w kf items.toList items.toList h' s.heap.objs.size es ∧
          (∀ b o, s.heap.get? b = some o → h'.get? b = some o)) E) PySem.F.called_set.init.plain PySem.F.entry_set_init (check_set_init_1 hT ?_)) fun r2 s2 hr2 => ?_
      · obtain ⟨ol, hol, hcl, nl, hdl⟩ := id hl
        obtain ⟨oc, od, oda, osl⟩ := ol
        simp only at hcl hdl
        subst hcl
        subst hdl
        have ho1 : (s.heap.push (newSetO w)).get? l = some { cls := .type "list", dict := od, data := .seq items nl, slots := osl } := Heap.get?_push_of_some _ hol
        have j1 := PySem.F.sub_list_set
        have j2 := PySem.F.sub_list_frozenset
        have j3 : (Value.type "list" == Value.type "dict") = false := by decide
        have hl1 : (s.heap.push (newSetO w)).IsList l items := ⟨_, ho1, rfl, nl, rfl⟩
        unfold Builtin.«set.__init__» noKeywords Builtin.Frozenset.updateFrom
        generalize hPI : pyIter = PI
        wp_walk
        subst hPI
        refine wpAny_pyIter_list hl1 (wpAny_bind (wpAny_runValue ?_))
        have hlS : l < s.heap.objs.size := Heap.lt_size hol
        have sz : (s.heap.push (newSetO w)).objs.size = s.heap.objs.size + 1 := Heap.size_push ..
        have kp0 : ∀ b o, s.heap.get? b = some o → ((s.heap.push (newSetO w)).push { cls := .type "list_iterator", data := .fields #[.ref l, .int 0 0] }).get? b = some o := fun b o e => Heap.get?_push_of_some _ (Heap.get?_push_of_some _ e)
        refine fill_loop (kf := kf) (I := (s.heap.push (newSetO w)).objs.size) (l := l) (S := s.heap.objs.size) (items := items) (by simp [hd]) (by rw [sz]; exact Nat.ne_of_lt (Nat.lt_succ_of_lt hlS)) (by rw [sz]; exact Nat.ne_of_lt (Nat.lt_succ_self _)) (Nat.ne_of_gt hlS) ?_ hz (items.size - 0) 0 _ #[] rfl (Nat.zero_le _)
          ⟨_, Heap.get?_push_size _ rfl, rfl, rfl⟩ (hl1.push _) (fun v hv => (hV v hv).at fun c o _ e => kp0 c o e) (fun c hc => ?_) (ts_fresh (Heap.get?_push_of_some _ hS)) fun h' tk es kp S' => ?_
        · show A.units + 1 + 1 + 1 < cLine
          omega
        · obtain ⟨d, e, _, _, _, ho, _⟩ := hV _ hc
          cases e
          have q := Heap.lt_size ho
          exact ⟨by rw [sz]; exact Nat.ne_of_lt (Nat.lt_succ_of_lt q), Nat.ne_of_lt q⟩
        · refine wpAny_pure ?_
          show wpAny _ _ (ret Value.none) _ _ _
          refine wpAny_pure ⟨rfl, h', tk, es, rfl, S', fun b o e => kp b o ?_ ?_ (kp0 b o e)⟩
          · rw [sz]
            exact Nat.ne_of_lt (Nat.lt_succ_of_lt (Heap.lt_size e))
          · exact Nat.ne_of_lt (Heap.lt_size e)
      · cases r2 with
        | error e => exact hr2
        | ok f2 =>
          cases f2 with
          | ret r =>
            obtain ⟨rfl, h', tk, es, rfl, S', kp⟩ := hr2
            repeat (any_goals (first | assumption | wp_step))
            exact h _ _ es S' kp
          | _ => exact hr2.elim
    | _ => exact hr.elim
end
end KS
end
section
set_option maxRecDepth 100000
set_option maxHeartbeats 4000000
namespace KS
open PySem KsTab PyProof.Rows
theorem erase_perm {α : Type} : ∀ {l : List α} {i : Nat} (h : i < l.length), ([l[i]] ++ l.eraseIdx i).Perm l
  | [], i, h => absurd h (Nat.not_lt_zero _)
  | a :: l, 0, _ => by simp
  | a :: l, i + 1, h => by
    have hi : i < l.length := by simpa using h
    have ih := erase_perm (l := l) (i := i) hi
    simp only [List.getElem_cons_succ, List.eraseIdx_cons_succ, List.singleton_append] at ih ⊢
    exact (List.Perm.swap a l[i] _).trans (ih.cons a)
theorem pick_go {α : Type} (next : Nat → Nat) : ∀ (fuel k : Nat) (left : List α) (out : Array α), left.length ≤ fuel → (pickOrder.go next fuel k left out).toList.Perm (out.toList ++ left)
  | 0, k, left, out, h => by
    have : left = [] := List.length_eq_zero_iff.mp (by omega)
    subst this
    unfold pickOrder.go
    simp
  | fuel + 1, k, left, out, h => by
    unfold pickOrder.go
    cases left with
    | nil => simp
    | cons a r =>
      have hl : next k % (a :: r).length < (a :: r).length := Nat.mod_lt _ (by simp)
      have e : (a :: r)[next k % (a :: r).length]? = some (a :: r)[next k % (a :: r).length] := List.getElem?_eq_getElem hl
      rw [e]
      dsimp only
      refine (pick_go next fuel (k + 1) _ _ (by rw [List.length_eraseIdx_of_lt hl]; simp only [List.length_cons] at h ⊢; omega)).trans ?_
      rw [Array.toList_push, List.append_assoc]
      refine List.Perm.append_left _ ?_
      exact erase_perm hl
theorem pick_perm {α : Type} (next : Nat → Nat) (xs : Array α) : (pickOrder next xs).toList.Perm xs.toList := by
  unfold pickOrder
  refine (pick_go next _ _ _ _ (by simp)).trans ?_
  simp
noncomputable def walkOf (w : World) (S : Addr) (ep : Nat) (es : Array (Int × Value)) : Array (Int × Value) := if w.params.followText "set-order" = true then pickOrder (w.params.setOrder S ep) es else es
theorem walkOf_perm (w : World) (S : Addr) (ep : Nat) (es : Array (Int × Value)) : (walkOf w S ep es).toList.Perm es.toList := by
  unfold walkOf
  split
  · exact pick_perm _ _
  · exact List.Perm.refl _
theorem slot_setit_next : Slot "set_iterator" "__next__" "set_iterator.__next__" := .of (owner := "set_iterator") (n := "__next__") (by rw [typeLookup_type, builtinLookup_eq_fast]; kernel_rfl) (by decide +kernel)
  (by decide +kernel) (by decide +kernel) (by first | exact .inl (by decide +kernel) | exact .inr (by decide +kernel)) (by rw [isSubtype_type]; kernel_rfl)
theorem slot_setit_iter : Slot "set_iterator" "__iter__" "set_iterator.__iter__" := .of (owner := "set_iterator") (n := "__iter__") (by rw [typeLookup_type, builtinLookup_eq_fast]; kernel_rfl) (by decide +kernel)
  (by decide +kernel) (by decide +kernel) (by first | exact .inl (by decide +kernel) | exact .inr (by decide +kernel)) (by rw [isSubtype_type]; kernel_rfl)
theorem entry_setit_next : entryFor table "set_iterator.__next__" = some Builtin.«set_iterator.__next__» := entryFor_of_tree (by kernel_rfl)
theorem args_setit_next (a : Value) : argsOk "set_iterator.__next__" ⟨[a], []⟩ := by unfold argsOk; kernel_rfl
theorem entry_set_iter' : entryFor table "set.__iter__" = some Builtin.«frozenset.__iter__» := entryFor_alias (id' := "frozenset.__iter__") (by kernel_rfl) rfl (by decide +kernel) (by kernel_rfl)
section
variable {prog : Program} {w : World} {A : Around} {E : Value → Shared → Prop} {s : Shared}
/-- the iterator I of the set at S has given n items, the next slot is j -/
noncomputable def SetIt (h : Heap) (I S : Addr) (n j size ep : Nat) : Prop := h.get? I = some { cls := .type "set_iterator", data := .fields #[.int (j : Int) 0, .int (n : Int) 0, .ref S, .int (size : Int) 0, .int (ep : Int) 0] }
structure SetNow (w : World) (h : Heap) (I S : Addr) (es : Array (Int × Value)) (ep n : Nat) : Prop where
  it : ∃ j, SetIt h I S n j es.size ep ∧ ∃ o t, h.get? S = some o ∧ o.ExactSet ∧ o.data = .set es ep t ∧ Tk t es.size ∧ t.led = (!w.params.followText "set-order") ∧
    (w.params.followText "set-order" = false → (∀ i v, i < n → t.place[i]? = some v → v < j) ∧ ∀ i v, n ≤ i → t.place[i]? = some v → j ≤ v)
  le : n ≤ es.size
theorem setNext_ok {S : Addr} {es : Array (Int × Value)} {ep n j : Nat} {o : Obj} {t : SetTable} {Q : Option (Value × Nat) → Shared → Prop} (ho : s.heap.get? S = some o) (hd : o.data = .set es ep t) (T : Tk t es.size) (hled : t.led = (!w.params.followText "set-order")) (hle : n ≤ es.size)
    (hord : w.params.followText "set-order" = false → (∀ i v, i < n → t.place[i]? = some v → v < j) ∧ ∀ i v, n ≤ i → t.place[i]? = some v → j ≤ v)
    (h0 : (walkOf w S ep es)[n]? = none → Q none s)
    (h1 : ∀ x j', (walkOf w S ep es)[n]? = some x → (w.params.followText "set-order" = false → (∀ i v, i < n + 1 → t.place[i]? = some v → v < j') ∧ ∀ i v, n + 1 ≤ i → t.place[i]? = some v → j' ≤ v) → Q (some (x.2, j')) s) :
    wpAny (model prog w) A (setNext S j n ep) Q E s := by
  unfold setNext
  refine wpAny_bind (wpAny_setState_of ho hd T.fits ?_)
  dsimp only
  unfold setsByText
  refine wpAny_bind (wpAny_bind (wpAny_askSetting (wpAny_pure ?_)))
  show wpAny _ _ (if w.params.followText "set-order" = true then _ else _) _ _ s
  cases hb : w.params.followText "set-order" with
  | true =>
    rw [if_pos rfl]
    refine wpAny_ite_split (fun z => absurd z (by simp)) fun _ => ?_
    have ew : walkOf w S ep es = pickOrder (w.params.setOrder S ep) es := by unfold walkOf; rw [if_pos hb]
    refine wpAny_bind ?_
    unfold setWalk
    refine wpAny_bind (wpAny_setState_of ho hd T.fits ?_)
    dsimp only
    unfold setsByText
    refine wpAny_bind (wpAny_bind (wpAny_askSetting (wpAny_pure ?_)))
    show wpAny _ _ (if w.params.followText "set-order" = true then _ else _) _ _ s
    rw [if_pos hb]
    refine wpAny_bind (wpAny_askSetting (wpAny_pure (wpAny_pure ?_)))
    show Q (Option.map _ (pickOrder (w.params.setOrder S ep) es)[n]?) s
    rw [← ew]
    cases q : (walkOf w S ep es)[n]? with
    | none => exact h0 q
    | some x => exact h1 x j q fun z => by rw [hb] at z; cases z
  | false =>
    rw [if_neg (by decide)]
    have ew : walkOf w S ep es = es := by unfold walkOf; rw [if_neg (by rw [hb]; decide)]
    obtain ⟨o1, o2⟩ := hord hb
    have hdr : (!t.plain && decide (es.size > 1)) = false := by rw [T.plain]; rfl
    refine wpAny_ite_split (fun z => absurd (show (!t.plain && decide (es.size > 1)) = true from z) (by rw [hdr]; decide)) fun _ => ?_
    refine wpAny_bind ?_
    have hl : t.led = true := by rw [hled, hb]; rfl
    show wpAny _ _ (if (!t.led && !es.isEmpty) = true then _ else pure ()) _ _ s
    rw [hl, if_neg (by simp)]
    refine wpAny_pure (wpAny_pure ?_)
    have hp : SetTable.below t.place j = n := below_next T.ris (by rw [T.size]; exact hle) o1 o2
    show Q (match es[SetTable.below t.place j]?, t.place[SetTable.below t.place j]? with | some (_, x), some j => some (x, j + 1) | _, _ => none) s
    rw [hp]
    rw [ew] at h0 h1
    cases q : es[n]? with
    | none => exact h0 q
    | some x =>
      have hn : n < t.place.size := by rw [T.size]; exact (Array.getElem?_eq_some_iff.mp q).1
      have ep' : t.place[n]? = some t.place[n] := by simp [hn]
      rw [ep']
      dsimp only
      refine h1 x _ q fun _ => ⟨fun i v hi e => ?_, fun i v hi e => ?_⟩
      · by_cases hin : i = n
        · subst hin
          rw [ep'] at e
          cases e
          exact Nat.lt_succ_self _
        · exact Nat.lt_succ_of_lt (T.ris.lt (by omega) e ep')
      · exact T.ris.lt (by omega) ep' e
theorem setit_item {I S : Addr} {es : Array (Int × Value)} {ep n : Nat} {x : Int × Value} {Q : Option Value → Shared → Prop} (hne : I ≠ S) (N : SetNow w s.heap I S es ep n) (hx : (walkOf w S ep es)[n]? = some x)
    (hQ : ∀ h', SetNow w h' I S es ep (n + 1) → Heap.SameBut I s.heap h' → Q (some x.2) { s with heap := h' }) : wpAny (model prog w) A (pyNext (.ref I)) Q E s := by
  obtain ⟨⟨j, hit, o, t, ho, hex, hd, T, hled, hord⟩, hle⟩ := N
  have hT : s.TypeIs (.ref I) "set_iterator" := ⟨_, hit, rfl⟩
  unfold pyNext
  refine wpAny_bind (wpAny_attempt (wpAny_callSpecial?_slot (name := Str.ofString "__next__") hT slot_setit_next (wpAny_call_entry slot_setit_next hT entry_setit_next ?_ (args_setit_next _))))
  show wpAny _ _ (fieldsOf (.ref I) >>= _) _ _ s
  refine wpAny_bind (wpAny_fieldsOf hit rfl ?_)
  dsimp only
  refine wpAny_bind ?_
  unfold setEntries
  refine wpAny_bind (wpAny_setState_of ho hd T.fits (wpAny_pure ?_))
  refine wpAny_ite_split (fun z => absurd z (by simp)) fun _ => ?_
  simp only [Int.toNat_natCast]
  have hn : n < es.size := by
    have q := (Array.getElem?_eq_some_iff.mp hx).1
    rw [← Array.length_toList, (walkOf_perm w S ep es).length_eq, Array.length_toList] at q
    exact q
  refine wpAny_bind (setNext_ok ho hd T hled hle hord (fun z => by rw [hx] at z; cases z) fun y j' hy hord' => ?_)
  rw [hx] at hy
  cases hy
  dsimp only
  refine wpAny_bind (wpAny_setField_rec hit (by simp) fun h1 e1 sb1 => ?_)
  refine wpAny_bind (wpAny_setField_rec (s := { s with heap := h1 }) e1 (by simp) fun h2 e2 sb2 => ?_)
  refine wpAny_pure ⟨_, rfl, wpAny_pure (hQ h2 ⟨⟨j', ?_, o, t, ?_, hex, hd, T, hled, hord'⟩, hn⟩ (sb1.trans sb2))⟩
  · exact e2
  · exact (sb2.2 S (Ne.symm hne)).trans ((sb1.2 S (Ne.symm hne)).trans ho)
theorem setit_end {I S : Addr} {es : Array (Int × Value)} {ep : Nat} {Q : Option Value → Shared → Prop} (hh : A.handled = none) (N : SetNow w s.heap I S es ep es.size)
    (hQ : ∀ h', Heap.ExtBut I s.heap h' → Q none { s with heap := h' }) : wpAny (model prog w) A (pyNext (.ref I)) Q E s := by
  obtain ⟨⟨j, hit, o, t, ho, hex, hd, T, hled, hord⟩, hle⟩ := N
  have hT : s.TypeIs (.ref I) "set_iterator" := ⟨_, hit, rfl⟩
  unfold pyNext
  refine wpAny_bind (wpAny_attempt (wpAny_callSpecial?_slot (name := Str.ofString "__next__") hT slot_setit_next (wpAny_call_entry slot_setit_next hT entry_setit_next ?_ (args_setit_next _))))
  show wpAny _ _ (fieldsOf (.ref I) >>= _) _ _ s
  refine wpAny_bind (wpAny_fieldsOf hit rfl ?_)
  dsimp only
  refine wpAny_bind ?_
  unfold setEntries
  refine wpAny_bind (wpAny_setState_of ho hd T.fits (wpAny_pure ?_))
  refine wpAny_ite_split (fun z => absurd z (by simp)) fun _ => ?_
  simp only [Int.toNat_natCast]
  have hn : (walkOf w S ep es)[es.size]? = none := by
    rw [Array.getElem?_eq_none_iff, ← Array.length_toList, (walkOf_perm w S ep es).length_eq, Array.length_toList]
    exact Nat.le_refl _
  refine wpAny_bind (setNext_ok ho hd T hled hle hord (fun _ => ?_) fun y j' hy hord' => by rw [hn] at hy; cases hy)
  dsimp only
  refine wpAny_bind (wpAny_setField_rec hit (by simp) fun h1 e1 sb1 => ?_)
  show wpAny _ _ (newExc (.type "StopIteration") [] >>= _) _ _ _
  refine wpAny_bind ?_
  simp only [newExc, newTuple]
  refine wpAny_bind (wpAny_newObj_type ?_ (by size_fits))
  refine wpAny_bind (m := firstArgMember _ _) (wpAny_of_eq (a := Value.none) (by first | rfl | (simp only [firstArgMember]; rfl)) (wpAny_newObj_type ?_ (by size_fits)))
  simp only [raiseNew]
  refine wpAny_bind (wpAny_handled ?_)
  rw [show A.in1.handled = none from hh]
  refine wpAny_bind (wpAny_pure (wpAny_throw ?_))
  refine wpAny_bind (wpAny_isInstance (T := "StopIteration") (b := true) ⟨_, Heap.get?_push_size _ rfl, rfl⟩ isSubtype_stop ?_)
  exact wpAny_pure (hQ _ ((sb1.extBut.push _).push _))
end
end KS
end
section
set_option maxRecDepth 100000
set_option maxHeartbeats 4000000
namespace KS
open PySem KsTab PyProof.Rows
theorem entry_setit_iter : entryFor table "set_iterator.__iter__" = some Builtin.«dict_keyiterator.__iter__» := entryFor_alias (id' := "dict_keyiterator.__iter__") (by kernel_rfl) rfl (by decide +kernel) (by kernel_rfl)
theorem args_setit_iter (a : Value) : argsOk "set_iterator.__iter__" ⟨[a], []⟩ := by unfold argsOk; kernel_rfl
section
variable {prog : Program} {w : World} {A : Around} {E : Value → Shared → Prop} {s : Shared}
theorem pyIter_set {S : Addr} {es : Array (Int × Value)} {ep : Nat} {o : Obj} {t : SetTable} {Q : Value → Shared → Prop} (ho : s.heap.get? S = some o) (hex : o.ExactSet) (hd : o.data = .set es ep t) (T : Tk t es.size) (hled : t.led = (!w.params.followText "set-order"))
    (hQ : ∀ h', SetNow w h' s.heap.objs.size S es ep 0 → (∀ b o, s.heap.get? b = some o → h'.get? b = some o) → Q (.ref s.heap.objs.size) { s with heap := h' }) : wpAny (model prog w) A (pyIter (.ref S)) Q E s := by
  have hT : s.TypeIs (.ref S) "set" := ⟨o, ho, hex.1⟩
  refine wpAny_pyIter_slot hT F.slot_set_iter (wpAny_call_entry F.slot_set_iter hT entry_set_iter' ?_ (F.args_set_iter_1 _))
  show wpAny _ _ (Builtin.Frozenset.sizeOf S >>= _) _ _ s
  unfold Builtin.Frozenset.sizeOf setEntries
  refine wpAny_bind (wpAny_bind (wpAny_bind (wpAny_setState_of ho hd T.fits (wpAny_pure (wpAny_pure ?_)))))
  unfold setDrawn
  refine wpAny_bind (wpAny_bind (wpAny_setState_of ho hd T.fits ?_))
  dsimp only
  unfold setsByText
  refine wpAny_bind (wpAny_bind (wpAny_askSetting (wpAny_pure (wpAny_pure ?_))))
  have hdr : (!t.plain && decide (es.size > 1)) = false := by rw [T.plain]; rfl
  refine wpAny_ite_split (fun z => ?_) fun _ => ?_
  · simp only [Bool.and_eq_true] at z
    exact absurd (show (!t.plain && decide (es.size > 1)) = true from z.2) (by rw [hdr]; decide)
  · refine wpAny_bind (wpAny_pure (wpAny_bind (wpAny_setEpoch_of ho hd T.fits (wpAny_bind ?_))))
    unfold newFields
    refine wpAny_newObj_type (wpAny_pure ⟨_, rfl, "set_iterator", _, ⟨_, Heap.get?_push_size _ rfl, rfl⟩, slot_setit_next.lookup, hQ _ ⟨⟨0, Heap.get?_push_size _ rfl, o, t, Heap.get?_push_of_some _ ho, hex, hd, T, hled, fun _ => ⟨fun i v hi => absurd hi (Nat.not_lt_zero _), fun i v _ _ => Nat.zero_le _⟩⟩, Nat.zero_le _⟩ fun b o e => Heap.get?_push_of_some _ e⟩)
theorem setWalks {I S : Addr} {es : Array (Int × Value)} {ep : Nat} (hh : A.handled = none) (hne : I ≠ S) :
    Walks prog w A I [I, S] [I] es.size (fun i v => ∃ x, (walkOf w S ep es)[i]? = some x ∧ v = x.2) (fun i h => SetNow w h I S es ep i) where
  sub := fun b hb => by simp at hb; simp [hb]
  frame := fun i h h' N k => by
    obtain ⟨⟨j, hit, o, t, ho, r⟩, hle⟩ := N
    exact ⟨⟨j, k I (by simp) _ hit, o, t, k S (by simp) _ ho, r⟩, hle⟩
  item := fun i s Q E hi N hQ => by
    have hl : (walkOf w S ep es).size = es.size := by rw [← Array.length_toList, (walkOf_perm w S ep es).length_eq, Array.length_toList]
    have hx : (walkOf w S ep es)[i]? = some (walkOf w S ep es)[i] := by simp [hl, hi]
    exact setit_item hne N hx fun h' N' sb => hQ _ h' s.toks ⟨_, hx, rfl⟩ N' fun b o hb e => sb.extBut b o (fun z => hb (by simp [z])) e
  done := fun s Q E N hQ => setit_end hh N fun h' eb => hQ h' s.toks fun b o hb e => eb b o (fun z => hb (by simp [z])) e
  self := fun i s Q E N hQ => by
    obtain ⟨⟨j, hit, _⟩, _⟩ := N
    have hT : s.TypeIs (.ref I) "set_iterator" := ⟨_, hit, rfl⟩
    refine wpAny_pyIter_slot hT slot_setit_iter (wpAny_call_entry slot_setit_iter hT entry_setit_iter ?_ (args_setit_iter _))
    show wpAny _ _ (ret (.ref I)) _ _ s
    exact wpAny_pure ⟨_, rfl, "set_iterator", _, hT, slot_setit_next.lookup, hQ⟩
theorem extend_set {R : Result → Shared → Prop} {S D : Addr} {es : Array (Int × Value)} {ep c₀ : Nat} {o : Obj} {t : SetTable} (hh : A.handled = none) (ho : s.heap.get? S = some o) (hex : o.ExactSet) (hd : o.data = .set es ep t) (T : Tk t es.size) (hled : t.led = (!w.params.followText "set-order")) (res : Value)
    (hDS : D ≠ S) (hD : s.heap.get? D = some { cls := .type "list", data := .seq #[] c₀ }) (hz : es.size ≤ sizeLine)
    (hR : ∀ h' tk acc c, (∀ b o, b ≠ D → s.heap.get? b = some o → h'.get? b = some o) → h'.get? D = some { cls := .type "list", dict := none, data := .seq acc c, slots := #[] } → acc.toList = (walkOf w S ep es).toList.map (·.2) → R (.ok (.ret res)) { s with heap := h', toks := tk }) :
    wpAny (model prog w) A.in1 (Builtin.List.listExtendWith (.ref D) (.ref S) res) (fun fin s' => match fin with | .done f => R (.ok f) s' | .again c' => c'.quiet = true ∧ codeAny (model prog w) A c' R s') (fun e s' => R (.error e) s') s := by
  have hT : s.TypeIs (.ref S) "set" := ⟨o, ho, hex.1⟩
  unfold Builtin.List.listExtendWith
  refine wpAny_bind (wpAny_typeOf hT ?_)
  have q1 : Builtin.List.listSameRef (.ref D) (.ref S) = false := by simp [Builtin.List.listSameRef, hDS]
  have q2 : (Value.type "set" == Value.type "list") = false := by decide
  have q3 : (Value.type "set" == Value.type "tuple") = false := by decide
  simp only [q1, q2, q3, Bool.or_false, Bool.false_eq_true, if_false]
  refine wpAny_bind (pyIter_set ho hex hd T hled fun h1 N1 k1 => ?_)
  have hT1 : Shared.TypeIs { s with heap := h1 } (.ref S) "set" := ⟨o, k1 S o ho, hex.1⟩
  have hDI : D ≠ s.heap.objs.size := Nat.ne_of_lt (Heap.lt_size hD)
  have hIS : s.heap.objs.size ≠ S := Nat.ne_of_gt (Heap.lt_size ho)
  have go : ∀ h c₁ tk, SetNow w h s.heap.objs.size S es ep 0 → (∀ b o, b ≠ D → s.heap.get? b = some o → h.get? b = some o) → h.get? D = some { cls := .type "list", data := .seq #[] c₁ } →
      codeAny (model prog w) A (.builtin "list.extend.loop" ⟨[.ref D, .ref s.heap.objs.size, res], []⟩) R { s with heap := h, toks := tk } := by
    intro h c₁ tk N hk hD1
    refine codeAny_extend_loopS (setWalks (A := A.in1) (ep := ep) (es := es) hh hIS).toS hz D (by simp [hDI, hDS]) res es.size 0 _ #[] c₁ rfl (Nat.zero_le _) N hD1 (ItemsOf.nil _) fun s' acc' c' hm hS' hacc => ?_
    rw [Moved.eq_with hm]
    refine hR s'.heap s'.toks acc' c' (fun b o hb e => hm.heap b o (fun hmem => ?_) (hk b o hb e)) hS' ?_
    · rcases List.mem_cons.mp hmem with z | z
      · exact hb z
      · rw [List.mem_singleton.mp z] at e
        exact absurd (Heap.lt_size e) (Nat.lt_irrefl _)
    · obtain ⟨a1, a2⟩ := hacc
      have hl : (walkOf w S ep es).size = es.size := by rw [← Array.length_toList, (walkOf_perm w S ep es).length_eq, Array.length_toList]
      apply List.ext_getElem?
      intro i
      rw [List.getElem?_map, Array.getElem?_toList, Array.getElem?_toList]
      cases q : acc'[i]? with
      | none =>
        have : acc'.size ≤ i := Array.getElem?_eq_none_iff.mp q
        have : (walkOf w S ep es)[i]? = none := Array.getElem?_eq_none_iff.mpr (by omega)
        rw [this]; rfl
      | some v =>
        obtain ⟨x, hx, rfl⟩ := a2 i v q
        rw [hx]; rfl
  refine wpAny_bind (wpAny_holding ?_)
  unfold Builtin.List.listLengthHint
  refine wpAny_bind (wpAny_specialOf hT1 F.slot_set_len.lookup ?_)
  dsimp only
  rw [show splitId "set.__len__" = some ("set", "__len__") from by decide +kernel]
  dsimp only
  refine wpAny_bind (wpAny_isInstance hT1 sub_set_self ?_)
  refine wpAny_ite_split (fun z => absurd z (by decide)) fun _ => ?_
  refine wpAny_ite_split (fun _ => ?_) fun z => absurd (by decide +kernel) z
  refine wpAny_bind (wpAny_typeOf hT1 ?_)
  dsimp only
  refine wpAny_pure ?_
  have hD1 := k1 D _ hD
  refine wpAny_ite_split (fun _ => ?_) fun _ => wpAny_pure ⟨plainId_quiet F.plain_extend_loop _, go h1 c₀ _ N1 (fun b o _ e => k1 b o e) hD1⟩
  refine wpAny_bind (wpAny_rule (wpAny_bind ?_))
  show wpAny _ _ (updateSeq D (·.push .none) >>= fun _ => updateSeq D (·.pop)) _ _ _
  refine wpAny_bind (wpAny_updateSeq hD1 rfl ?_)
  have hD2 := Heap.get?_update_self (Obj.mapSeq (·.push Value.none)) hD1 rfl
  refine wpAny_updateSeq (hz := by seq_fits) hD2 rfl ?_
  have hD3 := Heap.get?_update_self (Obj.mapSeq (·.pop)) hD2 rfl
  have oth : ∀ b o, b ≠ D → h1.get? b = some o → ((h1.update D (Obj.mapSeq (·.push Value.none))).update D (Obj.mapSeq (·.pop))).get? b = some o := fun b o hb e => (Heap.get?_update_other _ _ (Ne.symm hb)).trans ((Heap.get?_update_other _ _ (Ne.symm hb)).trans e)
  refine wpAny_pure ⟨plainId_quiet F.plain_extend_loop _, go _ _ _ ?_ (fun b o hb e => oth b o hb (k1 b o e)) hD3⟩
  exact (setWalks (prog := prog) (w := w) (A := A) (ep := ep) (es := es) hh hIS).frame 0 _ _ N1 fun b hb o e => oth b o (by
    simp only [List.mem_cons, List.mem_singleton, List.not_mem_nil, or_false] at hb
    rcases hb with rfl | rfl
    · exact Ne.symm hDI
    · exact Ne.symm hDS) e
/-- sorted's first step -/
theorem collect_set {S : Addr} {es : Array (Int × Value)} {ep : Nat} {o : Obj} {t : SetTable} {Q : List Value → Shared → Prop} (hh : A.handled = none) (ho : s.heap.get? S = some o) (hex : o.ExactSet) (hd : o.data = .set es ep t) (T : Tk t es.size) (hled : t.led = (!w.params.followText "set-order"))
    (hz : es.size ≤ sizeLine) (hQ : ∀ h' tk, (∀ b o, s.heap.get? b = some o → h'.get? b = some o) → Q ((walkOf w S ep es).toList.map (·.2)) { s with heap := h', toks := tk }) :
    wpAny (model prog w) A (collect (.ref S)) Q E s := by
  have hDS : s.heap.objs.size ≠ S := Nat.ne_of_gt (Heap.lt_size ho)
  have hD : (s.heap.push (seqObj "list" #[] 0)).get? s.heap.objs.size = some { cls := .type "list", data := .seq #[] 0 } := Heap.get?_push_size _ rfl
  unfold collect
  refine wpAny_bind (wpAny_runValue (codeAny_builtin entry_proto_collect' ?_))
  rw [Around.under_plainId (by decide +kernel) _]
  show wpAny _ _ (newList [] >>= fun d => again (.builtin "list.__iadd__" ⟨[d, .ref S], []⟩)) _ _ s
  refine wpAny_bind (wpAny_newList (wpAny_pure ⟨Code.quiet_builtin _ (by decide +kernel), codeAny_builtin entry_list_iadd' ?_⟩))
  rw [Around.under_plainId (by decide +kernel) _]
  show wpAny _ A.in1 (Builtin.List.listExtendWith (.ref s.heap.objs.size) (.ref S) (.ref s.heap.objs.size)) _ _ { s with heap := s.heap.push (seqObj "list" #[] 0) }
  refine wpAny_mono (extend_set (s := { s with heap := s.heap.push (seqObj "list" #[] 0) }) (R := fun r s' => ∃ h' tk acc c, r = .ok (.ret (.ref s.heap.objs.size)) ∧ s' = { s with heap := h', toks := tk } ∧ (∀ b o, s.heap.get? b = some o → h'.get? b = some o) ∧
      h'.get? s.heap.objs.size = some { cls := .type "list", dict := none, data := .seq acc c, slots := #[] } ∧ acc.toList = (walkOf w S ep es).toList.map (·.2)) hh (Heap.get?_push_of_some _ ho) hex hd T hled _ hDS hD hz
    fun h' tk acc c kp hD' ha => ⟨h', tk, acc, c, rfl, rfl, fun b o e => kp b o (Nat.ne_of_lt (Heap.lt_size e)) (Heap.get?_push_of_some _ e), hD', ha⟩) (fun fin s' hq => ?_) fun e s' ⟨_, _, _, _, z, _⟩ => by cases z
  cases fin with
  | done f =>
    obtain ⟨h', tk, acc, c, z, rfl, kp, hD', ha⟩ := hq
    cases z
    show wpAny _ _ (load s.heap.objs.size >>= _) _ _ _
    refine wpAny_bind (wpAny_load hD' ?_)
    dsimp only
    refine wpAny_pure ?_
    rw [ha]
    exact hQ h' tk kp
  | again c' =>
    refine ⟨hq.1, codeAny_mono hq.2 fun r s1 ⟨h', tk, acc, c, z, e1, kp, hD', ha⟩ => ?_⟩
    subst z
    subst e1
    show wpAny _ _ (load s.heap.objs.size >>= _) _ _ _
    refine wpAny_bind (wpAny_load hD' ?_)
    dsimp only
    refine wpAny_pure ?_
    rw [ha]
    exact hQ h' tk kp
end
end KS
end
section
set_option maxRecDepth 100000
set_option maxHeartbeats 4000000
set_option linter.all false
namespace KS
open PySem KsTab PyProof.Rows PySem.W
/-- every leaf has P; every question is about two of the first n -/
noncomputable def KAll {α : Type} (n : Nat) (P : α → Prop) : KasT α → Prop
  | .ret a => P a
  | .ask i j k => i < n ∧ j < n ∧ ∀ b, KAll n P (k b)
theorem KAll.bind {α β : Type} {n : Nat} {P : α → Prop} {R : β → Prop} {f : α → KasT β} : ∀ {t : KasT α}, KAll n P t → (∀ a, P a → KAll n R (f a)) → KAll n R (t.bind f)
  | .ret a, h, hf => hf a h
  | .ask i j k, h, hf => ⟨h.1, h.2.1, fun b => KAll.bind (h.2.2 b) hf⟩
theorem KAll.wp {α : Type} {n : Nat} {P : α → Prop} {cmp : Nat → Nat → (Bool → Shared → Prop) → Shared → Prop} {Q : α → Shared → Prop} {s : Shared} (hc : ∀ i j C, i < n → j < n → (∀ b, C b s) → cmp i j C s) (hQ : ∀ a, P a → Q a s) : ∀ {t : KasT α}, KAll n P t → t.kasWp cmp Q s
  | .ret a, h => hQ a h
  | .ask i j k, h => hc i j _ h.1 h.2.1 fun b => KAll.wp hc hQ (h.2.2 b)
/-- an arrangement of the first n -/
noncomputable def Arr (n : Nat) (p : Array Nat) : Prop := p.toList.Perm (List.range n)
theorem Arr.lt {n : Nat} {p : Array Nat} (h : Arr n p) (hn : 0 < n) (i : Nat) : p.getD i 0 < n := by
  by_cases hi : i < p.size
  · have e : p.getD i 0 = p[i] := by simp [Array.getD, hi]
    rw [e]
    exact List.mem_range.mp (h.mem_iff.mp (by simp))
  · have e : p.getD i 0 = 0 := by simp [Array.getD, hi]
    rw [e]; exact hn
theorem Arr.rev {n : Nat} {p : Array Nat} (h : Arr n p) (i j : Nat) : Arr n (kas_rev p i j) := (Array.perm_iff_toList_perm.mp (mirror_perm p i j ((j - i) / 2))).trans h
theorem Arr.bub {n : Nat} {p : Array Nat} (h : Arr n p) (k d : Nat) : Arr n (bubble p k d) := (Array.perm_iff_toList_perm.mp (bubble_perm p k d)).trans h
section
variable {N : Nat} (hN : 0 < N)
include hN
theorem all_asc {p : Array Nat} (h : Arr N p) : ∀ (f n : Nat), KAll N (fun _ => True) (kas_asc p f n)
  | 0, _ => trivial
  | f + 1, n => ⟨h.lt hN _, h.lt hN _, fun b => by
    dsimp only
    split
    · exact trivial
    · exact all_asc h f (n + 1)⟩
theorem all_desc : ∀ (f : Nat) {p : Array Nat} (n q : Nat), Arr N p → KAll N (fun r => Arr N r.1) (kas_desc f p n q)
  | 0, _, _, _, h => h
  | f + 1, p, n, q, h => ⟨h.lt hN _, h.lt hN _, fun b => by
    dsimp only
    split
    · split
      · exact all_desc f _ _ (h.rev _ _)
      · exact all_desc f _ _ h
    · refine ⟨h.lt hN _, h.lt hN _, fun d => ?_⟩
      dsimp only
      split
      · exact h
      · exact all_desc f _ _ h⟩
theorem all_tail3 {n nrem : Nat} {p : Array Nat} (h : Arr N p) : KAll N (fun r => Arr N r.2) (kas_tail3 n nrem p) :=
  (all_asc hN (h.rev 0 n) _ _).bind fun m _ => h.rev 0 n
theorem all_descPart {n nrem : Nat} {p : Array Nat} (h : Arr N p) : KAll N (fun r => Arr N r.2) (kas_descPart n nrem p) := by
  refine (all_desc hN _ _ _ h).bind fun r hr => ?_
  split
  · exact all_tail3 hN (hr.rev _ _)
  · exact all_tail3 hN hr
theorem all_count {nrem : Nat} {p : Array Nat} (h : Arr N p) : KAll N (fun r => Arr N r.2) (kas_count nrem p) := by
  refine (all_asc hN h _ _).bind fun n _ => ?_
  split
  · exact h
  · split
    · refine ⟨h.lt hN _, h.lt hN _, fun b => ?_⟩
      dsimp only
      split
      · exact h
      · exact all_descPart hN (h.rev _ _)
    · exact all_descPart hN h
theorem all_place {p : Array Nat} (h : Arr N p) (k : Nat) : ∀ (f l r : Nat), KAll N (fun _ => True) (kas_place p k f l r)
  | 0, _, _ => trivial
  | f + 1, l, r => by
    unfold kas_place
    split
    · exact trivial
    · refine ⟨h.lt hN _, h.lt hN _, fun b => ?_⟩
      dsimp only
      split
      · exact all_place h k f _ _
      · exact all_place h k f _ _
theorem all_bin : ∀ (f : Nat) {p : Array Nat} (k : Nat), Arr N p → KAll N (Arr N) (kas_bin f p k)
  | 0, _, _, h => h
  | f + 1, p, k, h => (all_place hN h k k 0 k).bind fun l _ => all_bin f (k + 1) (h.bub _ _)
theorem all_sort : KAll N (Arr N) (kas_sort N) := by
  have h0 : Arr N (List.toArray (List.range N)) := List.Perm.refl _
  refine (all_count hN h0).bind fun r hr => ?_
  split
  · exact all_bin hN _ _ hr
  · exact hr
end
theorem perm_get {α : Type} {vs : List α} {d : α} {p : List Nat} (h : p.Perm (List.range vs.length)) : (p.map fun i => vs.getD i d).Perm vs := by
  refine (h.map _).trans ?_
  have e : (List.range vs.length).map (fun i => vs.getD i d) = vs := by
    apply List.ext_getElem?
    intro i
    rw [List.getElem?_map]
    by_cases hi : i < vs.length
    · rw [List.getElem?_range hi]
      simp [hi]
    · rw [List.getElem?_eq_none (by rw [List.length_range]; omega), List.getElem?_eq_none (by omega)]
      rfl
  rw [e]
section
variable {prog : Program} {w : World} {A : Around} {E : Value → Shared → Prop} {s : Shared}
theorem lex_any {b fin : Bool} {Q : Bool → Shared → Prop} (hq : ∀ c, Q c s) : ∀ (l : List (Value × Value)) (i : Nat), (∀ x ∈ l, ∃ m t n u, x = (Value.int m t, Value.int n u)) → KatLex prog w A b fin Q l i s
  | [], _, _ => kat_nil (hq fin)
  | (p, q) :: r, i, h => by
    obtain ⟨m, t, n, u, e⟩ := h (p, q) List.mem_cons_self
    cases e
    refine kat_cons (wpAny_eqBool_int (kat_go (fun _ => kat_yes (lex_any hq r (i + 1) fun x hx => h x (List.mem_cons_of_mem _ hx))) fun _ => kat_no ?_))
    cases hb : (b && i == 0) with
    | true => exact oneLt_int (hq _)
    | false => exact kat_one _ _ (lt_int (hq _))
theorem ints_of_items {k : List Int} : ∀ {us : List Value}, ItemsAre (intKind prog w) k us → ∀ v ∈ us, ∃ i t, v = Value.int i t := by
  intro us h
  induction h with
  | nil => intro v hv; cases hv
  | @cons k0 _ _ _ h1 _ ih =>
    intro v hv
    rcases List.mem_cons.mp hv with rfl | hv
    · obtain ⟨t, e⟩ := Value.isInt_shape h1
      exact ⟨k0, t, e⟩
    · exact ih v hv
theorem cmp_tup {bb : Bool} {x y : Value} {k k' : List Int} {C : Bool → Shared → Prop} (hx : Kof prog w s.heap x k) (hy : Kof prog w s.heap y k') (h : ∀ c, C c s) : wpAny (model prog w) A (keyLt' (tuples' bb) x y) C E s := by
  obtain ⟨a, rfl, oa, ia, na, ha, _, da, ta⟩ := hx
  obtain ⟨b, rfl, ob, ib, nb, hb, _, db, tb⟩ := hy
  refine kat_lt ha da hb db (lex_any h _ _ fun z hz => ?_)
  obtain ⟨p, q⟩ := z
  obtain ⟨m, t, rfl⟩ := ints_of_items ta p (List.of_mem_zip hz).1
  obtain ⟨n, u, rfl⟩ := ints_of_items tb q (List.of_mem_zip hz).2
  exact ⟨m, t, n, u, rfl⟩
theorem firsts_of {h : Heap} {kf : Value → List Int} : ∀ (vs : List Value), (∀ v ∈ vs, Kof prog w h v (kf v) ∧ kf v ≠ []) → ∃ fs, KatTups h vs fs ∧ fs.length = vs.length ∧ ∀ v ∈ fs, ∃ i t, v = Value.int i t
  | [], _ => ⟨[], trivial, rfl, fun v hv => (nomatch hv)⟩
  | v :: vs, hv => by
    obtain ⟨fs, h1, h2, h3⟩ := firsts_of vs fun u hu => hv u (List.mem_cons_of_mem _ hu)
    obtain ⟨⟨a, rfl, o, its, n, ho, hc, hd, ti⟩, hne⟩ := hv v List.mem_cons_self
    have hall := ints_of_items ti
    obtain ⟨l, hl⟩ : ∃ l, its.toList = l := ⟨_, rfl⟩
    rw [hl] at ti hall
    generalize kf (Value.ref a) = kk at ti hne
    cases ti with
    | nil => exact absurd rfl hne
    | @cons k0 u ks us q1 q2 =>
      obtain ⟨i, t, eu⟩ := hall u List.mem_cons_self
      refine ⟨u :: fs, KatTups.cons ho hc hd ?_ h1, by rw [List.length_cons, List.length_cons, h2], fun v hv => ?_⟩
      · rw [← Array.getElem?_toList, hl]; rfl
      · rcases List.mem_cons.mp hv with rfl | hv
        · exact ⟨i, t, eu⟩
        · exact h3 v hv
theorem list_sort_tup {a : Addr} {vs : List Value} {n : Nat} {kf : Value → List Int} {P : PySem.Fin → Shared → Prop} (ho : s.heap.get? a = some (seqObj "list" vs.toArray n)) (h64 : vs.length < 64) (hV : ∀ v ∈ vs, Kof prog w s.heap v (kf v) ∧ kf v ≠ []) (hna : ∀ v ∈ vs, v ≠ .ref a)
    (h : ∀ h' out e, out.Perm vs → h'.get? a = some (seqObj "list" (List.toArray out) e) → (∀ b o, b ≠ a → s.heap.get? b = some o → h'.get? b = some o) → P (.done (.ret .none)) { s with heap := h' }) :
    wpAny (model prog w) A (Builtin.«list.sort» ⟨[.ref a], []⟩) P E s := by
  have ha : a < s.heap.objs.size := Heap.lt_size ho
  obtain ⟨e1, ho1⟩ : ∃ e1, (s.heap.update a (Obj.mapSeq fun _ => (#[] : Array Value))).get? a = some (seqObj "list" #[] e1) := ⟨_, get?_update_seq ho fun _ => #[]⟩
  generalize hg : ((s.heap.update a (Obj.mapSeq fun _ => (#[] : Array Value))).push (seqObj "tuple" vs.toArray 0)).push (seqObj "list" #[] 0) = g
  have kp : ∀ b o, b ≠ a → s.heap.get? b = some o → g.get? b = some o := fun b o hb e => by
    rw [← hg]
    exact Heap.get?_push_of_some _ (Heap.get?_push_of_some _ ((Heap.get?_update_other _ _ (Ne.symm hb)).trans e))
  have hoa : g.get? a = some (seqObj "list" #[] e1) := by
    rw [← hg]
    exact Heap.get?_push_of_some _ (Heap.get?_push_of_some _ ho1)
  have hVg : ∀ v ∈ vs, Kof prog w g v (kf v) ∧ kf v ≠ [] := fun v hv => ⟨(hV v hv).1.at fun c o e q => kp c o (fun z => hna v hv (by rw [e, z])) q, (hV v hv).2⟩
  have fin : ∀ (st : SortSt) (out : List Value), (arrOf st).map (·.2) = List.toArray out → failedOf st = none → out.Perm vs → wpAny (model prog w) A (do
      let touched := (← seqEpoch a) != e1
      Builtin.List.listUpdate (.ref a) fun _ => (arrOf st).map (·.2)
      if let some e := failedOf st then rule "list.sort.comparison-raised"; throw e
      if touched then rule "list.sort.modified"; raiseError "ValueError" "list modified during sort"
      ret .none) P E { s with heap := g } := by
    intro st out hout hf hp
    have hl : out.length < 64 := by rw [hp.length_eq]; exact h64
    refine wpAny_bind (seqEpoch_at hoa rfl ?_)
    rw [hout]
    refine wpAny_bind (listUpdate_at hoa rfl ?_ (Nat.zero_le _) (by rw [List.size_toArray, sizeLine_eq]; omega))
    rw [hf]
    simp only [bne_self_eq_false, Bool.false_eq_true, if_false]
    obtain ⟨c2, hc2⟩ : ∃ c2, (g.update a (Obj.mapSeq fun _ => List.toArray out)).get? a = some (seqObj "list" (List.toArray out) c2) := ⟨_, get?_update_seq hoa fun _ => List.toArray out⟩
    exact wpAny_pure (h _ out c2 hp hc2 fun b o hb e => (Heap.get?_update_other _ _ (Ne.symm hb)).trans (kp b o hb e))
  rw [list_sort_plain]
  refine wpAny_bind (listItems_at ho rfl (wpAny_bind (listUpdate_at ho rfl ?_ (by rw [List.size_toArray, sizeLine_eq]; omega) (Nat.zero_le _))))
  refine wpAny_bind (seqEpoch_at ho1 rfl (wpAny_bind (wpAny_newTuple ?_ (by show vs.length ≤ _; rw [sizeLine_eq]; omega))))
  refine wpAny_bind (wpAny_newList (wpAny_holding ?_) (Nat.zero_le _))
  show wpAny (model prog w) A _ P E { s with heap := ((s.heap.update a (Obj.mapSeq fun _ => (#[] : Array Value))).push (seqObj "tuple" vs.toArray 0)).push (seqObj "list" #[] 0) }
  rw [hg]
  dsimp only
  by_cases h2 : vs.toArray.size < 2
  · rw [if_pos h2, if_pos h2]
    refine wpAny_bind (wpAny_pure ?_)
    rw [StateT.run_pure]
    refine wpAny_bind (wpAny_pure ?_)
    dsimp only
    refine fin (SortSt.mk' general' (vs.toArray.zip vs.toArray) #[] 7 none) vs ?_ rfl (List.Perm.refl _)
    show (vs.toArray.zip vs.toArray).map (·.2) = vs.toArray
    simp only [List.zip_toArray, List.map_toArray]
    rw [List.map_snd_zip (Nat.le_refl _)]
  · rw [if_neg h2, if_neg h2]
    rw [List.size_toArray] at h2
    obtain ⟨fs, t1, t2, t3⟩ := firsts_of (prog := prog) (w := w) (h := g) (kf := kf) vs hVg
    refine wpAny_bind (kat_kind (s := { s with heap := g }) t1 (by omega) (T := .type "int") (fun v hv => ?_) (by decide) ?_)
    · obtain ⟨i, t, rfl⟩ := t3 v hv
      exact Looks.of_pure rfl
    · have run := all_sort (N := vs.length) (by omega)
      refine wpAny_bind (wpAny_mono (kat_run (E := E) (s := { s with heap := g }) (ks := vs) (vs := vs) (κ := tuples' (Value.type "int" != Value.type "tuple")) (Q := fun st' s' => s' = { s with heap := g } ∧ ∃ p : Array Nat, arrOf st' = p.map (kas_item (vs.toArray.zip vs.toArray)) ∧ failedOf st' = none ∧ Arr vs.length p) (G := fun p s' => s' = { s with heap := g } ∧ Arr vs.length p)
        rfl (by omega) h64 (fun p st' s' _ a2 a3 a4 => ⟨a4.1, p, a2, a3, a4.2⟩) (run.wp (fun i j C hi hj hC => ?_) fun p hp => ⟨rfl, hp⟩)) ?_ fun _ _ e => e)
      · have q : ∀ i, i < vs.length → ∃ k, Kof prog w g (vs.getD i Value.none) k := fun i hi => by
          rw [List.getD_eq_getElem?_getD, List.getElem?_eq_getElem hi]
          exact ⟨_, (hVg _ (List.getElem_mem hi)).1⟩
        obtain ⟨k1, q1⟩ := q i hi
        obtain ⟨k2, q2⟩ := q j hj
        exact cmp_tup (s := { s with heap := g }) q1 q2 hC
      · rintro ⟨⟨⟩, st'⟩ s' ⟨rfl, p, har, hf, hp⟩
        dsimp only
        exact fin st' _ (kat_snds rfl har) hf (perm_get hp)
theorem sorted_set {S : Addr} {es : Array (Int × Value)} {kf : Value → List Int} {ep : Nat} {o : Obj} {t : SetTable} {Q : Value → Shared → Prop} (hh : A.handled = none) (ho : s.heap.get? S = some o) (hex : o.ExactSet) (hd : o.data = .set es ep t) (T : Tk t es.size) (hled : t.led = (!w.params.followText "set-order"))
    (h64 : es.size < 64) (hV : ∀ e ∈ es.toList, Kof prog w s.heap e.2 (kf e.2) ∧ kf e.2 ≠ [])
    (h : ∀ D h' tk out e, out.Perm (es.toList.map (·.2)) → s.heap.get? D = none → h'.get? D = some (seqObj "list" (List.toArray out) e) → (∀ b o, s.heap.get? b = some o → h'.get? b = some o) → Q (.ref D) { s with heap := h', toks := tk }) :
    wpAny (model prog w) A (call (.builtin "sorted") [.ref S]) Q E s := by
  refine Calls.call_function_entry kind_sorted plain_sorted entry_sorted (args_sorted1 _) ?_
  unfold Builtin.«sorted»
  refine wpAny_bind (m := checkCount "sorted" 1 1 _) (wpAny_pure (wpAny_bind (collect_set hh ho hex hd T hled (by rw [sizeLine_eq]; omega) fun h1 tk k1 => ?_)))
  have hp : ((walkOf w S ep es).toList.map (·.2)).Perm (es.toList.map (·.2)) := (walkOf_perm w S ep es).map _
  generalize (walkOf w S ep es).toList.map (·.2) = vs at hp ⊢
  have hl : vs.length < 64 := by rw [hp.length_eq, List.length_map, Array.length_toList]; exact h64
  have hV1 : ∀ v ∈ vs, Kof prog w s.heap v (kf v) ∧ kf v ≠ [] := fun v hv => by
    obtain ⟨e, he, rfl⟩ := List.mem_map.mp (hp.mem_iff.mp hv)
    exact hV e he
  have low : ∀ b o, s.heap.get? b = some o → b ≠ h1.objs.size := fun b o e => Nat.ne_of_lt (Heap.lt_size (k1 b o e))
  have hle : s.heap.get? h1.objs.size = none := by
    cases q : s.heap.get? h1.objs.size with
    | none => rfl
    | some o => exact absurd (Heap.lt_size (k1 _ _ q)) (Nat.lt_irrefl _)
  refine wpAny_bind (wpAny_newList ?_ (by rw [sizeLine_eq]; omega))
  show wpAny _ _ _ _ _ { s with heap := h1.push (seqObj "list" vs.toArray 0), toks := tk }
  have hoD : (h1.push (seqObj "list" vs.toArray 0)).get? h1.objs.size = some (seqObj "list" vs.toArray 0) := Heap.get?_push_size _ rfl
  have kp2 : ∀ b o, s.heap.get? b = some o → (h1.push (seqObj "list" vs.toArray 0)).get? b = some o := fun b o e => Heap.get?_push_of_some _ (k1 b o e)
  refine wpAny_bind (wpAny_holding (wpAny_call_entry slot_list_sort ⟨_, hoD, rfl⟩ entry_list_sort (list_sort_tup (s := { s with heap := h1.push (seqObj "list" vs.toArray 0), toks := tk }) (kf := kf) hoD hl (fun v hv => ⟨(hV1 v hv).1.at fun c o _ e => kp2 c o e, (hV1 v hv).2⟩) (fun v hv z => ?_) fun h' out e po hD' kp => ⟨_, rfl, ?_⟩) (args_list_sort _)))
  · obtain ⟨c, ec, oc, _, _, hc, _⟩ := (hV1 v hv).1
    rw [ec] at z
    injection z with z
    exact low c oc hc z
  · exact wpAny_pure ⟨_, rfl, h h1.objs.size h' tk out e (po.trans hp) hle hD' fun b o e => kp b o (low b o e) (kp2 b o e)⟩
end
end KS
end
section
set_option maxRecDepth 100000
set_option maxHeartbeats 4000000
namespace KS
open PySem PySem.Spec L2
open PyProof.Rows hiding St
noncomputable def clFold (env : Env) : List (Str × NameKind) → List (Str × Addr) → List (Str × Addr)
  | [], acc => acc
  | (n, k) :: r, acc => if (k == NameKind.free) = true then clFold env r ((n, (env.cells.lookup n).getD 0) :: acc) else clFold env r acc
theorem closure_fold {env : Env} : ∀ (l : List (Str × NameKind)) (acc : List (Str × Addr)), (∀ y ∈ l, y.2 = .free → (env.cells.lookup y.1).isSome = true) →
    (forIn l acc fun (x : Str × NameKind) (r : List (Str × Addr)) => match x with
      | (name, kind) => if (kind == NameKind.free) = true then do
            let a ← cellOf env name
            pure (ForInStep.yield ((name, a) :: r))
          else pure (ForInStep.yield r) : Sem (List (Str × Addr))) = pure (clFold env l acc)
  | [], acc, _ => rfl
  | (n, k) :: l, acc, h => by
    rw [List.forIn_cons]
    have hr : ∀ y ∈ l, y.2 = .free → (env.cells.lookup y.1).isSome = true := fun y hy => h y (List.mem_cons_of_mem _ hy)
    dsimp only
    by_cases hk : (k == NameKind.free) = true
    · rw [if_pos hk]
      obtain ⟨c, hc⟩ := Option.isSome_iff_exists.mp (h (n, k) List.mem_cons_self (eq_of_beq hk))
      have e1 : cellOf env n = pure c := by unfold cellOf; rw [hc]
      have e2 : clFold env ((n, k) :: l) acc = clFold env l ((n, c) :: acc) := by
        show (if (k == NameKind.free) = true then _ else _) = _
        rw [if_pos hk, hc]; rfl
      rw [e1, e2]
      exact closure_fold l _ hr
    · rw [if_neg hk]
      have e2 : clFold env ((n, k) :: l) acc = clFold env l acc := by
        show (if (k == NameKind.free) = true then _ else _) = _
        rw [if_neg hk]
      rw [e2]
      exact closure_fold l _ hr
theorem closure_eq {scope : Scope} {env : Env} (h : ∀ y ∈ scope.names, y.2 = .free → (env.cells.lookup y.1).isSome = true) : closureFor scope env = pure (clFold env scope.names []) := by
  have e := closure_fold scope.names [] h
  unfold closureFor
  simp only [] at e ⊢
  first
    | (rw [e]; rfl)
    | exact e
    | (refine Eq.trans (congrArg (fun m => m >>= fun r => pure r) e) rfl)
theorem clFold_look {env : Env} {x : Str} {c : Addr} : ∀ (l : List (Str × NameKind)) (acc : List (Str × Addr)), (∀ y ∈ l, y.2 = .free → (env.cells.lookup y.1).isSome = true) →
    (∀ y d, acc.lookup y = some d → env.cells.lookup y = some d) → (clFold env l acc).lookup x = some c → env.cells.lookup x = some c
  | [], acc, _, ha, h => ha x c h
  | (n, k) :: l, acc, hl, ha, h => by
    have hr : ∀ y ∈ l, y.2 = .free → (env.cells.lookup y.1).isSome = true := fun y hy => hl y (List.mem_cons_of_mem _ hy)
    by_cases hk : (k == NameKind.free) = true
    · have e2 : clFold env ((n, k) :: l) acc = clFold env l ((n, (env.cells.lookup n).getD 0) :: acc) := by
        show (if (k == NameKind.free) = true then _ else _) = _
        rw [if_pos hk]
      rw [e2] at h
      refine clFold_look l _ hr (fun y d e => ?_) h
      rw [List.lookup_cons] at e
      by_cases hy : (y == n) = true
      · rw [hy] at e
        have ey : y = n := eq_of_beq hy
        subst ey
        obtain ⟨c', hc⟩ := Option.isSome_iff_exists.mp (hl (y, k) List.mem_cons_self (eq_of_beq hk))
        rw [hc] at e ⊢
        exact e
      · have hy' : (y == n) = false := by cases q : (y == n) with | true => exact absurd q hy | false => rfl
        rw [hy'] at e
        exact ha y d e
    · have e2 : clFold env ((n, k) :: l) acc = clFold env l acc := by
        show (if (k == NameKind.free) = true then _ else _) = _
        rw [if_neg hk]
      rw [e2] at h
      exact clFold_look l _ hr ha h
theorem clFold_keeps {env : Env} {x : Str} : ∀ (l : List (Str × NameKind)) (acc : List (Str × Addr)), (acc.lookup x).isSome = true → ((clFold env l acc).lookup x).isSome = true
  | [], _, h => h
  | (n, k) :: l, acc, h => by
    show (List.lookup x (if (k == NameKind.free) = true then _ else _)).isSome = true
    split
    · refine clFold_keeps l _ ?_
      rw [List.lookup_cons]
      split
      · rfl
      · exact h
    · exact clFold_keeps l _ h
theorem clFold_has {env : Env} {x : Str} : ∀ (l : List (Str × NameKind)) (acc : List (Str × Addr)), (x, NameKind.free) ∈ l → ((clFold env l acc).lookup x).isSome = true
  | [], _, h => nomatch h
  | (n, k) :: l, acc, h => by
    show (List.lookup x (if (k == NameKind.free) = true then _ else _)).isSome = true
    rcases List.mem_cons.mp h with e | h
    · cases e
      rw [if_pos (by rfl)]
      refine clFold_keeps l _ ?_
      rw [List.lookup_cons]
      simp
    · split
      · exact clFold_has l _ h
      · exact clFold_has l _ h
theorem relabel_lookup {scope : Scope} {env : Env} {x : Str} : (relabel scope env).names.lookup x =
    (scope.names.lookup x).map fun k => if (k == NameKind.free && env.scope.kind == .function && env.kindOf x == some .cell) = true then .cell else k := by
  unfold relabel
  dsimp only
  induction scope.names with
  | nil => rfl
  | cons y l ih =>
    obtain ⟨n, k⟩ := y
    rw [List.map_cons]
    by_cases hx : (x == n) = true
    · have ex : x = n := eq_of_beq hx
      subst ex
      dsimp only
      split
      · rename_i hc
        rw [List.lookup_cons, List.lookup_cons, hx]
        show some NameKind.cell = _
        simp only [Option.map_some]
        rw [if_pos hc]
      · rename_i hc
        rw [List.lookup_cons, List.lookup_cons, hx]
        show some k = _
        simp only [Option.map_some]
        rw [if_neg hc]
    · have hx' : (x == n) = false := by cases q : (x == n) with | true => exact absurd q hx | false => rfl
      rw [List.lookup_cons (a := x) (b := k) (k := n), hx']
      dsimp only
      split
      · rw [List.lookup_cons, hx']; exact ih
      · rw [List.lookup_cons, hx']; exact ih
theorem mem_of_look {l : List (Str × NameKind)} {x : Str} {k : NameKind} (h : l.lookup x = some k) : (x, k) ∈ l := PySem.mem_of_lookup h
structure CompOk (scope : Scope) (xs : List Str) (osc : Scope) (N : List Str) : Prop where
  kind : scope.kind = .function
  nocell : ∀ y ∈ scope.names, y.2 ≠ .cell
  free : ∀ y ∈ scope.names, y.2 = .free → osc.names.lookup y.1 = some .cell ∨ osc.names.lookup y.1 = some .free
  loc : ∀ y ∈ scope.names, y.2 = .local → scope.names.lookup y.1 = some .local
  own : ∀ y ∈ N, scope.names.lookup y = some .local → y ∈ xs
  empty : scope.names.lookup Str.empty = none
noncomputable def blkN (N xs : List Str) : List Str := N.map (fun y => if xs.contains y = true then Str.empty else y) ++ xs
noncomputable def blk (X : Cx) (scope : Scope) (xs : List Str) (cl : List (Str × Addr)) (C : Addr) (s₀ : Shared) (H₀ : Hp) (ex : List Addr) : Cx :=
  { X with N := blkN X.N xs, s₀ := s₀, H₀ := H₀, env := compEnvC scope cl C X.env, outer := X.stack, ex := ex, fn := fun _ => false, pn := [], xe := fun _ _ => False }
noncomputable def PIf (X : Cx) (ifs : List Expr) (t : TT) : Prop :=
  ∀ (pins : List (Addr × Obj)) (s : Shared) (σ : St) (H : Hp) (Q : Bool → Hp → Prop), Inv X pins σ H s → t σ H Q →
    wpAny (model X.prog X.w) X.A (forIn ifs true fun c r => if r = true then do let ok ← isTrue c X.env (eval c X.env); pure (ForInStep.yield ok) else pure (ForInStep.yield r)) (TP X pins σ Q) X.xe s
noncomputable def tAll : TT := fun _ H Q => Q true H
theorem pif_nil {X : Cx} : PIf X [] tAll := fun _ _ _ H _ I h => wpAny_tests_nil ⟨H, I, h⟩
theorem pif_one {X : Cx} {c : Expr} {t : TT} (hc : PT X c t) : PIf X [c] t := fun pins s σ H Q I h => wpAny_tests_one (hc pins s σ H Q I h)
/-- the reading: W by the turn, a measure, the items so far, the heap -/
noncomputable def CompW (n : Nat) (J : It) (g : TG) (tt : TT) (te : TE) (σ : St) (Q : VK) (W : Nat → Nat → List V → Hp → Prop) : Prop :=
  ∀ i m ys H, W i m ys H →
    (J.stop i H ∧ ys.length ≤ sizeLine ∧ ∀ p, H p = none → Q (.ref p) (upd H p (.lst ys))) ∨
    (J.go i H ∧ ys.length < sizeLine ∧ ∃ N : List V → Hp → Prop, (∀ ys' H', N ys' H' → ∃ m', m' < m ∧ W (i + 1) m' ys' H') ∧ ∀ x H', J.yld i H x H' → g x (σ ++ List.replicate n none) H' fun σ2 H2 => σ2.take σ.length = σ ∧
      tt σ2 H2 fun c H3 => if c = true then te σ2 H3 fun v H4 => N (ys ++ [v]) H4 else N ys H3)
noncomputable def tComp (n : Nat) (wi : TI) (g : TG) (tt : TT) (te : TE) : TE := fun σ H Q => wi σ H fun J H1 => ∃ W : Nat → Nat → List V → Hp → Prop, (∃ m, W 0 m [] H1) ∧ CompW n J g tt te σ Q W
/-- over a range -/
theorem comp_range {n k : Nat} {lo : Int} {g : TG} {tt : TT} {te : TE} {σ : St} {Q : VK} {H : Hp} (Pv : Nat → List V → Hp → Prop) (h0 : Pv 0 [] H) (hn : n < sizeLine) (hl : ∀ i ys H, Pv i ys H → ys.length ≤ i)
    (hs : ∀ i ys H, i < n → Pv i ys H → g (.int (lo + i)) (σ ++ List.replicate k none) H fun σ2 H2 => σ2.take σ.length = σ ∧ tt σ2 H2 fun c H3 => if c = true then te σ2 H3 fun v H4 => Pv (i + 1) (ys ++ [v]) H4 else Pv (i + 1) ys H3)
    (hd : ∀ ys H p, Pv n ys H → H p = none → Q (.ref p) (upd H p (.lst ys))) : ∃ W : Nat → Nat → List V → Hp → Prop, (∃ m, W 0 m [] H) ∧ CompW k (Itr lo n) g tt te σ Q W := by
  refine ⟨fun i m ys H => m = n - i ∧ i ≤ n ∧ Pv i ys H, ⟨n, by simp, Nat.zero_le _, h0⟩, ?_⟩
  rintro i m ys H ⟨rfl, hi, p⟩
  have hy := hl i ys H p
  by_cases hlt : i < n
  · refine .inr ⟨hlt, by omega, Pv (i + 1), fun ys' H' p' => ⟨n - (i + 1), by omega, rfl, hlt, p'⟩, fun x H' y => ?_⟩
    obtain ⟨e, y⟩ := y
    subst e y
    exact hs i ys _ hlt p
  · have e : i = n := by omega
    subst e
    exact .inl ⟨Nat.le_refl _, by omega, fun q hq => hd ys H q p hq⟩
/-- over a list that stays as it is -/
theorem comp_list {k : Nat} {K : PySem.W.Frag} {a : Addr} {xs : List V} {g : TG} {tt : TT} {te : TE} {σ : St} {Q : VK} {H : Hp} (Pv : Nat → List V → Hp → Prop) (h0 : Pv 0 [] H) (hn : xs.length < sizeLine) (hl : ∀ i ys H, Pv i ys H → ys.length ≤ i ∧ SqL K H a xs)
    (hs : ∀ i x ys H, xs[i]? = some x → Pv i ys H → g x (σ ++ List.replicate k none) H fun σ2 H2 => σ2.take σ.length = σ ∧ tt σ2 H2 fun c H3 => if c = true then te σ2 H3 fun v H4 => Pv (i + 1) (ys ++ [v]) H4 else Pv (i + 1) ys H3)
    (hd : ∀ ys H p, Pv xs.length ys H → H p = none → Q (.ref p) (upd H p (.lst ys))) : ∃ W : Nat → Nat → List V → Hp → Prop, (∃ m, W 0 m [] H) ∧ CompW k (Itl K a) g tt te σ Q W := by
  refine ⟨fun i m ys H => m = xs.length - i ∧ i ≤ xs.length ∧ Pv i ys H, ⟨xs.length, by simp, Nat.zero_le _, h0⟩, ?_⟩
  rintro i m ys H ⟨rfl, hi, p⟩
  obtain ⟨hy, hq⟩ := hl i ys H p
  by_cases hlt : i < xs.length
  · refine .inr ⟨⟨xs, xs[i], hq, by simp [hlt]⟩, by omega, Pv (i + 1), fun ys' H' p' => ⟨xs.length - (i + 1), by omega, rfl, hlt, p'⟩, fun x H' y => ?_⟩
    obtain ⟨e, y⟩ := y
    subst e
    exact hs i x ys _ (y xs hq) p
  · have e : i = xs.length := by omega
    subst e
    exact .inl ⟨⟨xs, hq, Nat.le_refl _⟩, by omega, fun q hq => hd ys H q p hq⟩
theorem compLoop_any {prog : Program} {w : World} {A : Around} {R : Result → Shared → Prop} {s : Shared} {elt target iter : Expr} {ifs : List Expr} {scope : Scope} {pos : Pos} {it acc : Value} {env : Env} (Iv : Nat → Shared → Prop)
    (turn : ∀ n s, Iv n s → wpAny (model prog w) A (pyNext it) (fun r s₁ => (r = none ∧ R (.ok .next) s₁) ∨ ∃ v, r = some v ∧
        wpAny (model prog w) A (letOwnedTupleGo target it v) (fun _ t₁ => wpAny (model prog w) A (assign target env v) (fun _ s₂ =>
          wpAny (model prog w) A (forIn ifs true fun c r => if r = true then do let ok ← isTrue c env (eval c env); pure (ForInStep.yield ok) else pure (ForInStep.yield r)) (fun ok s₃ =>
            if ok = true then wpAny (model prog w) A (eval elt env) (fun x s₄ =>
              wpAny (model prog w) A (call (.builtin "list.append") [acc, x]) (fun _ s₅ => ∃ m, m < n ∧ Iv m s₅) (fun _ _ => False) s₄) (fun _ _ => False) s₃
            else ∃ m, m < n ∧ Iv m s₃) (fun _ _ => False) s₂) (fun _ _ => False) t₁) (fun _ _ => False) s₁) (fun _ _ => False) s)
    (n : Nat) (h : Iv n s) : codeAny (model prog w) A (.compLoop (.ListComp elt [⟨target, iter, ifs, 0⟩] scope pos) 0 it acc env) R s := by
  refine codeAny_loop rfl Iv (fun n s hI => ?_) n h
  show wpAny _ A ((compTurn (.ListComp elt [⟨target, iter, ifs, 0⟩] scope pos) 0 it acc env).onRaise (fun x => do noteFrame x env; theTreesLotGoes x)) _ _ s
  refine wpAny_noted ?_
  rw [compTurn_list]
  refine wpAny_bind (wpAny_standAt (wpAny_bind (wpAny_mono (turn n s hI) (fun r s₁ q1 => ?_) fun _ _ z => z.elim)))
  rcases q1 with ⟨rfl, q⟩ | ⟨v, rfl, q⟩
  · exact wpAny_pure q
  · refine wpAny_bind (wpAny_mono q (fun _ t₁ q2 => ?_) fun _ _ z => z.elim)
    refine wpAny_bind (wpAny_mono q2 (fun _ s₂ q3 => ?_) fun _ _ z => z.elim)
    refine wpAny_bind (wpAny_mono q3 (fun ok s₃ q4 => ?_) fun _ _ z => z.elim)
    cases ok with
    | false =>
      have q5 : ∃ m, m < n ∧ Iv m s₃ := q4
      exact wpAny_pure ⟨rfl, q5⟩
    | true =>
      refine wpAny_bind (wpAny_bind (wpAny_mono q4 (fun x s₄ q5 => ?_) fun _ _ z => z.elim))
      exact wpAny_bind (wpAny_mono q5 (fun _ s₅ q6 => wpAny_pure (wpAny_pure ⟨rfl, q6⟩)) fun _ _ z => z.elim)
/-- an object that stands there untracked is taken in -/
theorem HOk.adopt {P : Program} {w : World} {H : Hp} {h : Heap} {a : Addr} {o : HO} (x : HOk P w H h) (hn : H a = none) (new : ObjOk P w (upd H a o) h a o) : HOk P w (upd H a o) h := fun b u e => by
  by_cases hb : b = a
  · subst hb
    rw [upd_same] at e
    cases e
    exact new
  · rw [upd_ne hb] at e
    exact (x b u e).stay (fun _ _ _ q => q) (fun c q => by rw [upd_ne (ne_of_none q hn)]; exact q) fun c xs q => by rw [upd_ne (ne_of_none q hn)]; exact q
section
variable {X : Cx} {elt tg iter : Expr} {ifs : List Expr} {scope : Scope} {xs : List Str} {pos : Pos} {g : TG} {tt : TT} {te : TE}
theorem blk_ok {pins : List (Addr × Obj)} {σ : St} {H : Hp} {s : Shared} {C : Addr} {fp : List Addr} (I : Inv X pins σ H s) (K : CompOk scope xs X.env.scope X.N) (hC : s.heap.objs.size ≤ C) (hf : ∀ b ∈ fp, FpOk X pins H b) (hfl : ∀ b ∈ fp, b < s.heap.objs.size) :
    (blk X scope xs (clFold X.env scope.names []) C s H fp).Ok := by
  have hcl : ∀ y ∈ scope.names, y.2 = .free → (X.env.cells.lookup y.1).isSome = true := fun y hy hk => by
    obtain ⟨c, hc⟩ := I.ok.has y.1 (K.free y hy hk)
    rw [hc]; rfl
  have look : ∀ x c, (clFold X.env scope.names []).lookup x = some c → X.env.cells.lookup x = some c := fun x c e => clFold_look scope.names [] hcl (fun y d z => by cases z) e
  refine ⟨I.ok.mod, K.kind, I.ok.glob, I.ok.blt, hC, fun x y c h1 h2 => I.ok.inj x y c (look x c h1) (look y c h2), fun x hx => ?_, fun x c z => Bool.noConfusion z, I.ok.hd, I.ok.frames, .inl rfl, fun b hb => ⟨Nat.ne_of_lt (Nat.lt_of_lt_of_le (hfl b hb) hC), fun x c e => (hf b hb).2.2.2.2.1 x c (look x c e)⟩,
    I.bs, Nat.le_trans I.ok.bsz I.sz, fun b o e hb => ?_, fun b hb hm => ?_, I.stack, I.stkFree⟩
  · have hx' : (relabel scope X.env).names.lookup x = some .cell ∨ (relabel scope X.env).names.lookup x = some .free := hx
    rw [relabel_lookup] at hx'
    cases q : scope.names.lookup x with
    | none => rw [q] at hx'; rcases hx' with z | z <;> cases z
    | some k =>
      have hm := mem_of_look q
      have hk : k = .free := by
        rw [q] at hx'
        simp only [Option.map_some] at hx'
        split at hx'
        · rename_i hc
          simp only [Bool.and_eq_true] at hc
          exact eq_of_beq hc.1.1
        · rcases hx' with z | z
          · exact absurd (Option.some.inj z) (K.nocell (x, k) hm)
          · exact Option.some.inj z
      subst hk
      exact Option.isSome_iff_exists.mp (clFold_has scope.names [] hm)
  · rcases (hf b hb).2.2.2.1 with z | z
    · exact I.ok.noex b o e z
    · exact absurd (Nat.lt_of_lt_of_le (Heap.lt_size e) (Nat.le_trans I.ok.bsz z)) (Nat.lt_irrefl _)
  · rcases List.mem_cons.mp (I.stkSub b hm) with z | z
    · exact (hf b hb).2.1 z
    · exact (hf b hb).2.2.1 z
/-- the block's state at its start -/
theorem blk_inv {pins : List (Addr × Obj)} {σ : St} {H : Hp} {s : Shared} {C : Addr} {fp : List Addr} {h1 : Heap} {m1 : Str → Option Value} {tk : Nat} (I : Inv X pins σ H s) (K : CompOk scope xs X.env.scope X.N) (hC : s.heap.objs.size ≤ C) (hf : ∀ b ∈ fp, FpOk X pins H b) (hfl : ∀ b ∈ fp, b < s.heap.objs.size)
    (keep : ∀ b o, s.heap.get? b = some o → h1.get? b = some o) (hns : h1.Ns C m1) :
    Inv (blk X scope xs (clFold X.env scope.names []) C s H fp) [] (σ ++ List.replicate xs.length none) H { s with heap := h1, toks := tk } := by
  have ok := blk_ok (scope := scope) (xs := xs) I K hC hf hfl
  have hcl : ∀ y ∈ scope.names, y.2 = .free → (X.env.cells.lookup y.1).isSome = true := fun y hy hk => by
    obtain ⟨c, hc⟩ := I.ok.has y.1 (K.free y hy hk)
    rw [hc]; rfl
  have look : ∀ x c, (clFold X.env scope.names []).lookup x = some c → X.env.cells.lookup x = some c := fun x c e => clFold_look scope.names [] hcl (fun y d z => by cases z) e
  have cellK : ∀ x c v, X.env.cells.lookup x = some c → s.heap.IsCell c v → h1.IsCell c v := fun x c v _ ⟨o, ho, hd⟩ => ⟨o, keep c o ho, hd⟩
  refine ⟨ok, rfl, I.bare, Un.kept keep, ⟨m1, hns, fun i x v e1 e2 e3 => ?_⟩, fun x c e => ?_, I.hok.fresh hC, fun x c e => I.freeC x c (look x c e), fun p hp => absurd (show p ∈ ([] : List (Addr × Obj)) from hp) (by simp), I.hok.kept keep, ?_⟩
  · have hi : i < σ.length := by
      by_cases hi : i < σ.length
      · exact hi
      · rw [List.getElem?_append_right (Nat.le_of_not_lt hi), List.getElem?_replicate] at e2
        split at e2 <;> cases e2
    rw [List.getElem?_append_left hi] at e2
    have hiN : i < X.N.length := by rw [← I.len]; exact hi
    have e1' : ((X.N.map fun y => if xs.contains y = true then Str.empty else y) ++ xs)[i]? = some x := e1
    rw [List.getElem?_append_left (by rw [List.length_map]; exact hiN), List.getElem?_map] at e1'
    obtain ⟨y, hy⟩ : ∃ y, X.N[i]? = some y := ⟨X.N[i], by simp [hiN]⟩
    rw [hy] at e1'
    simp only [Option.map_some, Option.some.injEq] at e1'
    have e3' : (relabel scope X.env).names.lookup x = some .local ∨ (relabel scope X.env).names.lookup x = some .cell ∨ (relabel scope X.env).names.lookup x = some .free := e3
    rw [relabel_lookup] at e3'
    cases q : scope.names.lookup x with
    | none => rw [q] at e3'; rcases e3' with z | z | z <;> cases z
    | some k =>
      have hm := mem_of_look q
      have hxy : y = x ∧ xs.contains y ≠ true := by
        by_cases hc : xs.contains y = true
        · rw [if_pos hc] at e1'
          rw [← e1', K.empty] at q
          cases q
        · rw [if_neg hc] at e1'
          exact ⟨e1', hc⟩
      obtain ⟨rfl, hnx⟩ := hxy
      have hk : k = .free := by
        rw [q] at e3'
        simp only [Option.map_some] at e3'
        split at e3'
        · rename_i hc
          simp only [Bool.and_eq_true] at hc
          exact eq_of_beq hc.1.1
        · rcases e3' with z | z | z
          · exfalso
            rw [Option.some.inj z] at q
            exact hnx (List.contains_iff_mem.mpr (K.own y (List.mem_of_getElem? hy) q))
          · exact absurd (Option.some.inj z) (K.nocell (y, k) hm)
          · exact Option.some.inj z
      subst hk
      have ho := K.free (y, NameKind.free) hm rfl
      obtain ⟨m0, _, hl⟩ := I.loc
      obtain ⟨u, r, l⟩ := hl i y v hy e2 (.inr ho)
      refine ⟨u, r, .inr ⟨?_, ?_⟩⟩
      · show (relabel scope X.env).names.lookup y = some .cell ∨ (relabel scope X.env).names.lookup y = some .free
        rw [relabel_lookup, q]
        simp only [Option.map_some]
        split
        · exact .inl rfl
        · exact .inr rfl
      · rcases l with ⟨z, _⟩ | ⟨_, c, hc, hcell⟩
        · exfalso
          have z' : X.env.scope.names.lookup y = some .local := z
          rcases ho with h | h <;> (rw [z'] at h; cases h)
        · obtain ⟨c', hc'⟩ := Option.isSome_iff_exists.mp (clFold_has (env := X.env) scope.names [] hm)
          have := look y c' hc'
          rw [hc] at this
          cases this
          exact ⟨c, hc', cellK y c _ hc hcell⟩
  · obtain ⟨v, z⟩ := I.cell x c (look x c e)
    exact ⟨v, cellK x c v (look x c e) z⟩
  · show (σ ++ List.replicate xs.length none).length = ((X.N.map fun y => if xs.contains y = true then Str.empty else y) ++ xs).length
    rw [List.length_append, List.length_append, List.length_replicate, List.length_map, I.len]
theorem comp_loop {B : Cx} {σ : St} {n : Nat} {H : Hp} {s : Shared} {it D : Addr} {fp : List Addr} {tn : Nat → Heap → Prop} {J : It} {Q : VK} {R : Result → Shared → Prop}
    (hc : B.calm = true) (hx : B.xe = fun _ _ => False) (hpn : B.pn = []) (hg : PG B tg g) (ht : PIf B ifs tt) (he : PE B elt te)
    (I : Inv B [] (σ ++ List.replicate n none) H s) (T : Turn B.prog B.w B.K tg J fp it tn) (st : tn 0 s.heap) (hf : ∀ b ∈ fp, FpOk B [] H b) (hfD : FpOk B [] H D) (hDf : ∀ b ∈ fp, D ≠ b)
    (hD : s.heap.get? D = some { cls := .type "list", data := .seq ([] : List Value).toArray 0 }) (W : Nat → Nat → List V → Hp → Prop) (w0 : ∃ m, W 0 m [] H) (hw : CompW n J g tt te σ Q W)
    (fin : ∀ s' H' ys its k, Inv B [] (σ ++ List.replicate n none) H' s' → H' D = none → s'.heap.get? D = some { cls := .type "list", data := .seq (List.toArray its) k } → Vals ys its → ys.length ≤ sizeLine →
      (∀ p, H' p = none → Q (.ref p) (upd H' p (.lst ys))) → R (.ok .next) s') :
    codeAny (model B.prog B.w) B.A (.compLoop (.ListComp elt [⟨tg, iter, ifs, 0⟩] scope pos) 0 (.ref it) (.ref D) B.env) R s := by
  obtain ⟨m0, w0⟩ := w0
  have no : ∀ e t, B.xe e t → False := fun e t z => by rw [hx] at z; exact z
  refine compLoop_any (fun q s' => ∃ i H' ys its k, Inv B [] (σ ++ List.replicate n none) H' s' ∧ tn i s'.heap ∧ (∀ b ∈ fp, H' b = none) ∧ H' D = none ∧ s'.heap.get? D = some { cls := .type "list", data := .seq (List.toArray its) k } ∧ Vals ys its ∧ W i q ys H') ?_ m0
    ⟨0, H, [], [], 0, I, st, fun b hb => (hf b hb).1, hfD.1, hD, .nil, w0⟩
  rintro q s' ⟨i, H', ys, its, k, I', st', fr', hDn, hDo, rv, w'⟩
  have fD : ∀ {H2 : Hp}, H2 D = none → FpOk B [] H2 D := fun z => ⟨z, hfD.2⟩
  have Ip : Inv B [(D, { cls := .type "list", data := .seq (List.toArray its) k })] (σ ++ List.replicate n none) H' s' := I'.pins_of fun p hp => by
    obtain rfl := List.mem_singleton.mp hp
    exact ⟨hDo, hDn, hfD.2.1, hfD.2.2.1, fun v z => by cases z⟩
  have ff : ∀ {H2 : Hp}, (∀ b ∈ fp, H2 b = none) → ∀ b ∈ fp, FpOk B [(D, { cls := .type "list", data := .seq (List.toArray its) k })] H2 b := fun z b hb => by
    obtain ⟨_, f1, f2, f3, f4, _⟩ := hf b hb
    refine ⟨z b hb, f1, f2, f3, f4, fun p hp => ?_⟩
    rw [hpn] at hp
    obtain rfl := List.mem_singleton.mp hp
    exact hDf b hb
  rcases hw i q ys H' w' with ⟨stop, hz, qq⟩ | ⟨go, hz, N, hN, step⟩
  · refine wpAny_mono (T.done B rfl rfl rfl hc i _ s' _ H' (fun _ _ => False) Ip (ff fr') st' stop) (fun r s1 ⟨hr, I1⟩ => .inl ⟨hr, ?_⟩) fun _ _ z => z
    have pD := I1.pin _ (List.mem_append_right _ (List.mem_singleton.mpr rfl))
    exact fin s1 H' ys its k (I1.pins_of fun p hp => nomatch hp) hDn pD.1 rv hz qq
  · refine wpAny_mono (T.item B rfl rfl rfl hc i _ s' _ H' (fun _ _ => False) Ip (ff fr') st' go) (fun r s1 ⟨u, hr, h4⟩ => .inr ⟨u, hr, wpAny_mono h4 (fun _ s2 ⟨x, H2, I2, r2, y2, st2, fr2⟩ => ?_) fun _ _ z => z⟩) fun _ _ z => z
    have I2' := I2.pinned (ff fr2) (T.obj _ _ st2)
    refine wpAny_mono (hg _ s2 _ H2 x u _ I2' r2 (step x H2 y2)) (fun _ s3 ⟨σ3, H3, I3, tk3, q3⟩ => ?_) no
    refine wpAny_mono (ht _ s3 σ3 H3 _ I3 q3) (fun ok s4 ⟨H4, I4, q4⟩ => ?_) no
    have wk : ∀ {H9 : Hp} {s9 : Shared}, Inv B ([(D, { cls := .type "list", data := .seq (List.toArray its) k })] ++ pinsAt fp s2.heap) σ3 H9 s9 → Inv B [] (σ ++ List.replicate n none) H9 s9 := fun {H9 s9} I9 => by
      refine (I9.pins_of (pins' := []) fun p hp => nomatch hp).weak ?_ fun j v e => ?_
      · rw [I.len, I9.len]
      · have hj : j < σ.length := by
          by_cases hj : j < σ.length
          · exact hj
          · rw [List.getElem?_append_right (Nat.le_of_not_lt hj), List.getElem?_replicate] at e
            split at e <;> cases e
        rw [List.getElem?_append_left hj, ← tk3, List.getElem?_take_of_lt hj] at e
        exact e
    have pinD : ∀ {H9 : Hp} {s9 : Shared}, Inv B ([(D, { cls := .type "list", data := .seq (List.toArray its) k })] ++ pinsAt fp s2.heap) σ3 H9 s9 → s9.heap.get? D = some { cls := .type "list", data := .seq (List.toArray its) k } ∧ H9 D = none := fun I9 =>
      let z := I9.pin (D, _) (List.mem_append_right _ (List.mem_append_left _ (List.mem_singleton.mpr rfl)))
      ⟨z.1, z.2.1⟩
    have pinF : ∀ {H9 : Hp} {s9 : Shared}, Inv B ([(D, { cls := .type "list", data := .seq (List.toArray its) k })] ++ pinsAt fp s2.heap) σ3 H9 s9 → tn (i + 1) s9.heap ∧ ∀ b ∈ fp, H9 b = none := fun I9 =>
      ⟨T.keep _ _ _ st2 fun b hb o e => (I9.pin (b, o) (List.mem_append_right _ (List.mem_append_right _ (mem_pinsAt hb e)))).1, fun b hb => by
        obtain ⟨o, e, _⟩ := T.obj _ _ st2 b hb
        exact (I9.pin (b, o) (List.mem_append_right _ (List.mem_append_right _ (mem_pinsAt hb e)))).2.1⟩
    cases ok with
    | false =>
      obtain ⟨m', hm, w4⟩ := hN ys H4 (show N ys H4 from q4)
      exact ⟨m', hm, i + 1, H4, ys, its, k, wk I4, (pinF I4).1, (pinF I4).2, (pinD I4).2, (pinD I4).1, rv, w4⟩
    | true =>
      rw [if_pos rfl]
      refine wpAny_mono (he _ s4 σ3 H4 _ I4 q4) (fun v s5 ⟨y, H5, I5, r5, n5⟩ => ?_) no
      obtain ⟨m', hm, w5⟩ := hN _ H5 n5
      obtain ⟨e5, d5⟩ := pinD I5
      have hlen := rv.length
      refine call_meets F.slot_list_append ⟨_, e5, rfl⟩ F.entry_list_append (F.args_list_append_2 _ _) (PySem.list_append D its.toArray k v (by rw [List.size_toArray]; omega)) ⟨e5, ?_⟩
      have up := PySem.IsL.update e5 (·.push v)
      have up2 : ∃ k2, (s5.heap.update D (Obj.mapSeq (·.push v))).get? D = some { cls := .type "list", data := .seq (List.toArray (its ++ [v])) k2 } := by
        rw [show its.toArray.push v = List.toArray (its ++ [v]) by simp] at up
        exact ⟨_, up⟩
      obtain ⟨k2, up2⟩ := up2
      have oth : ∀ b o, b ≠ D → s5.heap.get? b = some o → (s5.heap.update D (Obj.mapSeq (·.push v))).get? b = some o := fun b o hb e => (Heap.get?_update_other s5.heap (Obj.mapSeq (·.push v)) (Ne.symm hb)).trans e
      obtain ⟨g0, g1, g2, g3, g4, g5⟩ := fD (H2 := H5) d5
      have I6 := (wk I5).turned (t' := s5.toks) oth g0 g1 g3 g4 g5
      refine ⟨m', hm, i + 1, H5, ys ++ [y], its ++ [v], k2, I6, ?_, (pinF I5).2, d5, up2, rv.append (.cons r5 .nil), w5⟩
      exact T.keep _ _ _ (pinF I5).1 fun b hb o e => oth b o (Ne.symm (hDf b hb)) e
theorem comp_block {pins : List (Addr × Obj)} {σ : St} {H : Hp} {s : Shared} {it : Addr} {fp : List Addr} {tn : Nat → Heap → Prop} {J : It} {Q : VK} {E : Value → Shared → Prop} {RR : Value → Addr → Result → Shared → Prop}
    (hc : X.calm = true) (K : CompOk scope xs X.env.scope X.N) (hg : ∀ cl C s₀ H₀ ex, PG (blk X scope xs cl C s₀ H₀ ex) tg g) (ht : ∀ cl C s₀ H₀ ex, PIf (blk X scope xs cl C s₀ H₀ ex) ifs tt) (he : ∀ cl C s₀ H₀ ex, PE (blk X scope xs cl C s₀ H₀ ex) elt te)
    (I : Inv X pins σ H s) (T : Turn X.prog X.w X.K tg J fp it tn) (st : tn 0 s.heap) (hf : ∀ b ∈ fp, FpOk X pins H b) (W : Nat → Nat → List V → Hp → Prop) (w0 : ∃ m, W 0 m [] H) (hw : CompW xs.length J g tt te σ Q W)
    (fin : ∀ D C s' H' ys oC m, s'.heap.get? C = some oC → s'.heap.Ns C m → Inv X (pins ++ [(C, oC)]) σ (upd H' D (.lst ys)) s' → FpOk X pins (upd H' D (.lst ys)) C → Q (.ref D) (upd H' D (.lst ys)) → RR (.ref D) C (.ok .next) s') :
    wpAny (model X.prog X.w) X.A (newList []) (fun acc s₃ => wpAny (model X.prog X.w) X.A (newFunctionEnv scope X.env.globals (clFold X.env scope.names []) [] X.env.qual none .none (some X.env)) (fun cenv s₄ =>
      codeAny (model X.prog X.w) X.A (.compStart (.ListComp elt [⟨tg, iter, ifs, 0⟩] scope pos) 0 (.ref it) acc { cenv with scope := relabel scope X.env }) (RR acc cenv.locals) s₄) E s₃) E s := by
  have hfl : ∀ b ∈ fp, b < s.heap.objs.size := fun b hb => by
    obtain ⟨o, e, _⟩ := T.obj 0 _ st b hb
    exact Heap.lt_size e
  refine wpAny_newObj_type (wpAny_newFunctionEnv K.nocell (by intro y hy; simp at hy) (fun h₁ hns hsb => ?_) K.kind)
  dsimp only at hns hsb ⊢
  generalize hP : s.heap.push { cls := .type "list", dict := none, data := .seq ([] : List Value).toArray } = P at hns hsb ⊢
  have hCs : P.objs.size = s.heap.objs.size + 1 := by rw [← hP, Heap.size_push]
  have hDC : s.heap.objs.size ≠ P.objs.size := by rw [hCs]; exact Nat.ne_of_lt (Nat.lt_succ_self _)
  have hC : s.heap.objs.size ≤ P.objs.size := by rw [hCs]; exact Nat.le_succ _
  have keep : ∀ b o, s.heap.get? b = some o → h₁.get? b = some o := fun b o e => by
    refine hsb.extBut b o ?_ (Heap.get?_push_of_some _ (hP ▸ Heap.get?_push_of_some _ e))
    have := Heap.lt_size e
    exact Nat.ne_of_lt (Nat.lt_of_lt_of_le this hC)
  have hD : h₁.get? s.heap.objs.size = some { cls := .type "list", data := .seq ([] : List Value).toArray 0 } := hsb.extBut _ _ hDC (Heap.get?_push_of_some _ (hP ▸ Heap.get?_push_size _ rfl))
  have IB := blk_inv (scope := scope) (xs := xs) (tk := s.toks + ([] : List (Str × Value)).length) I K hC hf hfl keep hns
  have fC : ∀ {H2 : Hp}, H2 P.objs.size = none → FpOk X pins H2 P.objs.size := fun z => I.fpOk hC z
  have look : ∀ x c, (clFold X.env scope.names []).lookup x = some c → X.env.cells.lookup x = some c := fun x c e => clFold_look scope.names [] (fun y hy hk => by
    obtain ⟨c, hc⟩ := I.ok.has y.1 (K.free y hy hk)
    rw [hc]; rfl) (fun y d z => by cases z) e
  have nstk : ∀ b, s.heap.objs.size ≤ b → b ∉ frs X.stack := fun b hb hm => by
    rcases List.mem_cons.mp (I.stkSub b hm) with z | z
    · exact absurd (Nat.lt_of_lt_of_le I.lt (z ▸ hb)) (Nat.lt_irrefl _)
    · exact I.nofs hb z
  have loop : codeAny (model X.prog X.w) X.A (.compLoop (.ListComp elt [⟨tg, iter, ifs, 0⟩] scope pos) 0 (.ref it) (.ref s.heap.objs.size) (compEnvC scope (clFold X.env scope.names []) P.objs.size X.env))
      (RR (.ref s.heap.objs.size) P.objs.size) { s with heap := h₁, toks := s.toks + ([] : List (Str × Value)).length } := by
    refine comp_loop (B := blk X scope xs (clFold X.env scope.names []) P.objs.size s H fp) (D := s.heap.objs.size) hc rfl rfl (hg _ _ _ _ _) (ht _ _ _ _ _) (he _ _ _ _ _) IB T (T.keep _ _ _ st fun b _ o e => keep b o e) (fun b hb => ?_) ?_ (fun b hb => Nat.ne_of_gt (hfl b hb)) hD W w0 hw ?_
    · refine ⟨(hf b hb).1, Nat.ne_of_lt (Nat.lt_of_lt_of_le (hfl b hb) hC), ?_, .inl hb, fun x c e => (hf b hb).2.2.2.2.1 x c (look x c e), fun p hp => absurd (show p ∈ ([] : List (Addr × Obj)) from hp) (by simp)⟩
      intro hm
      rcases List.mem_cons.mp (I.stkSub b hm) with z | z
      · exact (hf b hb).2.1 z
      · exact (hf b hb).2.2.1 z
    · refine ⟨I.hok.fresh (Nat.le_refl _), hDC, nstk _ (Nat.le_refl _), .inr (Nat.le_refl _), fun x c e z => ?_, fun p hp => absurd (show p ∈ ([] : List (Addr × Obj)) from hp) (by simp)⟩
      obtain ⟨v, q⟩ := I.cell x c (look x c e)
      exact absurd q.lt (by rw [z]; exact Nat.lt_irrefl _)
    · intro s' H' ys its k I' hDn hDo rv hz qq
      obtain ⟨m, hnC, _⟩ := id I'.loc
      obtain ⟨oC, es, ep, hoC, hdC, _⟩ := id hnC
      have u := I'.base
      have low : ∀ b o, s.heap.get? b = some o → b ≠ s.heap.objs.size := fun b o e => Nat.ne_of_lt (Heap.lt_size e)
      have lowH : ∀ b o, H b = some o → b ≠ s.heap.objs.size := fun b o e => ne_of_none e (I.hok.fresh (Nat.le_refl _))
      have u' : Un (frs X.stack) fp H (upd H' s.heap.objs.size (.lst ys)) s.heap s'.heap :=
        ⟨u.keep, u.slot, fun b o e n hx => by rw [upd_ne (low b o e)]; exact u.free b o e n hx, u.there, fun b ts e => by rw [upd_ne (lowH b _ e)]; exact u.tups b ts e,
          fun b o v e => by rw [upd_ne (lowH b _ e)]; exact u.frzs b o v e, fun b ps e => by rw [upd_ne (lowH b _ e)]; exact u.tbls b ps e⟩
      have hok' := HOk.adopt (o := .lst ys) I'.hok hDn ⟨hz, its, k, rv, hDo⟩
      have J1 : Inv X pins σ (upd H' s.heap.objs.size (.lst ys)) s' := I.call' (ch := fp) I'.os u' hok' I'.bare fun b hb => ⟨(hf b hb).2.2.2.1, (hf b hb).2.1, (hf b hb).2.2.2.2.1, (hf b hb).2.2.2.2.2⟩
      have hCn : upd H' s.heap.objs.size (.lst ys) P.objs.size = none := by rw [upd_ne (Ne.symm hDC)]; exact I'.free
      have fc := fC hCn
      refine fin _ _ s' H' ys oC m hoC hnC (J1.pins_of fun p hp => ?_) fc (qq _ hDn)
      rcases List.mem_append.mp hp with z | z
      · exact J1.pin p (List.mem_append_right _ z)
      · obtain rfl := List.mem_singleton.mp z
        exact ⟨hoC, hCn, fc.2.1, fc.2.2.1, fun v z => by rw [hdC] at z; cases z⟩
  exact codeAny_compStart_list loop (T.self _ 0 _ _ _ (T.keep _ _ _ st fun b _ o e => keep b o e) loop)
/-- [elt for tg in iter if ..] -/
theorem pe_comp {wi : TI} (hc : X.calm = true) (K : CompOk scope xs X.env.scope X.N) (hi : PI X tg iter wi) (hg : ∀ cl C s₀ H₀ ex, PG (blk X scope xs cl C s₀ H₀ ex) tg g) (ht : ∀ cl C s₀ H₀ ex, PIf (blk X scope xs cl C s₀ H₀ ex) ifs tt) (he : ∀ cl C s₀ H₀ ex, PE (blk X scope xs cl C s₀ H₀ ex) elt te)
    (hs : ∀ x, foldedSetIterable iter X.env x = pure x := by intro _; rfl) : PE X (.ListComp elt [⟨tg, iter, ifs, 0⟩] scope pos) (tComp xs.length wi g tt te) := by
  intro pins s σ H Q I h
  have hcl : ∀ y ∈ scope.names, y.2 = .free → (X.env.cells.lookup y.1).isSome = true := fun y hy hk => by
    obtain ⟨c, hc⟩ := I.ok.has y.1 (K.free y hy hk)
    rw [hc]; rfl
  rw [eval_ListComp]
  refine wpAny_comprehension_free (use := none) rfl hs (closure_eq hcl) K.kind K.loc (thn (hi pins s σ H _ I h) fun v s1 h1 => thn h1 fun itv s2 h2 => ?_)
  obtain ⟨it, fp, tn, J, H2, e, I2, T, st2, f2, W, w0, hw⟩ := h2
  subst e
  refine comp_block (RR := fun acc C => compPost (model X.prog X.w) X.A X.xe none (EP X pins σ Q) acc C) hc K hg ht he I2 T st2 f2 W w0 hw ?_
  intro D C s' H' ys oC m hoC hnC J fc q
  refine ⟨m, hnC, fun h' hsb => ⟨.ref D, _, ?_, rfl, q⟩⟩
  exact (J.pins_of (pins' := pins) fun p hp => J.pin p (List.mem_append_right _ (List.mem_append_left _ hp))).turned (t' := s'.toks) (fun b o hb e => hsb.extBut b o hb e) fc.1 fc.2.1 fc.2.2.2.1 fc.2.2.2.2.1 fc.2.2.2.2.2
/-- name = [elt for tg in iter if ..], the name a plain local of the def -/
theorem ps_comp {wi : TI} {i : Nat} {y : Str} {py spos : Pos} (hN : X.N.Nodup) (hi' : X.N[i]? = some y) (hy : X.env.scope.names.lookup y = some .local) (hc : X.calm = true) (K : CompOk scope xs X.env.scope X.N) (hi : PI X tg iter wi)
    (hg : ∀ cl C s₀ H₀ ex, PG (blk X scope xs cl C s₀ H₀ ex) tg g) (ht : ∀ cl C s₀ H₀ ex, PIf (blk X scope xs cl C s₀ H₀ ex) ifs tt) (he : ∀ cl C s₀ H₀ ex, PE (blk X scope xs cl C s₀ H₀ ex) elt te)
    (hsw : swapsWith (.ListComp elt [⟨tg, iter, ifs, 0⟩] scope pos) (some (.Name y py)) spos.line X.env = pure true) (hs : ∀ x, foldedSetIterable iter X.env x = pure x := by intro _; rfl) :
    PS X (.Assign [.Name y py] (.ListComp elt [⟨tg, iter, ifs, 0⟩] scope pos) spos) (tAsg (tComp xs.length wi g tt te) (gName i)) := by
  intro pins s σ H D0 I h
  have hcl : ∀ y ∈ scope.names, y.2 = .free → (X.env.cells.lookup y.1).isSome = true := fun y hy hk => by
    obtain ⟨c, hc⟩ := I.ok.has y.1 (K.free y hy hk)
    rw [hc]; rfl
  rw [exec_Assign_Name_used _ _ _ _ hsw]
  refine wpAny_bind (wpAny_standAt (wpAny_bind ?_))
  show wpAny _ _ (comprehension (.ListComp elt [⟨tg, iter, ifs, 0⟩] scope pos) scope X.env _ (newList []) false (eval iter X.env) (some (assign (.Name y py) X.env)) >>= fun _ => pure ()) _ _ s
  refine wpAny_bind (wpAny_mono (wpAny_comprehension_free (use := some (assign (.Name y py) X.env)) (Q := fun _ s' => SP X pins D0 .next s') rfl hs (closure_eq hcl) K.kind K.loc (thn (hi pins s σ H _ I h) fun v s1 h1 => thn h1 fun itv s2 h2 => ?_)) (fun _ s' hq => wpAny_pure (wpAny_pure hq)) fun _ _ z => z)
  obtain ⟨it, fp, tn, J, H2, e, I2, T, st2, f2, W, w0, hw⟩ := h2
  subst e
  refine comp_block (RR := fun acc C => compPost (model X.prog X.w) X.A X.xe (some (assign (.Name y py) X.env)) (fun _ s' => SP X pins D0 .next s') acc C) hc K hg ht he I2 T st2 f2 W w0 hw ?_
  intro D C s' H' ys oC m hoC hnC J fc q
  show wpAny _ _ (assign (.Name y py) X.env (.ref D)) _ _ s'
  refine wpAny_assign_Name (store_ok J hN hi' (.inl hy) (show RelV (.ref D) (.ref D) from rfl) (fun s2 I3 => ?_) (.inr hy))
  have pC := I3.pin (C, oC) (List.mem_append_right _ (List.mem_append_right _ (List.mem_singleton.mpr rfl)))
  obtain ⟨o, es, ep, ho, r⟩ := hnC
  rw [hoC] at ho
  cases ho
  refine ⟨m, ⟨oC, es, ep, pC.1, r⟩, fun h' hsb => ⟨_, _, ?_, q⟩⟩
  exact (I3.pins_of (pins' := pins) fun p hp => I3.pin p (List.mem_append_right _ (List.mem_append_left _ hp))).turned (t' := s2.toks) (fun b o hb e => hsb.extBut b o hb e) fc.1 fc.2.1 fc.2.2.2.1 fc.2.2.2.2.1 fc.2.2.2.2.2
end
end KS
end
section
set_option Elab.async false
set_option maxRecDepth 100000
set_option maxHeartbeats 4000000
set_option linter.all false
namespace KS
open PySem PySem.Spec L2
open PyProof.Rows hiding St
section
variable {X : Cx} {elt tg iter : Expr} {ifs : List Expr} {scope : Scope} {x : Str} {pos : Pos} {g : TG} {tt : TT} {te : TE}
end
end KS
end
section
set_option maxRecDepth 100000
set_option maxHeartbeats 4000000
namespace KS
open PySem PySem.Spec L2
open PyProof.Rows hiding St
section
variable {X : Cx}
theorem call_rangeV : CallR X (.type "range") (fun xs H Q => ∃ j : Int, xs = [.int j] ∧ ∀ p, H p = none → Q (.ref p) (upd H p (.rng 0 j))) := by
  intro pins s σ H xs us Q I r h
  obtain ⟨j, rfl, q⟩ := h
  obtain ⟨u, rfl, t, rfl⟩ := vals1 r
  refine call_range_1 ⟨.ref s.heap.objs.size, _, I.laid (o := .rng 0 j) (fun b o e => Heap.get?_push_of_some _ e) (Nat.le_refl _) ?_, rfl, q _ (I.hok.fresh (Nat.le_refl _))⟩
  exact ⟨_, _, _, Heap.get?_push_size _ rfl⟩
theorem vals_range : ∀ {n : Nat} {us : List Value}, us.length = n → (∀ (j : Nat) (v : Value), us[j]? = some v → ∃ t, v = Value.int ((j : Nat) : Int) t) → Vals ((List.range n).map fun i : Nat => V.int (i : Int)) us := by
  intro n us hl h
  have key : ∀ (k : Nat) (us : List Value), (∀ (j : Nat) (v : Value), us[j]? = some v → ∃ t, v = Value.int (((k + j : Nat)) : Int) t) → Vals ((List.range us.length).map fun i : Nat => V.int ((k + i : Nat) : Int)) us := by
    intro k us
    induction us generalizing k with
    | nil => intro _; exact .nil
    | cons u us ih =>
      intro h
      rw [List.length_cons, List.range_succ_eq_map, List.map_cons, List.map_map]
      refine .cons (h 0 u rfl) ?_
      have := ih (k + 1) fun j v e => by
        obtain ⟨t, e'⟩ := h (j + 1) v (by simpa using e)
        exact ⟨t, by rw [e']; congr 1; omega⟩
      have e2 : (fun i : Nat => V.int ((k + 1 + i : Nat) : Int)) = (fun i : Nat => V.int ((k + i : Nat) : Int)) ∘ Nat.succ := by
        funext i
        show V.int _ = V.int _
        congr 1
        simp only [Nat.succ_eq_add_one]
        omega
      rw [← e2]
      exact this
  have := key 0 us (fun j v e => by rw [Nat.zero_add]; exact h j v e)
  rw [hl] at this
  simpa using this
theorem call_listR (hc : X.calm = true) : CallR X (.type "list") (fun xs H Q => ∃ (p : Addr) (n : Nat), xs = [.ref p] ∧ H p = some (.rng 0 n) ∧ n ≤ 2 ^ 20 ∧ ∀ l, H l = none → Q (.ref l) (upd H l (.lst ((List.range n).map fun i : Nat => V.int (i : Int))))) := by
  intro pins s σ H xs us Q I r h
  obtain ⟨p, n, rfl, hp, hn, q⟩ := h
  obtain ⟨u, rfl, rx⟩ := vals1 r
  cases rx
  obtain ⟨t, u, v, e⟩ := I.hok p _ hp
  refine call_list_range (n := n) (I.ok.hd hc) e (small_one (by decide) (by decide) (by omega) (by omega)) (by rw [rangeSize_one]; split <;> omega) (by omega) fun h' tk acc c kp e2 hI => ?_
  have hv : Vals ((List.range n).map fun i : Nat => V.int (i : Int)) acc.toList := vals_range (by rw [Array.length_toList]; exact hI.1) fun j w ew => by
    rw [Array.getElem?_toList] at ew
    obtain ⟨t, e⟩ := hI.2 j w ew
    exact ⟨t, by rw [e]; congr 1; omega⟩
  refine ⟨.ref s.heap.objs.size, _, I.laid (o := .lst ((List.range n).map fun i : Nat => V.int (i : Int))) kp (Nat.le_refl _) ?_, rfl, q _ (I.hok.fresh (Nat.le_refl _))⟩
  exact ⟨by rw [List.length_map, List.length_range, sizeLine_eq]; omega, acc.toList, c, hv, by simpa using e2⟩
theorem itemsAre_ints {P : Program} {w : World} : ∀ {ns : List Int} {us : List Value}, Vals (ns.map V.int) us → ItemsAre (intKind P w) ns us
  | [], _, .nil => .nil
  | n :: ns, _, .cons r t => by
    obtain ⟨tk, rfl⟩ := r
    exact .cons (by simp [intKind, Value.isInt]) (itemsAre_ints t)
theorem tup_key {P : Program} {w : World} {pins : List (Addr × Obj)} {σ : St} {H : Hp} {s : Shared} {a : Addr} {ns : List Int} (I : Inv X pins σ H s) (h : H a = some (.tup (ns.map V.int))) : IsTupleKey (intKind P w) s.heap ns a := by
  obtain ⟨its, r, ⟨o, ho, hc, n, hd⟩, _⟩ := I.tuple (SqT.of (K := X.K) h)
  exact ⟨o, its.toArray, n, ho, hc, hd, by simpa using itemsAre_ints r⟩
theorem tup_eqAt {pins : List (Addr × Obj)} {σ : St} {H : Hp} {s : Shared} {a b : Addr} {ns ms : List Int} {A : Around} (hu : A.units < cLine) (I : Inv X pins σ H s) (ha : H a = some (.tup (ns.map V.int))) (hb : H b = some (.tup (ms.map V.int))) : SeqAt.EqAt A s (.ref a) (.ref b) (decide (ns = ms)) :=
  fun P w E Q hq => wpAny_eqBool_tuple hu (tup_key (P := P) (w := w) I ha) (tup_key I hb) hq
/-- these addresses hold these tuples -/
noncomputable abbrev Tups (H : Hp) (kf : Addr → List Int) (rs : List Addr) : Prop := ∀ r ∈ rs, H r = some (.tup ((kf r).map V.int))
noncomputable def kfV (kf : Addr → List Int) : Value → List Int
  | .ref a => kf a
  | _ => []
theorem vals_refs : ∀ {rs : List Addr} {us : List Value}, Vals (rs.map V.ref) us → us = rs.map Value.ref
  | [], _, .nil => rfl
  | r :: rs, _, .cons q t => by
    have q' : _ = Value.ref r := q
    rw [q', vals_refs t]; rfl
theorem refs_vals : ∀ (rs : List Addr), Vals (rs.map V.ref) (rs.map Value.ref)
  | [] => .nil
  | r :: rs => .cons rfl (refs_vals rs)
/-- t in xs, a tuple of ints in a list of such -/
noncomputable def rInT (K : PySem.W.Frag) (neg : Bool) : R2 := fun x y H Q => ∃ (a p : Addr) (rs : List Addr) (kf : Addr → List Int), x = .ref a ∧ y = .ref p ∧ SqL K H p (rs.map V.ref) ∧ Tups H kf rs ∧ H a = some (.tup ((kf a).map V.int)) ∧
  Q (.bl (if neg then !decide (kf a ∈ rs.map kf) else decide (kf a ∈ rs.map kf))) H
theorem any_refs (kf : Addr → List Int) (k : List Int) (rs : List Addr) : (rs.map Value.ref).toArray.any (fun u => decide (kfV kf u = k)) = decide (k ∈ rs.map kf) := by
  rw [List.any_toArray, List.any_map]
  rw [Bool.eq_iff_iff]
  simp only [List.any_eq_true, List.mem_map, Function.comp_apply, kfV, decide_eq_true_eq]
  exact ⟨fun ⟨x, h1, h2⟩ => ⟨x, h1, of_decide_eq_true h2⟩, fun ⟨x, h1, h2⟩ => ⟨x, h1, decide_eq_true h2⟩⟩
theorem op_inT (hu : X.A.units + 1 < cLine) : OpR X (compareOp .In) (rInT X.K false) := by
  intro pins s σ H x y v u Q I rx ry h
  obtain ⟨a, p, rs, kf, rfl, rfl, hl, ht, ha, q⟩ := h
  cases rx
  cases ry
  obtain ⟨its, r, pl, _⟩ := I.list hl
  obtain rfl := vals_refs r
  refine SeqAt.in_listAt (fun u => decide (kfV kf u = kf a)) pl.isList (fun w hw => ?_) ⟨.bl _, H, I, rfl, by rw [any_refs]; exact q⟩
  obtain ⟨b, hb, rfl⟩ := List.mem_map.mp (show w ∈ rs.map Value.ref by simpa using hw)
  exact tup_eqAt (A := X.A.in1) (by show X.A.units + 1 < cLine; exact hu) I (ht b hb) ha
/-- t != u, tuples of ints -/
theorem op_neT (hu : X.A.units + 1 < cLine) : OpR X (compareOp .NotEq) (fun x y H Q => ∃ (a b : Addr) (ns ms : List Int), x = .ref a ∧ y = .ref b ∧ H a = some (.tup (ns.map V.int)) ∧ H b = some (.tup (ms.map V.int)) ∧ ns.length = ms.length ∧ Q (.bl (!decide (ns = ms))) H) := by
  intro pins s σ H x y v u Q I rx ry h
  obtain ⟨a, b, ns, ms, rfl, rfl, ha, hb, hlen, q⟩ := h
  cases rx
  cases ry
  obtain ⟨its, r, pa, _⟩ := I.tuple (SqT.of (K := X.K) ha)
  obtain ⟨its2, r2, pb, _⟩ := I.tuple (SqT.of (K := X.K) hb)
  have l1 := r.length
  have l2 := r2.length
  rw [List.length_map] at l1 l2
  have hv : ∀ {ns : List Int} {us : List Value}, Vals (ns.map V.int) us → ∀ j (hj : j < us.length), ∃ t, us[j] = .int (ns.getD j 0) t := by
    intro ns us r j hj
    obtain ⟨i, hi⟩ : ∃ i, ns[j]? = some i := by
      have := r.length
      rw [List.length_map] at this
      exact ⟨ns[j], by simp⟩
    obtain ⟨w, hw, t, rfl⟩ := r.get (i := j) (x := .int i) (by rw [List.getElem?_map, hi]; rfl)
    rw [List.getElem?_eq_getElem hj] at hw
    exact ⟨t, by rw [Option.some.inj hw, List.getD_eq_getElem?_getD, hi]; rfl⟩
  refine SeqAt.RcNeAt.tuples (e := fun j => decide (ns.getD j 0 = ms.getD j 0)) (show s.heap.IsTuple a its.toArray from pa) (show s.heap.IsTuple b its2.toArray from pb) (by omega) (fun j h1 h2 => ?_) _ _ _ _ ⟨.bl _, H, I, rfl, ?_⟩
  · obtain ⟨t, e1⟩ := hv r j (by simpa using h1)
    obtain ⟨t', e2⟩ := hv r2 j (by simpa using h2)
    simp only [List.getElem_toArray]
    rw [e1, e2]
    have := SeqAt.EqAt.int_int (A := X.A.in1) (s := s) (ns.getD j 0) t (ms.getD j 0) t'
    rw [Bool.beq_eq_decide_eq] at this
    exact this
  · have e : (!((List.range (min its.toArray.size its2.toArray.size)).all (fun j => decide (ns.getD j 0 = ms.getD j 0)) && its.toArray.size == its2.toArray.size)) = !decide (ns = ms) := by
      congr 1
      rw [List.size_toArray, List.size_toArray, ← l1, ← l2, ← hlen, Nat.min_self]
      simp only [beq_self_eq_true, Bool.and_true]
      rw [Bool.eq_iff_iff]
      simp only [List.all_eq_true, List.mem_range, decide_eq_true_eq]
      constructor
      · intro h
        refine List.ext_getElem hlen fun j h1 h2 => ?_
        have := h j h1
        rw [List.getD_eq_getElem?_getD, List.getD_eq_getElem?_getD, List.getElem?_eq_getElem h1, List.getElem?_eq_getElem h2] at this
        exact this
      · rintro rfl j _
        rfl
    rw [e]
    exact q
/-- xs != ys, two lists of the very same things -/
theorem op_neSame (hu : X.A.units + 1 < cLine) : OpR X (compareOp .NotEq) (fun x y H Q => ∃ (a b : Addr) (rs : List Addr), x = .ref a ∧ y = .ref b ∧ SqL X.K H a (rs.map V.ref) ∧ SqL X.K H b (rs.map V.ref) ∧ Q (.bl false) H) := by
  intro pins s σ H x y v u Q I rx ry h
  obtain ⟨a, b, rs, rfl, rfl, ha, hb, q⟩ := h
  cases rx
  cases ry
  obtain ⟨its, r, pa, _⟩ := I.list ha
  obtain ⟨its2, r2, pb, _⟩ := I.list hb
  obtain rfl := vals_refs r
  obtain rfl := vals_refs r2
  refine SeqAt.RcNeAt.lists (e := fun _ => true) pa.isList pb.isList rfl (by omega) (fun j h1 h2 => SeqAt.EqAt.same _) _ _ _ _ ⟨.bl false, H, I, ?_, q⟩
  show Value.bool _ = Value.bool false
  simp
noncomputable def SetP (w : World) (kf : Addr → List Int) (rs : List Addr) (S : Addr) : Heap → Prop := fun h => ∃ es, TS w (kfV kf) (rs.map Value.ref) (rs.map Value.ref) h S es
theorem kofs {pins : List (Addr × Obj)} {σ : St} {H : Hp} {s : Shared} {kf : Addr → List Int} {rs : List Addr} (I : Inv X pins σ H s) (ht : Tups H kf rs) : ∀ v ∈ rs.map Value.ref, Kof X.prog X.w s.heap v (kfV kf v) := fun v hv => by
  obtain ⟨r, hr, rfl⟩ := List.mem_map.mp hv
  exact ⟨r, rfl, tup_key I (ht r hr)⟩
theorem call_setT (hc : X.calm = true) (hu : X.A.units + 8 < cLine) : CallR X (.type "set") (fun xs H Q => ∃ (l : Addr) (rs : List Addr) (kf : Addr → List Int), xs = [.ref l] ∧ SqL X.K H l (rs.map V.ref) ∧ rs.length ≤ 76 ∧ Tups H kf rs ∧ ∀ S, H S = none → Q (.ref S) (upd H S (.ext (SetP X.w kf rs S)))) := by
  intro pins s σ H xs us Q I r h
  obtain ⟨l, rs, kf, rfl, hl, hn, ht, q⟩ := h
  obtain ⟨u, rfl, rx⟩ := vals1 r
  cases rx
  obtain ⟨its, r', pl, _⟩ := I.list hl
  obtain rfl := vals_refs r'
  refine call_set_tup (kf := kfV kf) (I.ok.hd hc) hu pl.isList (by simpa using kofs I ht) (by simpa using hn) fun h' tk es S' kp => ?_
  rw [show (rs.map Value.ref).toArray.toList = rs.map Value.ref by simp] at S'
  refine ⟨.ref s.heap.objs.size, _, I.laid (o := .ext (SetP X.w kf rs s.heap.objs.size)) kp (Nat.le_refl _) ?_, rfl, q _ (I.hok.fresh (Nat.le_refl _))⟩
  refine ⟨⟨es, S'⟩, ?_, fun h1 h2 ⟨es, z⟩ k => ⟨es, z.at k⟩⟩
  obtain ⟨⟨o, _, _, ho, _⟩, _⟩ := S'
  exact ⟨o, ho⟩
theorem ObjOk.there {P : Program} {w : World} {H : Hp} {h : Heap} {a : Addr} {o : HO} (x : ObjOk P w H h a o) : ∃ ob, h.get? a = some ob := by
  cases o with
  | lst xs => obtain ⟨_, _, _, _, e⟩ := x; exact ⟨_, e⟩
  | tup xs => obtain ⟨_, _, _, _, e, _⟩ := x; exact ⟨_, e⟩
  | dK kvs => obtain ⟨_, _, _, _, o, _, _, e, _⟩ := x; exact ⟨_, e⟩
  | dT kvs => obtain ⟨_, _, _, _, o, _, _, e, _⟩ := x; exact ⟨_, e⟩
  | set S n => obtain ⟨o, _, _, _, e, _⟩ := x; exact ⟨_, e⟩
  | ins C dx fs => obtain ⟨_, _, _, e, _⟩ := x; exact ⟨_, e⟩
  | own y => obtain ⟨_, e⟩ := x; exact ⟨_, e⟩
  | xd fs => obtain ⟨_, ⟨_, _, _, e, _⟩, _⟩ := x; exact ⟨_, e⟩
  | rng lo hi => obtain ⟨_, _, _, e⟩ := x; exact ⟨_, e⟩
  | frz ob u => obtain ⟨e, _⟩ := x; exact ⟨_, e⟩
  | tbl ps => exact ⟨_, (show h.get? a = some _ from x)⟩
  | met f y => exact ⟨_, (show h.get? a = some _ from x)⟩
  | ext φ => obtain ⟨_, ⟨_, e⟩, _⟩ := x; exact ⟨_, e⟩
theorem Inv.laidN {pins : List (Addr × Obj)} {σ : St} {H : Hp} {s : Shared} {h' : Heap} {a : Addr} {o : HO} {t' : Nat} (I : L2.Inv X pins σ H s) (k : ∀ b u, s.heap.get? b = some u → h'.get? b = some u) (hn : s.heap.get? a = none) (new : ObjOk X.prog X.w (upd H a o) h' a o) :
    H a = none ∧ L2.Inv X pins σ (upd H a o) { s with heap := h', toks := t' } := by
  have hH : H a = none := by
    cases q : H a with
    | none => rfl
    | some u =>
      obtain ⟨ob, e⟩ := ObjOk.there (I.hok a u q)
      rw [hn] at e
      cases e
  have ne : ∀ b u, s.heap.get? b = some u → b ≠ a := fun b u e z => by rw [z, hn] at e; cases e
  refine ⟨hH, I.un ⟨fun b u q _ _ _ => k b u q, fun b u q _ _ _ => ⟨u.slots, k b u q⟩, fun b u q n _ => by rw [upd_ne (ne b u q)]; exact n, fun b u q _ => ⟨u, k b u q⟩, fun b xs q => by rw [upd_ne (ne_of_none q hH)]; exact q, fun b u xs q => by rw [upd_ne (ne_of_none q hH)]; exact q, fun b ps q => ⟨#[], by rw [upd_ne (ne_of_none q hH), q]; simp⟩⟩ ?_⟩
  exact HOk.adopt (I.hok.kept k) hH new
theorem call_sortedT (hc : X.calm = true) : CallR X (.builtin "sorted") (fun xs H Q => ∃ (S : Addr) (rs : List Addr) (kf : Addr → List Int), xs = [.ref S] ∧ H S = some (.ext (SetP X.w kf rs S)) ∧ rs.length < 64 ∧ Tups H kf rs ∧ (∀ r ∈ rs, kf r ≠ []) ∧
    ∀ (D : Addr) (rs' : List Addr), H D = none → (∀ r ∈ rs', r ∈ rs) → (∀ r ∈ rs, ∃ r' ∈ rs', kf r' = kf r) → rs'.length ≤ rs.length → Q (.ref D) (upd H D (.lst (rs'.map V.ref)))) := by
  intro pins s σ H xs us Q I r h
  obtain ⟨S, rs, kf, rfl, hS, hn, ht, hne, q⟩ := h
  obtain ⟨u, rfl, rx⟩ := vals1 r
  cases rx
  obtain ⟨⟨es, ts⟩, _, _⟩ := I.hok S _ hS
  obtain ⟨⟨o, ep, t, ho, hex, hd, T, hled⟩, hmem, hcov, hlen⟩ := ts
  rw [List.length_map] at hlen
  have hk := kofs I ht
  refine sorted_set (kf := kfV kf) (I.ok.hd hc) ho hex hd T hled (by omega) (fun e he => ⟨hk _ (hmem e he), ?_⟩) fun D h' tk out c hp hD hD' kp => ?_
  · obtain ⟨r, hr, er⟩ := List.mem_map.mp (hmem e he)
    rw [← er]
    exact hne r hr
  · have hout : ∀ v ∈ out, ∃ e ∈ es.toList, e.2 = v := fun v hv => by
      obtain ⟨e, he, z⟩ := List.mem_map.mp (hp.mem_iff.mp hv)
      exact ⟨e, he, z⟩
    obtain ⟨rs', e1⟩ : ∃ rs' : List Addr, out = rs'.map Value.ref := by
      have all : ∀ v ∈ out, ∃ r, v = Value.ref r := fun v hv => by
        obtain ⟨e, he, rfl⟩ := hout v hv
        obtain ⟨r, _, er⟩ := List.mem_map.mp (hmem e he)
        exact ⟨r, er.symm⟩
      clear hp hD' hout
      induction out with
      | nil => exact ⟨[], rfl⟩
      | cons v l ih =>
        obtain ⟨rs', e⟩ := ih fun u hu => all u (List.mem_cons_of_mem _ hu)
        obtain ⟨r, rfl⟩ := all v List.mem_cons_self
        exact ⟨r :: rs', by rw [e]; rfl⟩
    subst e1
    have hl : rs'.length ≤ rs.length := by
      have := hp.length_eq
      rw [List.length_map, List.length_map] at this
      have e2 : es.toList.length = es.size := Array.length_toList
      omega
    obtain ⟨hH, I'⟩ := Inv.laidN (o := .lst (rs'.map V.ref)) (t' := tk) I kp hD (show ObjOk X.prog X.w _ h' D (.lst (rs'.map V.ref)) from ⟨by rw [List.length_map, sizeLine_eq]; omega, _, c, refs_vals rs', hD'⟩)
    refine ⟨.ref D, _, I', rfl, q D rs' hH (fun r hr => ?_) (fun r hr => ?_) hl⟩
    · obtain ⟨e, he, z⟩ := hout (Value.ref r) (List.mem_map.mpr ⟨r, hr, rfl⟩)
      obtain ⟨r0, h0, e0⟩ := List.mem_map.mp (hmem e he)
      rw [z] at e0
      injection e0 with e0
      rw [← e0]; exact h0
    · obtain ⟨e, he, z⟩ := hcov (Value.ref r) (List.mem_map.mpr ⟨r, hr, rfl⟩)
      obtain ⟨r0, h0, e0⟩ := List.mem_map.mp (hp.mem_iff.mpr (List.mem_map.mpr ⟨e, he, rfl⟩))
      refine ⟨r0, h0, ?_⟩
      rw [← e0] at z
      exact z
end
end KS
end
section
set_option maxRecDepth 100000
set_option maxHeartbeats 4000000
set_option linter.all false
namespace KS
open PySem PySem.Spec L2
open PyProof.Rows hiding St
section
variable {X : Cx}
theorem call_isinst : CallR X (.builtin "isinstance") (fun xs H Q => ∃ (x : V) (T : String) (t : Value) (b : Bool), xs = [x, .ty T] ∧ TyOf X.K H x t ∧ PySem.W.kitOne X.K t (.type T) = some b ∧ Q (.bl b) H) := by
  intro pins s σ H xs us Q I r h
  obtain ⟨x, T, t, b, rfl, ty, e, q⟩ := h
  obtain ⟨u, v, rfl, rx, ry⟩ := r.two
  obtain rfl : v = Value.type T := ry
  exact isinst_ok I rx ty e fun tk => ⟨.bl b, H, I.tok tk, rfl, q⟩
theorem kit1 (K : PySem.W.Frag) : PySem.W.kitOne K (.type "int") (.type "int") = some true := by rfl
theorem kit2 (K : PySem.W.Frag) : PySem.W.kitOne K (.type "int") (.type "bool") = some false := by rfl
theorem kit3 (K : PySem.W.Frag) : PySem.W.kitOne K (.type "list") (.type "list") = some true := by rfl
variable {K : PySem.W.Frag}
theorem ixL (hK : X.K = K) : IxR X (rIxL K) := hK ▸ ix_list
theorem ixT (hK : X.K = K) : IxR X (rIxT K) := hK ▸ ix_tup
theorem inTK (hK : X.K = K) (hu : X.A.units + 1 < cLine) : OpR X (compareOp .In) (rInT K false) := hK ▸ op_inT hu
end
end KS
end
section
set_option maxRecDepth 100000
set_option maxHeartbeats 4000000
set_option linter.all false
namespace KS
open PySem PySem.Spec L2
open PyProof.Rows hiding St
section
variable {X : Cx}
end
end KS
end
section
set_option maxRecDepth 100000
set_option maxHeartbeats 4000000
set_option linter.all false
namespace KS
open PySem PySem.Spec L2
open PyProof.Rows hiding St
section
variable {X : Cx} {K : PySem.W.Frag}
noncomputable def rLenS (K : PySem.W.Frag) : List V → Hp → VK → Prop := fun xs H Q => ∃ p ys, xs = [.ref p] ∧ (SqL K H p ys ∨ SqT K H p ys) ∧ Q (.int ys.length) H
theorem lenS (hK : X.K = K) : CallR X (.builtin "len") (rLenS K) := hK ▸ call_len_seq
noncomputable def rListS (K : PySem.W.Frag) : List V → Hp → VK → Prop := fun xs H Q => ∃ p ys, xs = [.ref p] ∧ (SqL K H p ys ∨ SqT K H p ys) ∧ ∀ l, H l = none → Q (.ref l) (upd H l (.lst ys))
theorem listS (hK : X.K = K) : CallR X (.type "list") (rListS K) := hK ▸ call_list_of
noncomputable def rIsin (K : PySem.W.Frag) : List V → Hp → VK → Prop := fun xs H Q => ∃ (x : V) (T : String) (t : Value) (b : Bool), xs = [x, .ty T] ∧ TyOf K H x t ∧ PySem.W.kitOne K t (.type T) = some b ∧ Q (.bl b) H
theorem isinS (hK : X.K = K) : CallR X (.builtin "isinstance") (rIsin K) := hK ▸ call_isinst
theorem piL {tg l : Expr} {tl : TE} (hK : X.K = K) (hl : PE X l tl) : PI X tg l (iList K tl) := hK ▸ pi_list hl
theorem slL (hK : X.K = K) : SlR X (rSlL K) := hK ▸ sl_list
theorem pgT {es : List Expr} {k n : Nat} {t : TGs} {pos : Pos} (hK : X.K = K) (hc : X.calm = true) (h : PGs X es t) (hn : (assignEach es X.env).length = n := by rfl) (hst : (assignEach es X.env).findIdx? (·.1) = none := by rfl) : PG X (.Tuple es k pos) (gTup K n t) := hK ▸ pg_tup hc h hn hst
variable {o e : Expr} {es : List Expr} {to : TE} {t : TA} {name : Str} {apos cpos : Pos} {T id : String} {r : V → List V → Hp → VK → Prop}
theorem peM0 (hK : X.K = K) (pa : PlainAttrs T) (slot : Slot T name id) (hty : typeOf (.builtin id) = pure (.type "method_descriptor")) (hm : MtR X id r) (ho : PE X o to)
    (hbase : attributeBase o name X.env (eval o X.env) = eval o X.env := by rfl) (hline : (apos.endLine == cpos.line) = true := by rfl) : PE X (.Call (.Attribute o name apos) [] [] cpos) (tBM0 K T r to) := hK ▸ pe_bm0 pa slot hty hm ho hbase hline
theorem peM (hK : X.K = K) (pa : PlainAttrs T) (slot : Slot T name id) (hty : typeOf (.builtin id) = pure (.type "method_descriptor")) (hm : MtR X id r) (ho : PE X o to) (ha : PA X (e :: es) t)
    (hbase : attributeBase o name X.env (eval o X.env) = eval o X.env := by rfl)
    (hfew : ((backTo cpos (starEach (e :: es) X.env)).all (fun x => !x.1) && (backToKw cpos (keywordEach [] X.env)).all (fun x => x.1.isSome)
      && decide ((e :: es).length + ([] : List Keyword).length + (if ([] : List Keyword).isEmpty then 0 else 1) < 30)) = true := by rfl)
    (hline : (apos.endLine == cpos.line) = true := by rfl) (hs : starEach (e :: es) X.env = (false, eval e X.env) :: starEach es X.env := by rfl) (hplain : (backTo cpos (starEach es X.env)).any (·.1) = false := by rfl) :
    PE X (.Call (.Attribute o name apos) (e :: es) [] cpos) (tBM K T r to t) := hK ▸ pe_bm pa slot hty hm ho ha hbase hfew hline hs hplain
end
end KS
end
section
set_option maxRecDepth 100000
set_option maxHeartbeats 4000000
set_option linter.all false
namespace KS
open PySem PySem.Spec L2
open PyProof.Rows hiding St
section
variable {X : Cx} {K : PySem.W.Frag}
end
end KS
end
section
set_option maxRecDepth 100000
set_option linter.all false
namespace KT
open PySem PySem.Builtin PySem.Builtin.Str PySem.StrLaws
end KT
end
section
set_option maxRecDepth 100000
set_option maxHeartbeats 4000000
set_option linter.all false
namespace KS
open PySem PySem.Spec L2
open PyProof.Rows hiding St
section
variable {X : Cx} {K : PySem.W.Frag}
end
end KS
end
section
set_option maxRecDepth 100000
set_option maxHeartbeats 4000000
set_option linter.all false
namespace KS
open PySem PySem.Spec L2
open PyProof.Rows hiding St
section
variable {X : Cx} {K : PySem.W.Frag}
end
end KS
end
section
set_option Elab.async false
set_option linter.all false
set_option maxRecDepth 100000
namespace L2
open PySem PySem.Spec PyProof.Rows
section
variable {κ : Type} [DecidableEq κ]
end
section
variable {P : Program} {w : World} {H : Hp} {h : Heap} {a : Addr}
end
section
variable {X : Cx} {pins : List (Addr × Obj)} {σ : St} {H : Hp} {s : Shared} {a : Addr} {y v : V} {u r : Value} {o : Option V} {A : Around} {E : Value → Shared → Prop}
theorem Inv.big (I : Inv X pins σ H s) : sysModules < s.heap.objs.size := by
  have h : mainGlobals < s.heap.objs.size := (I.mod.glob.keeps I.bk).lt
  exact Nat.lt_trans (by decide) h
end
section
variable {X : Cx} {pins : List (Addr × Obj)} {σ : St} {H : Hp} {s : Shared} {a : Addr} {kvs : List (Key × V)} {k : Key} {u : Value} {A : Around} {E : Value → Shared → Prop}
end
section
variable {X : Cx} {o i e value : Expr} {pos pos' tpos : Pos} {td ty tv : TE}
end
section
variable {X : Cx} {pos : Pos}
end
section
variable {X : Cx} {pins : List (Addr × Obj)} {σ : St} {H : Hp} {s : Shared} {a : Addr} {y d : V} {u r : Value} {o : Option V} {A : Around} {E : Value → Shared → Prop}
end
section
variable {X : Cx} {o e f : Expr} {apos cpos : Pos} {td ty tx : TE}
end
section
variable {X : Cx} {pins : List (Addr × Obj)} {σ : St} {H : Hp} {s : Shared} {a : Addr} {kvs : List (Key × V)} {A : Around} {E : Value → Shared → Prop}
end
section
variable {X : Cx} {pins : List (Addr × Obj)} {σ : St} {H : Hp} {s : Shared} {a : Addr} {y : V} {u : Value} {A : Around} {E : Value → Shared → Prop}
end
end L2
end
section
set_option maxRecDepth 100000
set_option maxHeartbeats 4000000
set_option linter.all false
namespace KS
open PySem PySem.Spec L2
open PyProof.Rows hiding St
section
variable {P : Program} {w : World} {A : Around} {E : Value → Shared → Prop} {s : Shared}
theorem hash_tf {b : Bool} {Q : Int → Shared → Prop} (k : Q (if b then 1 else 0) { s with toks := s.toks + 1 }) : wpAny (model P w) A (pyHash (.bool b)) Q E s := by
  have ty : s.TypeIs (.bool b) "bool" := PySem.typeIs_bool s b
  unfold pyHash pyHashByItsType
  refine wpAny_bind ?_
  rw [cRoomFor, if_neg (by rw [show [Value.bool b].any Value.onHeap = false from rfl]; decide)]
  refine wpAny_pure (wpAny_bind (wpAny_specialOf ty F.slot_bool_hash.lookup ?_))
  show wpAny _ _ (if (some (Value.builtin "int.__hash__") == some Value.none) = true then _ else _) _ _ _
  rw [if_neg (by rw [beq_builtin_none]; decide)]
  refine wpAny_bind (wpAny_specialOf ty F.slot_bool_hash.lookup ?_)
  show wpAny _ _ (callSpecialIfBoundUnlessNone? (.bool b) "__hash__" _ >>= _) _ _ _
  cases b
  · refine wpAny_bind (wpAny_callSpecialIfBoundUnlessNone?_slot ty F.slot_bool_hash (wpAny_call_entry F.slot_bool_hash ty entry_int_hash (show wpAny _ _ (do ret (← mkInt (rawHash 0))) _ _ _ from wpAny_ret_mkInt ?_) (args_int_hash _)))
    exact wpAny_pure k
  · refine wpAny_bind (wpAny_callSpecialIfBoundUnlessNone?_slot ty F.slot_bool_hash (wpAny_call_entry F.slot_bool_hash ty entry_int_hash (show wpAny _ _ (do ret (← mkInt (rawHash 1))) _ _ _ from wpAny_ret_mkInt ?_) (args_int_hash _)))
    exact wpAny_pure k
end
noncomputable def tfKind (P : Program) (w : World) : KeyKind P w Bool where
  is := fun b v => v == .bool b
  hash := fun b => if b then 1 else 0
  inj := fun v a b h1 h2 => by
    rw [eq_of_beq h1] at h2
    have := eq_of_beq h2
    injection this
  byValue := fun k v h => by rw [eq_of_beq h]; rfl
  pyHash := fun hv h => by rw [eq_of_beq hv]; exact hash_tf h
  eqBool := fun hu hv h => by
    rw [eq_of_beq hu, eq_of_beq hv]
    exact SeqAt.EqAt.bool_bool _ _ _ _ _ _ (by rw [← Bool.beq_eq_decide_eq] at h; exact h)
  «strs» := fun k x t v h => by cases eq_of_beq h
noncomputable abbrev Key2 := List Bool × List Bool
section
variable {P : Program} {w : World}
/-- at a: the tuple of two tuples of truths -/
noncomputable def IsK2 (P : Program) (w : World) (h : Heap) (k : Key2) (a : Addr) : Prop := ∃ o n b c, h.get? a = some o ∧ o.cls = .type "tuple" ∧ o.data = .seq #[.ref b, .ref c] n ∧ IsTupleKey (tfKind P w) h k.1 b ∧ IsTupleKey (tfKind P w) h k.2 c
theorem IsK2.ty {s : Shared} {k : Key2} {a : Addr} (x : IsK2 P w s.heap k a) : s.TypeIs (.ref a) "tuple" := let ⟨o, _, _, _, ho, hc, _⟩ := x; ⟨o, ho, hc⟩
theorem IsK2.same {h : Heap} {a : Addr} {k l : Key2} (x : IsK2 P w h k a) (y : IsK2 P w h l a) : k = l := by
  obtain ⟨o, n, b, c, e, _, d, t1, t2⟩ := x
  obtain ⟨o', n', b', c', e', _, d', u1, u2⟩ := y
  rw [e] at e'
  cases e'
  rw [d] at d'
  cases d'
  exact Prod.ext (t1.inj u1) (t2.inj u2)
theorem tk_keep {h h' : Heap} {ks : List Bool} {a d : Addr} {o : Obj} {es : Array DictEntry} {ep : Nat} (x : IsTupleKey (tfKind P w) h ks a) (ho : h.get? d = some o) (hd : o.data = .dict es ep) (k : ∀ b u, b ≠ d → h.get? b = some u → h'.get? b = some u) : IsTupleKey (tfKind P w) h' ks a := by
  obtain ⟨u, its, n, e, c, dt, r⟩ := x
  refine ⟨u, its, n, k a u (fun z => ?_) e, c, dt, r⟩
  rw [z, ho] at e
  cases e
  rw [hd] at dt
  cases dt
theorem IsK2.keep {h h' : Heap} {ks : Key2} {a d : Addr} {o : Obj} {es : Array DictEntry} {ep : Nat} (x : IsK2 P w h ks a) (ho : h.get? d = some o) (hd : o.data = .dict es ep) (k : ∀ b u, b ≠ d → h.get? b = some u → h'.get? b = some u) : IsK2 P w h' ks a := by
  obtain ⟨u, n, b, c, e, cl, dt, t1, t2⟩ := x
  refine ⟨u, n, b, c, k a u (fun z => ?_) e, cl, dt, tk_keep t1 ho hd k, tk_keep t2 ho hd k⟩
  rw [z, ho] at e
  cases e
  rw [hd] at dt
  cases dt
noncomputable def hash2 (P : Program) (w : World) (k : Key2) : Int := reduceHash (Builtin.Tuple.tupleHashOf [tupleKeyHash (tfKind P w) k.1, tupleKeyHash (tfKind P w) k.2])
variable {A : Around} {E : Value → Shared → Prop} {s : Shared}
theorem hash_k2 {k : Key2} {a : Addr} {Q : Int → Shared → Prop} (u : A.units + 2 < cLine) (x : IsK2 P w s.heap k a) (q : Q (hash2 P w k) { s with toks := s.toks + (k.1.length + 1 + (k.2.length + 1) + 1) }) : wpAny (model P w) A (pyHash (.ref a)) Q E s := by
  have ty := x.ty
  obtain ⟨o, n, b, c, ho, hc, hd, t1, t2⟩ := x
  unfold pyHash pyHashByItsType
  refine wpAny_bind (wpAny_cRoomFor_or (.inr (by omega)) (wpAny_bind (wpAny_specialOf ty F.slot_tuple_hash.lookup ?_)))
  show wpAny _ _ (if (some (Value.builtin "tuple.__hash__") == some Value.none) = true then _ else _) _ _ _
  rw [if_neg (by rw [beq_builtin_none]; decide)]
  refine wpAny_bind (wpAny_specialOf ty F.slot_tuple_hash.lookup ?_)
  show wpAny _ _ (callSpecialIfBoundUnlessNone? (.ref a) "__hash__" _ >>= _) _ _ _
  refine wpAny_bind (wpAny_callSpecialIfBoundUnlessNone?_slot ty F.slot_tuple_hash (wpAny_call_entry F.slot_tuple_hash ty F.entry_tuple_hash ?_ (F.args_tuple_hash_1 _)))
  show wpAny _ _ (Builtin.Tuple.tupleItemsOf (.ref a) >>= _) _ _ _
  refine wpAny_bind (wpAny_tupleItemsOf ho hd (wpAny_bind ?_))
  rw [← Array.forIn_toList]
  show wpAny _ _ (forIn [Value.ref b, Value.ref c] _ _) _ _ _
  rw [List.forIn_cons]
  refine wpAny_bind (wpAny_bind (wpAny_pyHash_tuple (by show A.units + 1 < cLine; omega) t1 (wpAny_pure ?_)))
  show wpAny _ _ (forIn [Value.ref c] _ _) _ _ _
  rw [List.forIn_cons]
  refine wpAny_bind (wpAny_bind (wpAny_pyHash_tuple (by show A.units + 1 < cLine; omega) t2 (wpAny_pure ?_)))
  show wpAny _ _ (forIn ([] : List Value) _ _) _ _ _
  rw [List.forIn_nil]
  refine wpAny_pure ?_
  show wpAny _ _ (retInt (Builtin.Tuple.tupleHashOf [tupleKeyHash (tfKind P w) k.1, tupleKeyHash (tfKind P w) k.2])) _ _ _
  refine wpAny_ret_mkInt ?_
  generalize hT : Builtin.Tuple.tupleHashOf [tupleKeyHash (tfKind P w) k.1, tupleKeyHash (tfKind P w) k.2] = T
  unfold hash2 reduceHash at q
  rw [hT] at q
  show wpAny _ _ (if (decide (-(2 : Int) ^ 63 ≤ T) && decide (T < 2 ^ 63)) = true then _ else _) _ _ _
  by_cases g : (decide (-(2 : Int) ^ 63 ≤ T) && decide (T < 2 ^ 63)) = true
  · rw [if_pos g] at q ⊢
    exact wpAny_pure (by simpa [Nat.add_assoc] using q)
  · rw [if_neg g] at q ⊢
    exact wpAny_bind (wpAny_rule (wpAny_pure (by simpa [Nat.add_assoc] using q)))
theorem eq_k2 {k l : Key2} {a b : Addr} {Q : Bool → Shared → Prop} (u : A.units + 2 < cLine) (x : IsK2 P w s.heap k a) (y : IsK2 P w s.heap l b) (q : Q (decide (k = l)) s) : wpAny (model P w) A (eqBool (.ref a) (.ref b)) Q E s := by
  unfold eqBool
  try with_reducible refine wpAny_holding ?_
  show wpAny _ _ (if (Value.ref a == Value.ref b) = true then _ else _) _ _ _
  by_cases g : (Value.ref a == Value.ref b) = true
  · rw [if_pos g]
    cases eq_of_beq g
    obtain rfl := x.same y
    exact wpAny_bind (wpAny_rule (wpAny_pure (by simpa using q)))
  · rw [if_neg g]
    refine wpAny_bind (wpAny_richCompare_same_room (op := .Eq) x.ty y.ty F.slot_tuple_eq (wpAny_call_entry F.slot_tuple_eq x.ty F.entry_tuple_eq ?_ (F.args_tuple_eq_2 _ _)) (by omega))
    have tb := y.ty
    obtain ⟨o, n, b1, c1, ho, hc, hd, t1, t2⟩ := x
    obtain ⟨o', n', b2, c2, ho', hc', hd', u1, u2⟩ := y
    show wpAny _ _ (isInstance (.ref b) (.type "tuple") >>= _) _ _ _
    refine wpAny_bind (wpAny_isInstance tb isSubtype_tuple_tuple ?_)
    simp only [Bool.not_true, Bool.false_eq_true, if_false]
    refine wpAny_bind (wpAny_tupleItemsOf ho hd (wpAny_bind (wpAny_tupleItemsOf ho' hd' (wpAny_bind ?_))))
    show wpAny _ _ (forIn [(Value.ref b1, Value.ref b2), (Value.ref c1, Value.ref c2)] _ _) _ _ _
    rw [List.forIn_cons]
    refine wpAny_bind (wpAny_bind (wpAny_eqBool_tuple (by show A.units + 1 < cLine; omega) t1 u1 ?_))
    by_cases e1 : k.1 = l.1
    · rw [decide_eq_true e1]
      simp only [Bool.not_true, Bool.false_eq_true, if_false]
      refine wpAny_pure ?_
      show wpAny _ _ (forIn [(Value.ref c1, Value.ref c2)] _ _) _ _ _
      rw [List.forIn_cons]
      refine wpAny_bind (wpAny_bind (wpAny_eqBool_tuple (by show A.units + 1 < cLine; omega) t2 u2 ?_))
      by_cases e2 : k.2 = l.2
      · rw [decide_eq_true e2]
        simp only [Bool.not_true, Bool.false_eq_true, if_false]
        refine wpAny_pure ?_
        show wpAny _ _ (forIn ([] : List (Value × Value)) _ _) _ _ _
        rw [List.forIn_nil]
        rw [decide_eq_true (Prod.ext e1 e2 : k = l)] at q
        exact wpAny_pure (wpAny_pure ⟨_, rfl, (fun e => nomatch e), wpAny_truthy_bool q⟩)
      · rw [decide_eq_false e2]
        simp only [Bool.not_false, if_true]
        rw [decide_eq_false fun z : k = l => e2 (by rw [z])] at q
        exact wpAny_bind (wpAny_pure (wpAny_pure (wpAny_pure (wpAny_pure ⟨_, rfl, (fun e => nomatch e), wpAny_truthy_bool q⟩))))
    · rw [decide_eq_false e1]
      simp only [Bool.not_false, if_true]
      rw [decide_eq_false fun z : k = l => e1 (by rw [z])] at q
      exact wpAny_bind (wpAny_pure (wpAny_pure (wpAny_pure (wpAny_pure ⟨_, rfl, (fun e => nomatch e), wpAny_truthy_bool q⟩))))
theorem quiet_tf {m : Nat} {ks : List Bool} {a : Addr} {Q : Bool → Shared → Prop} (x : IsTupleKey (tfKind P w) s.heap ks a) (q : Q true s) : wpAny (model P w) A (eqIsQuiet (m + 1) (.ref a)) Q E s := by
  have ty := x.typeIs
  obtain ⟨o, its, n, ho, _, hd, hi⟩ := x
  unfold eqIsQuiet
  refine wpAny_bind (wpAny_specialOf ty F.slot_tuple_eq.lookup ?_)
  show wpAny _ _ (isInstance (.ref a) (.type "tuple") >>= _) _ _ _
  refine wpAny_bind (wpAny_isInstance ty isSubtype_tuple_tuple ?_)
  simp only [Bool.not_true, Bool.false_eq_true, if_false]
  refine wpAny_bind (wpAny_seqItems ho hd (wpAny_bind ?_))
  show wpAny _ _ (forIn its _ _) _ _ _
  rw [← Array.forIn_toList]
  refine wpAny_forIn_list _ (fun l r t => r.1 = none ∧ t = s ∧ ∀ v ∈ l, carriedByValue v = true) _ ?_ ?_ _ _ ⟨rfl, rfl, hi.byValue⟩
  · rintro v l r t ⟨_, rfl, al⟩
    rw [eqIsQuiet_byValue _ (al v List.mem_cons_self)]
    refine wpAny_bind (wpAny_pure ?_)
    simp only [Bool.not_true, Bool.false_eq_true, if_false]
    exact wpAny_pure ⟨rfl, rfl, fun y hy => al y (List.mem_cons_of_mem _ hy)⟩
  · rintro ⟨r1, r2⟩ t ⟨e, rfl, _⟩
    cases e
    exact wpAny_pure q
theorem quiet_k2 {k : Key2} {a : Addr} {Q : Bool → Shared → Prop} (x : IsK2 P w s.heap k a) (q : Q true s) : wpAny (model P w) A (eqIsQuiet 8 (.ref a)) Q E s := by
  have ty := x.ty
  obtain ⟨o, n, b, c, ho, _, hd, t1, t2⟩ := x
  unfold eqIsQuiet
  refine wpAny_bind (wpAny_specialOf ty F.slot_tuple_eq.lookup ?_)
  show wpAny _ _ (isInstance (.ref a) (.type "tuple") >>= _) _ _ _
  refine wpAny_bind (wpAny_isInstance ty isSubtype_tuple_tuple ?_)
  simp only [Bool.not_true, Bool.false_eq_true, if_false]
  refine wpAny_bind (wpAny_seqItems ho hd (wpAny_bind ?_))
  show wpAny _ _ (forIn #[Value.ref b, Value.ref c] _ _) _ _ _
  rw [← Array.forIn_toList]
  show wpAny _ _ (forIn [Value.ref b, Value.ref c] _ _) _ _ _
  rw [List.forIn_cons]
  refine wpAny_bind (wpAny_bind (quiet_tf t1 ?_))
  simp only [Bool.not_true, Bool.false_eq_true, if_false]
  refine wpAny_pure ?_
  show wpAny _ _ (forIn [Value.ref c] _ _) _ _ _
  rw [List.forIn_cons]
  refine wpAny_bind (wpAny_bind (quiet_tf t2 ?_))
  simp only [Bool.not_true, Bool.false_eq_true, if_false]
  refine wpAny_pure ?_
  show wpAny _ _ (forIn ([] : List Value) _ _) _ _ _
  rw [List.forIn_nil]
  exact wpAny_pure (wpAny_pure q)
end
noncomputable def k2Kind (P : Program) (w : World) : HeapKind P w Key2 where
  is := IsK2 P w
  hash := hash2 P w
  draws := fun k => k.1.length + 1 + (k.2.length + 1) + 1
  room := fun A => A.units + 2 < cLine
  inj := fun x y => x.same y
  keeps := fun x ho hd hs => x.keep ho hd fun b u hb e => (hs.2 b hb).trans e
  pyHash := fun u x q => hash_k2 u x q
  eqBool := fun u x y q => eq_k2 u x y q
  quiet := fun x q => quiet_k2 x q
end KS
end
section
set_option maxRecDepth 100000
set_option maxHeartbeats 4000000
set_option linter.all false
namespace KS
open PySem PySem.Spec L2
open PyProof.Rows hiding St
/-- at d: a dict of these entries -/
noncomputable def EntAt (h : Heap) (d : Addr) (es : Array DictEntry) (ep : Nat) : Prop := ∃ o, h.get? d = some o ∧ o.data = .dict es ep
theorem EntAt.keep {h h' : Heap} {d : Addr} {es : Array DictEntry} {ep : Nat} (x : EntAt h d es ep) (k : ∀ o, h.get? d = some o → h'.get? d = some o) : EntAt h' d es ep := let ⟨o, e, r⟩ := x; ⟨o, k o e, r⟩
section
variable {P : Program} {w : World} {A : Around} {E : Value → Shared → Prop} {s : Shared} {v d z : Addr} {es : Array DictEntry} {ep i : Nat}
theorem it_view {Q : Value → Shared → Prop} (x : s.heap.IsValuesView v d) (y : EntAt s.heap d es ep)
    (q : Q (.ref s.heap.objs.size) { s with heap := s.heap.push { cls := .type "dict_valueiterator", data := .fields #[.ref d, .int 0 0, .int es.size 0, .int ep 0] } }) : wpAny (model P w) A (pyIter (.ref v)) Q E s := by
  have ty := x.typeIs
  obtain ⟨ov, e1, _, e2⟩ := x
  obtain ⟨od, e3, e4⟩ := y
  refine wpAny_pyIter_slot ty F.slot_dict_values_iter (wpAny_call_entry F.slot_dict_values_iter ty F.entry_dict_values_iter ?_ (F.args_dict_values_iter_1 _))
  unfold Builtin.«dict_values.__iter__» Builtin.Dict_items.dictOf Builtin.Dict_items.newIterator
  refine wpAny_bind (wpAny_pure (wpAny_bind (wpAny_bind (wpAny_field e1 e2 (x := .ref d) rfl (wpAny_pure (wpAny_bind (wpAny_bind (wpAny_dictEntries e3 e4 (wpAny_bind (wpAny_dictEpoch e3 e4 ?_))))))))))
  rw [show Builtin.Dict_items.ownsTuple "dict_valueiterator" = false by decide]
  simp only [Bool.false_eq_true, if_false]
  refine wpAny_newObj_type (wpAny_pure ⟨_, rfl, "dict_valueiterator", _, ⟨_, Heap.get?_push_size _ rfl, rfl⟩, F.slot_dict_valueiterator_next.lookup, ?_⟩)
  simpa [rawInt] using q
theorem nx_val {e : DictEntry} {Q : Option Value → Shared → Prop} (x : s.heap.IsValIter z d i es.size ep) (y : EntAt s.heap d es ep) (g : es[i]? = some e)
    (q : ∀ h', h'.IsValIter z d (i + 1) es.size ep → Heap.SameBut z s.heap h' → Q (some e.val) { s with heap := h' }) : wpAny (model P w) A (pyNext (.ref z)) Q E s := by
  have ty := x.typeIs
  obtain ⟨oz, f1, f2, f3⟩ := x
  obtain ⟨od, e3, e4⟩ := y
  have own : Builtin.Dict_items.ownsTuple "dict_valueiterator" = false := by decide
  unfold pyNext
  refine wpAny_bind (wpAny_attempt (wpAny_callSpecial?_slot (name := Str.ofString "__next__") ty F.slot_dict_valueiterator_next (wpAny_call_entry F.slot_dict_valueiterator_next ty F.entry_dict_valueiterator_next ?_ (F.args_dict_valueiterator_next_1 _))))
  refine wpAny_bind (wpAny_pure (wpAny_bind (wpAny_bind (wpAny_bind (wpAny_typeNameOfWhole_valiter ty (wpAny_pure (wpAny_bind (wpAny_fieldsOf f1 f3 ?_))))))))
  simp only [own, Bool.false_eq_true, if_false]
  show wpAny _ _ (if (Value.ref d == Value.none) = true then _ else _) _ _ _
  rw [if_neg (by rw [show (Value.ref d == Value.none) = false from rfl]; decide)]
  refine wpAny_bind (wpAny_pure (wpAny_bind (wpAny_dictEntries e3 e4 ?_)))
  rw [if_neg (by simp)]
  refine wpAny_bind (wpAny_pure (wpAny_bind (wpAny_dictEpoch e3 e4 ?_)))
  rw [if_neg (by simp)]
  refine wpAny_pure ?_
  simp only [show ¬ ((i : Int) < 0) from by omega, if_false, Int.toNat_natCast, g]
  refine wpAny_bind (wpAny_bind (wpAny_typeNameOfWhole_valiter ty (wpAny_pure (wpAny_bind (wpAny_isOneOf_valiter ty ?_)))))
  show wpAny _ _ (setField (.ref z) 1 (rawInt ((i : Int) + 1)) >>= _) _ _ _
  refine wpAny_bind (wpAny_setField f1 f3 (by simp) ?_)
  have x' : (s.heap.update z (Obj.mapFields (·.setIfInBounds 1 (rawInt ((i : Int) + 1))))).IsValIter z d (i + 1) es.size ep := by
    refine ⟨_, Heap.get?_update_self _ f1 (Obj.isFreed_of_fields (Obj.data_mapFields f3 _)), (Obj.cls_mapFields ..).trans f2, ?_⟩
    rw [Obj.data_mapFields f3]
    simp [rawInt]
  refine wpAny_bind (wpAny_holding (wpAny_bind (wpAny_isOneOf_valiter x'.typeIs (wpAny_bind (wpAny_isOneOf_valiter x'.typeIs ?_)))))
  show wpAny _ _ (pure e.val) _ _ _
  exact wpAny_pure (wpAny_pure ⟨_, rfl, wpAny_pure (q _ x' (Heap.SameBut.update ..))⟩)
theorem nx_no {Q : Option Value → Shared → Prop} (hh : A.handled = none) (x : s.heap.IsValIter z d i es.size ep) (y : EntAt s.heap d es ep) (g : es.size ≤ i) (q : ∀ h', Heap.ExtBut z s.heap h' → Q none { s with heap := h' }) : wpAny (model P w) A (pyNext (.ref z)) Q E s := by
  have ty := x.typeIs
  obtain ⟨oz, f1, f2, f3⟩ := x
  obtain ⟨od, e3, e4⟩ := y
  have own : Builtin.Dict_items.ownsTuple "dict_valueiterator" = false := by decide
  unfold pyNext
  refine wpAny_bind (wpAny_attempt (wpAny_callSpecial?_slot (name := Str.ofString "__next__") ty F.slot_dict_valueiterator_next (wpAny_call_entry F.slot_dict_valueiterator_next ty F.entry_dict_valueiterator_next ?_ (F.args_dict_valueiterator_next_1 _))))
  refine wpAny_bind (wpAny_pure (wpAny_bind (wpAny_bind (wpAny_bind (wpAny_typeNameOfWhole_valiter ty (wpAny_pure (wpAny_bind (wpAny_fieldsOf f1 f3 ?_))))))))
  simp only [own, Bool.false_eq_true, if_false]
  show wpAny _ _ (if (Value.ref d == Value.none) = true then _ else _) _ _ _
  rw [if_neg (by rw [show (Value.ref d == Value.none) = false from rfl]; decide)]
  refine wpAny_bind (wpAny_pure (wpAny_bind (wpAny_dictEntries e3 e4 ?_)))
  rw [if_neg (by simp)]
  refine wpAny_bind (wpAny_pure (wpAny_bind (wpAny_dictEpoch e3 e4 ?_)))
  rw [if_neg (by simp)]
  refine wpAny_pure ?_
  simp only [show ¬ ((i : Int) < 0) from by omega, if_false, Int.toNat_natCast, Array.getElem?_eq_none g]
  refine wpAny_bind (wpAny_bind (wpAny_typeNameOfWhole_valiter ty (wpAny_pure ?_)))
  show wpAny _ _ (setField (.ref z) 0 .none >>= _) _ _ _
  refine wpAny_bind (wpAny_setField f1 f3 (by simp) ?_)
  show wpAny _ _ (newExc (.type "StopIteration") [] >>= _) _ _ _
  simp only [newExc, newTuple]
  refine wpAny_bind (wpAny_bind (wpAny_newObj_type (wpAny_bind (m := firstArgMember _ _) (wpAny_of_eq (a := Value.none) (by first | rfl | (simp only [firstArgMember]; rfl)) (wpAny_newObj_type ?_ (by size_fits)))) (by size_fits)))
  simp only [raiseNew]
  refine wpAny_bind (wpAny_handled ?_)
  rw [show A.in1.handled = none from hh]
  refine wpAny_bind (wpAny_pure (wpAny_throw ?_))
  refine wpAny_bind (wpAny_isInstance (T := "StopIteration") (b := true) ⟨_, Heap.get?_push_size _ rfl, rfl⟩ isSubtype_stop ?_)
  exact wpAny_pure (q _ (((Heap.SameBut.update ..).extBut.push _).push _))
theorem walk_v (hh : A.handled = none) (hne : d ≠ z) : Walks P w A z [z, d] [z] es.size (fun i v => ∃ e, es[i]? = some e ∧ v = e.val) (fun i h => h.IsValIter z d i es.size ep ∧ EntAt h d es ep) where
  sub := fun b hb => by rw [List.mem_singleton.mp hb]; exact List.mem_cons_self
  frame := fun _ _ _ st k => ⟨let ⟨o, e, r⟩ := st.1; ⟨o, k z List.mem_cons_self o e, r⟩, st.2.keep fun o e => k d (List.mem_cons_of_mem _ List.mem_cons_self) o e⟩
  item := fun i t Q E hi st k => by
    have g : es[i]? = some es[i] := Array.getElem?_eq_getElem hi
    refine nx_val st.1 st.2 g fun h' x' sb => k _ h' t.toks ⟨_, g, rfl⟩ ⟨x', st.2.keep fun o e => (sb.2 d hne).trans e⟩ fun b o hb e => (sb.2 b fun n => hb (n ▸ List.mem_cons_self)).trans e
  done := fun t Q E st k => nx_no hh st.1 st.2 (Nat.le_refl _) fun h' eb => k h' t.toks fun b o hb e => eb b o (fun n => hb (n ▸ List.mem_cons_self)) e
  self := fun _ _ _ _ st k => wpAny_pyIter_valiter st.1 k
theorem src_v : PySem.W.KdlSrc P w "dict_values" v d es.size (fun i u => ∃ e, es[i]? = some e ∧ u = e.val) (fun h => h.IsValuesView v d ∧ EntAt h d es ep) where
  type := fun _ m => m.1.typeIs
  there := fun _ m => ⟨let ⟨_, e, _⟩ := m.1; Heap.lt_size e, let ⟨_, e, _⟩ := m.2; Heap.lt_size e⟩
  keep := fun _ _ m k => ⟨let ⟨o, e, r⟩ := m.1; ⟨o, k v (.inl rfl) o e, r⟩, m.2.keep fun o e => k d (.inr rfl) o e⟩
  notList := by decide
  notTuple := by decide
  hint := fun _ _ _ _ m k => PySem.W.kdl_hint_values m.1.typeIs k
  iter := fun _ t hh m => ⟨_, _, (fun _ _ k => it_view m.1 m.2 k), walk_v (z := t.heap.objs.size) hh (Nat.ne_of_lt (let ⟨_, e, _⟩ := m.2; Heap.lt_size e)), ⟨⟨_, Heap.get?_push_size _ rfl, rfl, rfl⟩, m.2.keep fun o e => Heap.get?_push_of_some _ e⟩⟩
end
end KS
end
section
set_option maxRecDepth 100000
set_option maxHeartbeats 4000000
set_option linter.all false
namespace KS
open PySem PySem.Spec L2
open PyProof.Rows hiding St
noncomputable abbrev Row2 := Key2 × Addr × Addr
noncomputable def Ent2 (P : Program) (w : World) (x : Row2) : DictEntry := ⟨hash2 P w x.1, .ref x.2.1, .ref x.2.2⟩
/-- a dict of these rows: key, the key's place, the list's place -/
noncomputable def GrpO (P : Program) (w : World) (d : Addr) (xs : List Row2) : HO := .ext fun h => (d == sysModules) = false ∧ ∃ o es ep, h.get? d = some o ∧ o.ExactDict ∧ o.data = .dict es ep ∧ es.toList = xs.map (Ent2 P w) ∧ (xs.map (·.1)).Nodup
/-- the view of its values -/
noncomputable def VwO (v d : Addr) : HO := .ext fun h => h.get? v = some { cls := .type "dict_values", data := .fields #[.ref d] }
section
variable {P : Program} {w : World} {H : Hp} {h : Heap} {d v : Addr} {xs : List Row2}
theorem grp_ok {o : Obj} {es : Array DictEntry} {ep : Nat} (lo : (d == sysModules) = false) (e : h.get? d = some o) (r : o.ExactDict ∧ o.data = .dict es ep ∧ es.toList = xs.map (Ent2 P w) ∧ (xs.map (·.1)).Nodup) : ObjOk P w H h d (GrpO P w d xs) :=
  ⟨⟨lo, o, es, ep, e, r⟩, ⟨o, e⟩, fun h1 h2 ⟨lo, o, es, ep, e, r⟩ k => ⟨lo, o, es, ep, k o e, r⟩⟩
theorem vw_ok (e : h.get? v = some { cls := .type "dict_values", data := .fields #[.ref d] }) : ObjOk P w H h v (VwO v d) := ⟨e, ⟨_, e⟩, fun h1 h2 e k => k _ e⟩
/-- at a: the key k -/
noncomputable def K2At (H : Hp) (k : Key2) (a : Addr) : Prop := ∃ b c, H a = some (.tup [.ref b, .ref c]) ∧ H b = some (.tup (k.1.map V.bl)) ∧ H c = some (.tup (k.2.map V.bl))
theorem tf_items : ∀ {ks : List Bool} {us : List Value}, Vals (ks.map V.bl) us → ItemsAre (tfKind P w) ks us
  | [], _, r => by
    cases r
    exact .nil
  | b :: ks, _, r => by
    cases r with
    | cons r1 r2 =>
      cases (show _ = Value.bool b from r1)
      exact .cons (beq_self_eq_true _) (tf_items r2)
theorem tk_of (ok : HOk P w H h) {ks : List Bool} {b : Addr} (e : H b = some (.tup (ks.map V.bl))) : IsTupleKey (tfKind P w) h ks b := by
  obtain ⟨_, its, r, o, e1, e2, n, e3⟩ := ok b _ e
  exact ⟨o, its.toArray, n, e1, e2, e3, tf_items r⟩
theorem K2At.is (ok : HOk P w H h) {k : Key2} {a : Addr} (x : K2At H k a) : IsK2 P w h k a := by
  obtain ⟨b, c, e1, e2, e3⟩ := x
  obtain ⟨_, its, r, o, f1, f2, n, f3⟩ := ok a _ e1
  cases r with
  | cons r1 r2 =>
    cases r2 with
    | cons r2 r3 =>
      cases r3
      cases (show _ = Value.ref b from r1)
      cases (show _ = Value.ref c from r2)
      exact ⟨o, n, b, c, f1, f2, f3, tk_of ok e2, tk_of ok e3⟩
theorem K2At.same {H' : Hp} {k : Key2} {a : Addr} (x : K2At H k a) (s : Same H H') : K2At H' k a := let ⟨b, c, e1, e2, e3⟩ := x; ⟨b, c, s _ _ e1, s _ _ e2, s _ _ e3⟩
end
section
variable {X : Cx} {pos : Pos}
noncomputable def tDNewG (P : Program) (w : World) : TE := fun _ H Q => ∀ p, H p = none → Q (.ref p) (upd H p (GrpO P w p []))
theorem pe_dnewG : PE X (.Dict [] [] pos) (tDNewG X.prog X.w) := fun pins s σ H Q I h =>
  wpAny_Dict_empty ⟨.ref s.heap.objs.size, _, I.laid (a := s.heap.objs.size) (o := GrpO X.prog X.w s.heap.objs.size []) (t' := s.toks) (fun _ _ q => Heap.get?_push_of_some _ q) (Nat.le_refl _)
    (grp_ok (beq_eq_false_iff_ne.mpr (Ne.symm (Nat.ne_of_lt I.big))) (Heap.get?_push_size _ rfl) ⟨⟨rfl, rfl, rfl⟩, rfl, rfl, List.nodup_nil⟩), rfl, h _ (I.hok.fresh (Nat.le_refl _))⟩
/-- d.setdefault(k, []) -/
noncomputable def rSetDef (P : Program) (w : World) : V → List V → Hp → VK → Prop := fun x vs H Q => ∃ d xs k a l, x = .ref d ∧ vs = [.ref a, .ref l] ∧ H d = some (GrpO P w d xs) ∧ K2At H k a ∧ (∀ y ∈ xs, K2At H y.1 y.2.1) ∧ xs.length ≤ 1000 ∧
  (∀ y ∈ xs, y.1 = k → Q (.ref y.2.2) H) ∧ ((∀ y ∈ xs, y.1 ≠ k) → Q (.ref l) (upd H d (GrpO P w d (xs ++ [(k, a, l)]))))
theorem mt_setdef (hu : X.A.units + 3 < cLine) : MtR X "dict.setdefault" (rSetDef X.prog X.w) := by
  intro pins s σ H x vs v us Q I rx rv h
  obtain ⟨d, xs, k, a, l, rfl, rfl, hG, hk, hks, hz, q1, q2⟩ := h
  cases rx
  obtain ⟨u1, u2, rfl, r1, r2⟩ := rv.two
  cases (show u1 = Value.ref a from r1)
  cases (show u2 = Value.ref l from r2)
  obtain ⟨⟨lo, o, es, ep, e, ex, hd, hes, hn⟩, _, _⟩ := I.hok d _ hG
  have ty : s.TypeIs (.ref d) "dict" := ⟨o, e, ex.1⟩
  have hK := hk.is I.hok
  have hes' : es.toList = (xs.map fun x : Row2 => (x.1, x.2.1, Value.ref x.2.2)).map (entryOfKey (k2Kind X.prog X.w)) := by
    rw [hes, List.map_map]
    rfl
  have hzs : es.size = xs.length := by rw [← Array.length_toList, hes, List.length_map]
  have hnd : ((xs.map fun x : Row2 => (x.1, x.2.1, Value.ref x.2.2)).map (·.1)).Nodup := by
    rw [List.map_map]
    exact hn
  have his : ∀ x ∈ (xs.map fun x : Row2 => (x.1, x.2.1, Value.ref x.2.2)), (k2Kind X.prog X.w).is s.heap x.1 x.2.1 := fun x hx => by
    obtain ⟨y, hy, rfl⟩ := List.mem_map.mp hx
    exact (hks y hy).is I.hok
  refine wpAny_call_entry F.slot_dict_setdefault ty F.entry_dict_setdefault ?_ (F.args_dict_setdefault_3 _ _ _)
  unfold Builtin.«dict.setdefault» Builtin.Dict.keyAndDefault
  refine wpAny_bind (wpAny_bind (wpAny_notOrdered_dict ty ?_))
  show wpAny _ _ (pure (d, Value.ref a, some (Value.ref l))) _ _ _
  refine wpAny_pure ?_
  show wpAny _ _ (if (d == sysModules) = true then _ else (dictSetDefault d (.ref a) (.ref l) >>= _)) _ _ _
  rw [if_neg (by rw [lo]; decide)]
  unfold dictSetDefault
  refine wpAny_bind (wpAny_holding (wpAny_bind ((k2Kind X.prog X.w).pyHash (by show X.A.units + 1 + 2 < cLine; omega) hK (wpAny_bind (wpAny_dictFind_heap (knd := k2Kind X.prog X.w) (s := { s with toks := s.toks + (k2Kind X.prog X.w).draws k }) (by show X.A.units + 1 + 2 < cLine; omega) hK e hd hes' his hnd ?_ ?_)))))
  · intro no
    refine wpAny_bind (wpAny_rule (wpAny_bind (wpAny_updateDictKeys (hz := by rw [hzs, sizeLine_eq]; omega) e hd (wpAny_pure (wpAny_pure ⟨_, rfl, ?_⟩)))))
    have no' : ∀ y ∈ xs, y.1 ≠ k := fun y hy z => by
      obtain ⟨j, hj⟩ := List.mem_iff_getElem?.mp hy
      exact no j (y.2.1, Value.ref y.2.2) (by rw [List.getElem?_map, hj, ← z]; rfl)
    refine ⟨.ref l, _, I.write (x := d) (e := d) (o := GrpO X.prog X.w d (xs ++ [(k, a, l)])) (by rw [hG]; exact trivial) (.inl rfl) (fun b u hb g => (Heap.get?_update_other _ _ (Ne.symm hb)).trans g) ⟨_, Heap.get?_update_self _ e (Obj.isFreed_of_dict (Obj.data_mapDictKeys hd _))⟩ ?_, rfl, q2 no'⟩
    refine grp_ok lo (Heap.get?_update_self _ e (Obj.isFreed_of_dict (Obj.data_mapDictKeys hd _))) ⟨ex.mapDictKeys _, Obj.data_mapDictKeys hd _, ?_, ?_⟩
    · rw [List.map_append, ← hes]
      simp [Ent2]
      rfl
    · rw [List.map_append, List.nodup_append]
      refine ⟨hn, by simp, fun x hx y hy z => ?_⟩
      obtain rfl : y = k := by simpa using hy
      obtain ⟨r, hr, rfl⟩ := List.mem_map.mp hx
      exact no' r hr z
  · intro j p hj
    refine wpAny_bind (wpAny_dictEntries e hd ?_)
    rw [List.getElem?_map] at hj
    cases hy : xs[j]? with
    | none => rw [hy] at hj; cases hj
    | some y =>
      rw [hy] at hj
      obtain ⟨z1, z2⟩ := Prod.mk.inj (Option.some.inj hj)
      have g : es[j]? = some (Ent2 X.prog X.w y) := by rw [← Array.getElem?_toList, hes, List.getElem?_map, hy]; rfl
      rw [g]
      refine wpAny_bind (wpAny_rule (wpAny_pure (wpAny_pure ⟨_, rfl, ?_⟩)))
      exact ⟨.ref y.2.2, H, I.tok _, rfl, q1 y (List.mem_of_getElem? hy) z1⟩
/-- d.values() -/
noncomputable def rVals (P : Program) (w : World) : V → List V → Hp → VK → Prop := fun x vs H Q => ∃ d xs, x = .ref d ∧ vs = [] ∧ H d = some (GrpO P w d xs) ∧ ∀ p, H p = none → Q (.ref p) (upd H p (VwO p d))
theorem mt_vals : MtR X "dict.values" (rVals X.prog X.w) := by
  intro pins s σ H x vs v us Q I rx rv h
  obtain ⟨d, xs, rfl, rfl, hG, q⟩ := h
  cases rx
  cases rv
  obtain ⟨⟨lo, o, es, ep, e, ex, hd, hes, hn⟩, _, _⟩ := I.hok d _ hG
  have ty : s.TypeIs (.ref d) "dict" := ⟨o, e, ex.1⟩
  refine wpAny_call_entry F.slot_dict_values ty F.entry_dict_values ?_ (F.args_dict_values_1 _)
  refine wpAny_bind ?_
  unfold Builtin.Dict.noArgs
  refine wpAny_bind (wpAny_notOrdered_dict ty ?_)
  show wpAny _ _ (pure d) _ _ _
  refine wpAny_pure ?_
  show wpAny _ _ (Builtin.Dict.showsAll d >>= _) _ _ _
  unfold Builtin.Dict.showsAll
  rw [if_neg (by rw [lo]; decide)]
  refine wpAny_bind (wpAny_pure (wpAny_bind (wpAny_newObj_type (wpAny_pure ⟨_, rfl, ?_⟩))))
  exact ⟨.ref s.heap.objs.size, _, I.laid (a := s.heap.objs.size) (o := VwO s.heap.objs.size d) (t' := s.toks) (fun _ _ g => Heap.get?_push_of_some _ g) (Nat.le_refl _) (vw_ok (Heap.get?_push_size _ rfl)), rfl, q _ (I.hok.fresh (Nat.le_refl _))⟩
theorem refs2 : ∀ xs : List Row2, Vals (xs.map fun x : Row2 => V.ref x.2.2) (xs.map fun x : Row2 => Value.ref x.2.2)
  | [] => .nil
  | _ :: xs => .cons rfl (refs2 xs)
theorem call_listG (hc : X.calm = true) : CallR X (.type "list") (fun as H Q => ∃ v d xs, as = [.ref v] ∧ H v = some (VwO v d) ∧ H d = some (GrpO X.prog X.w d xs) ∧ xs.length ≤ 1000 ∧ ∀ l, H l = none → Q (.ref l) (upd H l (.lst (xs.map fun x : Row2 => V.ref x.2.2)))) := by
  intro pins s σ H as us Q I r h
  obtain ⟨v, d, xs, rfl, hv, hG, hz, q⟩ := h
  obtain ⟨u, rfl, rx⟩ := vals1 r
  cases rx
  obtain ⟨⟨lo, o, es, ep, e, ex, hd, hes, hn⟩, _, _⟩ := I.hok d _ hG
  obtain ⟨ev, _, _⟩ := I.hok v _ hv
  have hzs : es.size = xs.length := by rw [← Array.length_toList, hes, List.length_map]
  refine PySem.W.kdl_call (src_v (P := X.prog) (w := X.w) (v := v) (d := d) (es := es) (ep := ep)) (I.ok.hd hc) ⟨⟨_, ev, rfl, rfl⟩, ⟨o, e, hd⟩⟩ (by rw [hzs, sizeLine_eq]; omega) fun h' tk acc c kp e2 hI => ?_
  have ea : acc.toList = xs.map fun x : Row2 => Value.ref x.2.2 := by
    refine List.ext_getElem? fun j => ?_
    rw [List.getElem?_map, Array.getElem?_toList]
    cases ga : acc[j]? with
    | none =>
      have h1 : acc.size ≤ j := Array.getElem?_eq_none_iff.mp ga
      rw [List.getElem?_eq_none (by rw [← hzs, ← hI.1]; exact h1)]
      rfl
    | some u =>
      obtain ⟨en, h1, h2⟩ := hI.2 j u ga
      rw [← Array.getElem?_toList, hes, List.getElem?_map] at h1
      cases hy : xs[j]? with
      | none => rw [hy] at h1; cases h1
      | some y =>
        rw [hy] at h1
        obtain rfl := Option.some.inj h1
        rw [h2]
        rfl
  have hvals : Vals (xs.map fun x : Row2 => V.ref x.2.2) acc.toList := by
    rw [ea]
    exact refs2 xs
  refine ⟨.ref s.heap.objs.size, _, I.laid (o := .lst (xs.map fun x : Row2 => V.ref x.2.2)) kp (Nat.le_refl _) ?_, rfl, q _ (I.hok.fresh (Nat.le_refl _))⟩
  exact ⟨by rw [List.length_map, sizeLine_eq]; omega, acc.toList, c, hvals, by simpa using e2⟩
end
section
variable {X : Cx} {o e : Expr} {es : List Expr} {to : TE} {t : TA} {name : Str} {apos cpos : Pos} {id : String} {r : V → List V → Hp → VK → Prop}
noncomputable def isG (P : Program) (w : World) (x : V) (H : Hp) : Prop := ∃ d xs, x = .ref d ∧ H d = some (GrpO P w d xs)
theorem isG_ty {pins : List (Addr × Obj)} {σ : St} {H : Hp} {s : Shared} {x : V} {v : Value} (I : L2.Inv X pins σ H s) (r : RelV x v) (g : isG X.prog X.w x H) : s.TypeIs v "dict" ∧ ∀ a, v = .ref a → ∃ ob, s.heap.get? a = some ob ∧ ob.dict = none := by
  obtain ⟨d, xs, rfl, hG⟩ := g
  cases r
  obtain ⟨⟨lo, o, es, ep, e, ex, _⟩, _, _⟩ := I.hok d _ hG
  refine ⟨⟨o, e, ex.1⟩, fun a z => ?_⟩
  cases z
  exact ⟨o, e, ex.2.1⟩
noncomputable def tBG0 (P : Program) (w : World) (r : V → List V → Hp → VK → Prop) (to : TE) : TE := fun σ H Q => to σ H fun x H1 => isG P w x H1 ∧ r x [] H1 Q
noncomputable def tBG (P : Program) (w : World) (r : V → List V → Hp → VK → Prop) (to : TE) (t : TA) : TE := fun σ H Q => to σ H fun x H1 => isG P w x H1 ∧ t σ H1 fun xs H2 => r x xs H2 Q
theorem pe_bg0 (slot : Slot "dict" name id) (hty : typeOf (.builtin id) = pure (.type "method_descriptor")) (hm : MtR X id r) (ho : PE X o to)
    (hbase : attributeBase o name X.env (eval o X.env) = eval o X.env := by rfl) (hline : (apos.endLine == cpos.line) = true := by rfl) : PE X (.Call (.Attribute o name apos) [] [] cpos) (tBG0 X.prog X.w r to) := by
  intro pins s σ H Q I h
  refine wpAny_Call_method0_late hbase hline (thn (ho pins s σ H _ I h) fun v s1 ⟨x, H1, I1, r1, ty, q1⟩ => ?_)
  obtain ⟨h1, h2⟩ := isG_ty I1 r1 ty
  exact ⟨"dict", id, F.plainAttrs_dict, slot, hty, h1, h2, Calls.callWith_builtin rfl (PySem.evalArgs_none (hm pins s1 σ H1 x [] v [] Q I1 r1 .nil q1))⟩
theorem pe_bg (slot : Slot "dict" name id) (hty : typeOf (.builtin id) = pure (.type "method_descriptor")) (hm : MtR X id r) (ho : PE X o to) (ha : PA X (e :: es) t)
    (hbase : attributeBase o name X.env (eval o X.env) = eval o X.env := by rfl)
    (hfew : ((backTo cpos (starEach (e :: es) X.env)).all (fun x => !x.1) && (backToKw cpos (keywordEach [] X.env)).all (fun x => x.1.isSome)
      && decide ((e :: es).length + ([] : List Keyword).length + (if ([] : List Keyword).isEmpty then 0 else 1) < 30)) = true := by rfl)
    (hline : (apos.endLine == cpos.line) = true := by rfl) (hs : starEach (e :: es) X.env = (false, eval e X.env) :: starEach es X.env := by rfl) (hplain : (backTo cpos (starEach es X.env)).any (·.1) = false := by rfl) :
    PE X (.Call (.Attribute o name apos) (e :: es) [] cpos) (tBG X.prog X.w r to t) := by
  intro pins s σ H Q I h
  refine wpAny_Call_method_late hbase hfew hline rfl (thn (ho pins s σ H _ I h) fun v s1 ⟨x, H1, I1, r1, ty, q1⟩ => ?_)
  obtain ⟨h1, h2⟩ := isG_ty I1 r1 ty
  refine ⟨"dict", id, F.plainAttrs_dict, slot, hty, h1, h2, ?_⟩
  have hA := ha cpos pins s1 σ H1 _ I1 q1
  rw [hs] at hA ⊢
  refine Calls.callWith_builtin (by show (false || (backTo cpos (starEach es X.env)).any (·.1)) = false; rw [hplain] <;> rfl) (Calls.evalArgs_plain ?_)
  exact thn hA fun us s2 ⟨vs, H2, I2, r2, q2⟩ => hm pins s2 σ H2 x vs v us Q I2 r1 r2 q2
end
end KS
end
section
set_option Elab.async false
set_option maxRecDepth 100000
set_option linter.all false
namespace L2
open PySem PySem.Spec PyProof.Rows
section
variable {X : Cx}
noncomputable def tCut (t : TS) : TS := fun D σ H => ∃ N : St → Hp → Prop, t { D with nx := N } σ H ∧ ∀ σ' H', N σ' H' → D.nx σ' H'
theorem ps_cut {st : Stmt} {t : TS} (h : PS X st t) : PS X st (tCut t) := by
  intro pins s σ H D I ⟨N, h1, h2⟩
  refine thn (h pins s σ H { D with nx := N } I h1) fun f s1 q => ?_
  cases f with
  | next =>
    obtain ⟨σ', H', I', q⟩ := q
    exact ⟨σ', H', I', h2 σ' H' q⟩
  | ret v => exact q
  | brk => exact q
  | cont => exact q
end
end L2
end
section
set_option maxRecDepth 100000
set_option maxHeartbeats 4000000
set_option linter.all false
namespace KS
open PySem PySem.Spec L2
open PyProof.Rows hiding St
/-- two sequences of one kind -/
noncomputable def Sq2 (K : PySem.W.Frag) (H : Hp) (a c : Addr) (xs ys : List V) : Prop := (SqL K H a xs ∧ SqL K H c ys) ∨ (SqT K H a xs ∧ SqT K H c ys)
noncomputable def allE (e : Nat → Bool) (n m : Nat) : Bool := (List.range (min n m)).all e && n == m
/-- x == y comes out as b, n deep -/
noncomputable def EqD (K : PySem.W.Frag) (H : Hp) : Nat → V → V → Bool → Prop
  | 0, x, y, b => (x = y ∧ (∃ a, x = .ref a) ∧ b = true) ∨ (flatV x = true ∧ flatV y = true ∧ b = eqV x y)
  | n + 1, x, y, b => EqD K H n x y b ∨ ∃ a c xs ys e, x = .ref a ∧ y = .ref c ∧ a ≠ c ∧ Sq2 K H a c xs ys ∧ (∀ (j : Nat) (x y : V), xs[j]? = some x → ys[j]? = some y → EqD K H n x y (e j)) ∧ b = allE e xs.length ys.length
section
variable {X : Cx} {pins : List (Addr × Obj)} {σ : St} {H : Hp} {s : Shared}
theorem get_of {xs : List V} {us : List Value} (r : Vals xs us) {j : Nat} (hj : j < us.toArray.size) : ∃ x, xs[j]? = some x ∧ RelV x us.toArray[j] := by
  have hl : us.length = xs.length := r.length.symm
  have hj' : j < us.length := by simpa using hj
  have hx : j < xs.length := by omega
  obtain ⟨u, hu, ru⟩ := r.get (i := j) (x := xs[j]) (by simp [hx])
  refine ⟨xs[j], by simp [hx], ?_⟩
  rw [List.getElem?_eq_getElem hj'] at hu
  rw [List.getElem_toArray, Option.some.inj hu]
  exact ru
theorem seq_rc {A : Around} {n : Nat} {a c : Addr} {xs ys : List V} {e : Nat → Bool} (I : Inv X pins σ H s) (hu : A.units < cLine) (h2 : Sq2 X.K H a c xs ys)
    (he : ∀ (j : Nat) (x y : V) (u v : Value), xs[j]? = some x → ys[j]? = some y → RelV x u → RelV y v → SeqAt.EqAt A.in1 s u v (e j)) : SeqAt.RcAt A s (.ref a) (.ref c) (allE e xs.length ys.length) := by
  rcases h2 with ⟨ha, hc⟩ | ⟨ha, hc⟩
  · obtain ⟨its, r, pa, _⟩ := I.list ha
    obtain ⟨its2, r2, pc, _⟩ := I.list hc
    have l1 : xs.length = its.toArray.size := by simpa using r.length
    have l2 : ys.length = its2.toArray.size := by simpa using r2.length
    by_cases hl : its.toArray.size = its2.toArray.size
    · have e1 : allE e xs.length ys.length = (List.range its.toArray.size).all e := by
        unfold allE
        rw [l1, l2, ← hl, Nat.min_self]
        simp
      rw [e1]
      refine SeqAt.RcAt.lists pa.isList pc.isList hl hu fun j h1 h2 => ?_
      obtain ⟨x, hx, rx⟩ := get_of r h1
      obtain ⟨y, hy, ry⟩ := get_of r2 h2
      exact he j x y _ _ hx hy rx ry
    · have e1 : allE e xs.length ys.length = false := by
        unfold allE
        rw [l1, l2]
        simp only [Bool.and_eq_false_iff]
        right
        simpa using hl
      rw [e1]
      exact SeqAt.RcAt.lists_lengths pa.isList pc.isList (by simpa using hl) hu
  · obtain ⟨its, r, pa, _⟩ := I.tuple ha
    obtain ⟨its2, r2, pc, _⟩ := I.tuple hc
    have l1 : xs.length = its.toArray.size := by simpa using r.length
    have l2 : ys.length = its2.toArray.size := by simpa using r2.length
    unfold allE
    rw [l1, l2]
    refine SeqAt.RcAt.tuples (show s.heap.IsTuple a its.toArray from pa) (show s.heap.IsTuple c its2.toArray from pc) hu fun j h1 h2 => ?_
    obtain ⟨x, hx, rx⟩ := get_of r h1
    obtain ⟨y, hy, ry⟩ := get_of r2 h2
    exact he j x y _ _ hx hy rx ry
theorem seq_ne {A : Around} {n : Nat} {a c : Addr} {xs ys : List V} {e : Nat → Bool} (I : Inv X pins σ H s) (hu : A.units < cLine) (h2 : Sq2 X.K H a c xs ys)
    (he : ∀ (j : Nat) (x y : V) (u v : Value), xs[j]? = some x → ys[j]? = some y → RelV x u → RelV y v → SeqAt.EqAt A.in1 s u v (e j)) : SeqAt.RcNeAt A s (.ref a) (.ref c) (!allE e xs.length ys.length) := by
  rcases h2 with ⟨ha, hc⟩ | ⟨ha, hc⟩
  · obtain ⟨its, r, pa, _⟩ := I.list ha
    obtain ⟨its2, r2, pc, _⟩ := I.list hc
    have l1 : xs.length = its.toArray.size := by simpa using r.length
    have l2 : ys.length = its2.toArray.size := by simpa using r2.length
    by_cases hl : its.toArray.size = its2.toArray.size
    · have e1 : allE e xs.length ys.length = (List.range its.toArray.size).all e := by
        unfold allE
        rw [l1, l2, ← hl, Nat.min_self]
        simp
      rw [e1]
      refine SeqAt.RcNeAt.lists pa.isList pc.isList hl hu fun j h1 h2 => ?_
      obtain ⟨x, hx, rx⟩ := get_of r h1
      obtain ⟨y, hy, ry⟩ := get_of r2 h2
      exact he j x y _ _ hx hy rx ry
    · have e1 : allE e xs.length ys.length = false := by
        unfold allE
        rw [l1, l2]
        simp only [Bool.and_eq_false_iff]
        right
        simpa using hl
      rw [e1]
      exact SeqAt.RcNeAt.lists_lengths pa.isList pc.isList (by simpa using hl) hu
  · obtain ⟨its, r, pa, _⟩ := I.tuple ha
    obtain ⟨its2, r2, pc, _⟩ := I.tuple hc
    have l1 : xs.length = its.toArray.size := by simpa using r.length
    have l2 : ys.length = its2.toArray.size := by simpa using r2.length
    unfold allE
    rw [l1, l2]
    refine SeqAt.RcNeAt.tuples (show s.heap.IsTuple a its.toArray from pa) (show s.heap.IsTuple c its2.toArray from pc) hu fun j h1 h2 => ?_
    obtain ⟨x, hx, rx⟩ := get_of r h1
    obtain ⟨y, hy, ry⟩ := get_of r2 h2
    exact he j x y _ _ hx hy rx ry
theorem eqD_at (I : Inv X pins σ H s) : ∀ (n : Nat) (A : Around) (x y : V) (u v : Value) (b : Bool), A.units + n < cLine → EqD X.K H n x y b → RelV x u → RelV y v → SeqAt.EqAt A s u v b
  | 0, A, x, y, u, v, b, hu, h, rx, ry => by
    rcases h with ⟨rfl, ⟨a, rfl⟩, rfl⟩ | ⟨h1, h2, rfl⟩
    · cases rx
      cases ry
      exact SeqAt.EqAt.same _
    · exact eqAt_V rx ry h1 h2
  | n + 1, A, x, y, u, v, b, hu, h, rx, ry => by
    rcases h with h | ⟨a, c, xs, ys, e, rfl, rfl, hne, h2, he, rfl⟩
    · exact eqD_at I n A x y u v b (by omega) h rx ry
    · cases rx
      cases ry
      refine SeqAt.EqAt.of_refs hne (seq_rc (n := n) I (by omega) h2 fun j x y u v hx hy rx ry => ?_)
      exact eqD_at I n A.in1 x y u v (e j) (by show A.units + 1 + n < cLine; omega) (he j x y hx hy) rx ry
end
section
variable {X : Cx}
/-- xs == ys, sequences of one kind, their items n deep -/
noncomputable def rEqS (K : PySem.W.Frag) (neg : Bool) (n : Nat) : R2 := fun x y H Q => ∃ a c xs ys e, x = .ref a ∧ y = .ref c ∧ Sq2 K H a c xs ys ∧ (∀ (j : Nat) (x y : V), xs[j]? = some x → ys[j]? = some y → EqD K H n x y (e j)) ∧ Q (.bl (if neg then !allE e xs.length ys.length else allE e xs.length ys.length)) H
theorem op_neS {n : Nat} (hu : X.A.units + n + 1 < cLine) : OpR X (compareOp .NotEq) (rEqS X.K true n) := by
  intro pins s σ H x y v u Q I rx ry h
  obtain ⟨a, c, xs, ys, e, rfl, rfl, h2, he, q⟩ := h
  cases rx
  cases ry
  exact seq_ne (n := n) I (by omega) h2 (fun j x y u v hx hy rx ry => eqD_at I n X.A.in1 x y u v (e j) (by show X.A.units + 1 + n < cLine; omega) (he j x y hx hy) rx ry) _ _ _ _ ⟨.bl _, H, I, rfl, q⟩
end
theorem allE_true {xs ys : List V} (h : xs.length = ys.length) : allE (fun _ => true) xs.length ys.length = true := by
  unfold allE
  simp [h]
noncomputable def EqT (K : PySem.W.Frag) (H : Hp) (n : Nat) (x y : V) : Prop := EqD K H n x y true
theorem EqT.flat {K : PySem.W.Frag} {H : Hp} {n : Nat} {x : V} (h : flatV x = true) (he : eqV x x = true) : EqT K H n x x := by
  induction n with
  | zero => exact .inr ⟨h, h, he.symm⟩
  | succ n ih => exact .inl ih
theorem rEqS.true {K : PySem.W.Frag} {H : Hp} {n : Nat} {a c : Addr} {xs ys : List V} {neg : Bool} {Q : VK} (h2 : Sq2 K H a c xs ys) (h : Paired (EqT K H n) xs ys) (q : Q (.bl (!neg)) H) : rEqS K neg n (.ref a) (.ref c) H Q := by
  refine ⟨a, c, xs, ys, fun _ => Bool.true, rfl, rfl, h2, fun j x y hx hy => ?_, ?_⟩
  · clear h2
    induction h generalizing j with
    | nil => simp at hx
    | cons r t ih =>
      cases j with
      | zero => simp at hx hy; subst hx; subst hy; exact r
      | succ j => exact ih j (by simpa using hx) (by simpa using hy)
  · rw [allE_true (Paired.length h)]
    cases neg <;> exact q
end KS
end
section
set_option maxRecDepth 100000
set_option maxHeartbeats 4000000
set_option linter.all false
namespace KS
open PySem KsTab PyProof.Rows
section
variable {prog : Program} {w : World} {A : Around} {E : Value → Shared → Prop} {s : Shared}
end
end KS
end
section
set_option maxRecDepth 100000
set_option maxHeartbeats 4000000
set_option linter.all false
namespace KS
open PySem KsTab PyProof.Rows
section
variable {prog : Program} {w : World} {A : Around} {E : Value → Shared → Prop} {s : Shared}
set_option maxHeartbeats 8000000 in
end
section
open L2
variable {X : Cx}
end
end KS
end
section
set_option maxRecDepth 100000
set_option maxHeartbeats 4000000
set_option linter.all false
namespace KS
open PySem PySem.Spec L2
open PyProof.Rows hiding St
section
variable {X : Cx} {pins : List (Addr × Obj)} {σ : St} {H : Hp} {s : Shared} {h' : Heap}
end
section
variable {X : Cx}
end
end KS
end
section
set_option maxRecDepth 100000
set_option maxHeartbeats 4000000
set_option linter.all false
namespace KS
open PySem PySem.Calls PyProof.Rows PySem.Spec
section
variable {prog : Program} {w : World} {A : Around} {E : Value → Shared → Prop} {s : Shared}
end
end KS
end
section
set_option maxRecDepth 100000
set_option maxHeartbeats 4000000
set_option linter.all false
namespace KS
open PySem PySem.Calls PyProof.Rows PySem.Spec
section
variable {prog : Program} {w : World} {A : Around} {E : Value → Shared → Prop} {s : Shared}
end
end KS
end
section
set_option maxRecDepth 100000
set_option maxHeartbeats 4000000
set_option linter.all false
namespace KS
open PySem PySem.Spec L2
open PyProof.Rows hiding St
section
variable {X : Cx} {pins : List (Addr × Obj)} {σ : St} {H : Hp} {s : Shared} {h' : Heap}
end
section
variable {X : Cx}
end
end KS
end
section
set_option maxRecDepth 100000
namespace KP
end KP
end
section
set_option maxRecDepth 100000
namespace KP
/-- at most so many pairs over L + 1 levels, n things (to 12) -/
noncomputable def tab : List (List Nat) := [[0, 0, 0, 0, 0, 0, 0, 0, 0, 0, 0, 0, 0], [0, 0, 1, 2, 4, 6, 9, 12, 16, 20, 25, 30, 36], [0, 0, 1, 3, 5, 8, 12, 16, 21, 27, 33, 40, 48], [0, 0, 1, 3, 6, 9, 13, 18, 24, 30, 37, 45, 54], [0, 0, 1, 3, 6, 10, 14, 19, 25, 32, 40, 48, 57], [0, 0, 1, 3, 6, 10, 15, 20, 26, 33, 41, 50, 60], [0, 0, 1, 3, 6, 10, 15, 21, 27, 34, 42, 51, 61], [0, 0, 1, 3, 6, 10, 15, 21, 28, 35, 43, 52, 62]]
noncomputable def F (L n : Nat) : Nat := (tab.getD L []).getD n 0
theorem F_step : ∀ L, L < 7 → ∀ n, n ≤ 12 → ∀ k, k ≤ n → F L (n - k) + k * (n - k) ≤ F (L + 1) n := by decide +kernel
noncomputable def cnt (l : List Nat) : Nat := (l.map fun a => l.countP fun b => decide (b < a)).sum
theorem sum_split {α : Type} (p : α → Bool) (f : α → Nat) : ∀ (l : List α), (l.map f).sum = ((l.filter p).map f).sum + ((l.filter fun x => !p x).map f).sum
  | [] => rfl
  | a :: l => by
    have ih := sum_split p f l
    cases e : p a with
    | true =>
      rw [List.filter_cons_of_pos e, List.filter_cons_of_neg (by simp [e])]
      simp only [List.map_cons, List.sum_cons]
      omega
    | false =>
      rw [List.filter_cons_of_neg (by simp [e]), List.filter_cons_of_pos (by simp [e])]
      simp only [List.map_cons, List.sum_cons]
      omega
theorem sum_const {α : Type} (c : Nat) : ∀ (l : List α), (l.map fun _ => c).sum = l.length * c
  | [] => by simp
  | a :: l => by
    simp only [List.map_cons, List.sum_cons, List.length_cons, sum_const c l, Nat.succ_mul]
    omega
theorem countP_filter' {α : Type} (p q : α → Bool) : ∀ (l : List α), (∀ x ∈ l, p x = true → q x = true) → l.countP p = (l.filter q).countP p
  | [], _ => rfl
  | a :: l, h => by
    have ih := countP_filter' p q l fun x hx => h x (List.mem_cons_of_mem _ hx)
    cases e : q a with
    | true =>
      rw [List.filter_cons_of_pos e, List.countP_cons, List.countP_cons, ih]
    | false =>
      have hp : p a = false := by
        cases z : p a with
        | false => rfl
        | true => have := h a List.mem_cons_self z; rw [e] at this; cases this
      rw [List.filter_cons_of_neg (by simp [e]), List.countP_cons, ih, hp]
      simp
theorem cnt_le : ∀ (L : Nat) (l : List Nat), L ≤ 7 → l.length ≤ 12 → (∀ x ∈ l, x < L + 1) → cnt l ≤ F L l.length
  | 0, l, _, _, h => by
    have : cnt l = (l.map fun _ => 0).sum := by
      unfold cnt
      congr 1
      refine List.map_congr_left fun a ha => ?_
      rw [List.countP_eq_zero]
      intro b _
      have := h a ha
      have : ¬ b < a := by omega
      simp [this]
    rw [this, sum_const, Nat.mul_zero]
    exact Nat.zero_le _
  | L + 1, l, hL, hn, h => by
    have hr : ∀ x ∈ l.filter (fun x => !decide (x = L + 1)), x < L + 1 := fun x hx => by
      obtain ⟨h1, h2⟩ := List.mem_filter.mp hx
      have := h x h1
      have : x ≠ L + 1 := by simpa using h2
      omega
    have ih := cnt_le L _ (by omega) (Nat.le_trans (List.length_filter_le _ _) hn) hr
    have hlen : l.length = (l.filter (fun x => decide (x = L + 1))).length + (l.filter (fun x => !decide (x = L + 1))).length := by
      have := sum_split (fun x => decide (x = L + 1)) (fun _ => 1) l
      rw [sum_const, sum_const, sum_const] at this
      omega
    have top : ((l.filter (fun x => decide (x = L + 1))).map fun a => l.countP fun b => decide (b < a)).sum = (l.filter (fun x => decide (x = L + 1))).length * (l.filter (fun x => !decide (x = L + 1))).length := by
      rw [← sum_const]
      congr 1
      refine List.map_congr_left fun a ha => ?_
      have ea : a = L + 1 := by simpa using (List.mem_filter.mp ha).2
      rw [ea, List.countP_eq_length_filter]
      congr 1
      refine List.filter_congr fun x hx => ?_
      have := h x hx
      by_cases e : x = L + 1
      · rw [e]; simp
      · have : x < L + 1 := by omega
        simp [e, this]
    have low : ((l.filter (fun x => !decide (x = L + 1))).map fun a => l.countP fun b => decide (b < a)).sum = cnt (l.filter (fun x => !decide (x = L + 1))) := by
      unfold cnt
      congr 1
      refine List.map_congr_left fun a ha => ?_
      refine countP_filter' _ _ l fun x hx hp => ?_
      have := hr a ha
      have : x < a := by simpa using hp
      have : x ≠ L + 1 := by omega
      simp [this]
    have tot : cnt l = (l.filter (fun x => decide (x = L + 1))).length * (l.filter (fun x => !decide (x = L + 1))).length + cnt (l.filter (fun x => !decide (x = L + 1))) := by
      unfold cnt at low ⊢
      rw [sum_split (fun x => decide (x = L + 1)), top, low]
    have st := F_step L (by omega) l.length hn (l.filter (fun x => decide (x = L + 1))).length (by omega)
    have e : l.length - (l.filter (fun x => decide (x = L + 1))).length = (l.filter (fun x => !decide (x = L + 1))).length := by omega
    rw [e] at st
    omega
theorem F5 : ∀ n, n ≤ 12 → F 4 n ≤ 57 := by decide +kernel
theorem F8 : ∀ n, n ≤ 12 → F 7 n ≤ 62 := by decide +kernel
theorem sum_le {α : Type} {f g : α → Nat} : ∀ {l : List α}, (∀ x ∈ l, f x ≤ g x) → (l.map f).sum ≤ (l.map g).sum
  | [], _ => Nat.le_refl _
  | a :: l, h => by
    simp only [List.map_cons, List.sum_cons]
    have := h a List.mem_cons_self
    have := sum_le (l := l) fun x hx => h x (List.mem_cons_of_mem _ hx)
    omega
/-- pairs (a, b) with the level of a above that of b -/
theorem pairs_le {n L : Nat} (hn : n ≤ 12) (hL : L ≤ 7) (q : Nat → Nat) (p : Nat → Nat → Bool) (hq : ∀ i, i < n → q i < L + 1) (hp : ∀ a b, a < n → b < n → p a b = true → q b < q a) :
    ((List.range n).map fun a => ((List.range n).filter fun b => p a b).length).sum ≤ F L n := by
  have h := cnt_le L ((List.range n).map q) hL (by rw [List.length_map, List.length_range]; exact hn) fun x hx => by
    obtain ⟨i, hi, e⟩ := List.mem_map.mp hx
    rw [← e]
    exact hq i (List.mem_range.mp hi)
  rw [List.length_map, List.length_range] at h
  refine Nat.le_trans ?_ h
  unfold cnt
  rw [List.map_map]
  refine sum_le fun a ha => ?_
  have ha := List.mem_range.mp ha
  show _ ≤ List.countP (fun b => decide (b < q a)) (List.map q (List.range n))
  rw [List.countP_map, ← List.countP_eq_length_filter]
  refine List.countP_mono_left fun b hb hpb => ?_
  exact decide_eq_true (hp a b ha (List.mem_range.mp hb) hpb)
end KP
end
section
set_option maxRecDepth 100000
namespace KP
end KP
end
section
set_option maxRecDepth 100000
namespace KP
end KP
end
section
set_option maxRecDepth 100000
namespace KP
end KP
end
section
set_option maxRecDepth 100000
namespace KP
end KP
namespace KP
end KP
end
section
set_option maxRecDepth 100000
set_option maxHeartbeats 4000000
set_option linter.all false
namespace KS
open PySem PySem.Spec L2
open PyProof.Rows hiding St
section
variable {M : Model} {A : Around} {E : Value → Shared → Prop} {s : Shared} {base : Heap} {env : Env} {outer : List Env} {L e : Addr} {oe : Obj} {vs : Array Value}
end
end KS
end
section
set_option maxRecDepth 100000
set_option maxHeartbeats 4000000
set_option linter.all false
namespace KS
open PySem PySem.Spec L2
open PyProof.Rows hiding St
section
variable {X : Cx} {pins : List (Addr × Obj)} {σ : St} {H : Hp} {s : Shared}
end
section
variable {P : Program} {w : World} {K : PySem.W.Frag} {mg : Str → Option Value} {base : Heap} {N : List Str} {qual : Str} {scope : Scope} {f : Addr} {cd : Value} {A : Around} {outer : List Env} {s : Shared} {H : Hp} {E : XK}
end
section
variable {P : Program} {w : World} {K : PySem.W.Frag} {mg : Str → Option Value} {base : Heap}
end
section
variable {X : Cx} {E : XK} {B newId initId : String} {bmB : List Value} {C : Addr} {x : Str} {np cpos pos : Pos} {a : Expr} {ta : TE}
end
end KS
end
section
set_option maxRecDepth 100000
set_option maxHeartbeats 4000000
set_option linter.all false
namespace KS
open PySem PySem.Spec L2
open PyProof.Rows hiding St
section
variable {X : Cx} {pins : List (Addr × Obj)} {σ : St} {H : Hp} {s : Shared}
end
section
variable {X : Cx} {pins : List (Addr × Obj)} {σ : St} {H : Hp} {s : Shared} {a : Addr} {oe : Obj}
end
section
open PySem.W
variable {prog : Program} {w : World} {A : Around} {E : Value → Shared → Prop} {K : Frag} {h : Heap} {g : Array GenState} {d : Drawn} {t : Nat} {os : OsState} {a D : Addr} {ox : Obj}
end
section
variable {X : Cx} {K : PySem.W.Frag} {a : Addr} {oe : Obj}
end
section
variable {X : Cx} {k : Nat} {f Dc : Addr} {fd : FuncData} {ps : List Str} {sp : Sp} {x y n : Str} {p cpos epos np hpos pos : Pos} {e : Expr} {es : List Expr} {ta : TA} {b₀ : Stmt} {suite : List Stmt} {th : Addr → Obj → L2.TS} {i : Nat}
end
end KS
end
section
set_option maxRecDepth 100000
set_option linter.all false
namespace KS
open PySem PySem.Spec L2
open PyProof.Rows hiding St
end KS
end
set_option Elab.async false
set_option maxRecDepth 100000
set_option maxHeartbeats 4000000
set_option linter.all false
namespace KS
open PySem PySem.Spec L2
open PyProof.Rows hiding St
noncomputable def top (i : Nat) : Stmt := PySem.Challenge.pw_keenscale_k02_things_alike.main.body.getD i (.Pass ⟨0, 0, 0, 0⟩)
/-- Python's own names are free -/
structure Bl (mg : Str → Option Value) : Prop where
  len : mg "len" = none
  range : mg "range" = none
  list : mg "list" = none
  sorted : mg "sorted" = none
  set : mg "set" = none
  isinstance : mg "isinstance" = none
  int : mg "int" = none
  bool : mg "bool" = none
  tuple : mg "tuple" = none
  str : mg "str" = none
  max : mg "max" = none
  min : mg "min" = none
  zip : mg "zip" = none
  ValueError : mg "ValueError" = none
/-- a def of the text -/
structure Df (K : PySem.W.Frag) (mg : Str → Option Value) (x : Str) (st : Stmt) (f : Addr) (fd : FuncData) : Prop where
  F : Fun K x x st f fd
  m : mg x = some (.ref f)
noncomputable abbrev mkSc (names : List (Str × NameKind)) : Scope := { kind := .function, names := names, isGenerator := false, isCoroutine := false, more := [] }
theorem us1 {n : Nat} {us : List Value} (h : us.length = n + 1) : ∃ u r, us = u :: r ∧ r.length = n := by
  cases us with
  | nil => cases h
  | cons u r => exact ⟨u, r, rfl, Nat.succ.inj h⟩
theorem bd1 {K : PySem.W.Frag} {x : Str} {st : Stmt} {f : Addr} {fd : FuncData} {p0 : Str} (F : Fun K x x st f fd) (h : ∀ (kV doc pm : Value) (an : Option Addr) (cdv ct u0 : Value), bindArgs (PySem.W.fnOf x x (defArgs st) (defBody st) (defScope st) .none kV doc pm an cdv ct) ⟨[u0], []⟩ = pure [(p0, u0)]) : Binds K fd [p0] [] :=
  F.binds fun _ _ _ _ _ _ us hl => by
    obtain ⟨u0, r0, rfl, h0⟩ := us1 hl
    obtain rfl := List.eq_nil_of_length_eq_zero h0
    exact h _ _ _ _ _ _ _
theorem bd2 {K : PySem.W.Frag} {x : Str} {st : Stmt} {f : Addr} {fd : FuncData} {p0 p1 : Str} (F : Fun K x x st f fd) (h : ∀ (kV doc pm : Value) (an : Option Addr) (cdv ct u0 u1 : Value), bindArgs (PySem.W.fnOf x x (defArgs st) (defBody st) (defScope st) .none kV doc pm an cdv ct) ⟨[u0, u1], []⟩ = pure [(p0, u0), (p1, u1)]) : Binds K fd [p0, p1] [] :=
  F.binds fun _ _ _ _ _ _ us hl => by
    obtain ⟨u0, r0, rfl, h0⟩ := us1 hl
    obtain ⟨u1, r1, rfl, h1⟩ := us1 h0
    obtain rfl := List.eq_nil_of_length_eq_zero h1
    exact h _ _ _ _ _ _ _ _
theorem bd3 {K : PySem.W.Frag} {x : Str} {st : Stmt} {f : Addr} {fd : FuncData} {p0 p1 p2 : Str} (F : Fun K x x st f fd) (h : ∀ (kV doc pm : Value) (an : Option Addr) (cdv ct u0 u1 u2 : Value), bindArgs (PySem.W.fnOf x x (defArgs st) (defBody st) (defScope st) .none kV doc pm an cdv ct) ⟨[u0, u1, u2], []⟩ = pure [(p0, u0), (p1, u1), (p2, u2)]) : Binds K fd [p0, p1, p2] [] :=
  F.binds fun _ _ _ _ _ _ us hl => by
    obtain ⟨u0, r0, rfl, h0⟩ := us1 hl
    obtain ⟨u1, r1, rfl, h1⟩ := us1 h0
    obtain ⟨u2, r2, rfl, h2⟩ := us1 h1
    obtain rfl := List.eq_nil_of_length_eq_zero h2
    exact h _ _ _ _ _ _ _ _ _
theorem bd4 {K : PySem.W.Frag} {x : Str} {st : Stmt} {f : Addr} {fd : FuncData} {p0 p1 p2 p3 : Str} (F : Fun K x x st f fd) (h : ∀ (kV doc pm : Value) (an : Option Addr) (cdv ct u0 u1 u2 u3 : Value), bindArgs (PySem.W.fnOf x x (defArgs st) (defBody st) (defScope st) .none kV doc pm an cdv ct) ⟨[u0, u1, u2, u3], []⟩ = pure [(p0, u0), (p1, u1), (p2, u2), (p3, u3)]) : Binds K fd [p0, p1, p2, p3] [] :=
  F.binds fun _ _ _ _ _ _ us hl => by
    obtain ⟨u0, r0, rfl, h0⟩ := us1 hl
    obtain ⟨u1, r1, rfl, h1⟩ := us1 h0
    obtain ⟨u2, r2, rfl, h2⟩ := us1 h1
    obtain ⟨u3, r3, rfl, h3⟩ := us1 h2
    obtain rfl := List.eq_nil_of_length_eq_zero h3
    exact h _ _ _ _ _ _ _ _ _ _
theorem bd5 {K : PySem.W.Frag} {x : Str} {st : Stmt} {f : Addr} {fd : FuncData} {p0 p1 p2 p3 p4 : Str} (F : Fun K x x st f fd) (h : ∀ (kV doc pm : Value) (an : Option Addr) (cdv ct u0 u1 u2 u3 u4 : Value), bindArgs (PySem.W.fnOf x x (defArgs st) (defBody st) (defScope st) .none kV doc pm an cdv ct) ⟨[u0, u1, u2, u3, u4], []⟩ = pure [(p0, u0), (p1, u1), (p2, u2), (p3, u3), (p4, u4)]) : Binds K fd [p0, p1, p2, p3, p4] [] :=
  F.binds fun _ _ _ _ _ _ us hl => by
    obtain ⟨u0, r0, rfl, h0⟩ := us1 hl
    obtain ⟨u1, r1, rfl, h1⟩ := us1 h0
    obtain ⟨u2, r2, rfl, h2⟩ := us1 h1
    obtain ⟨u3, r3, rfl, h3⟩ := us1 h2
    obtain ⟨u4, r4, rfl, h4⟩ := us1 h3
    obtain rfl := List.eq_nil_of_length_eq_zero h4
    exact h _ _ _ _ _ _ _ _ _ _ _
/-- a def: where it stands, what it is -/
structure TxD (K : PySem.W.Frag) (mg : Str → Option Value) (x : Str) (st : Stmt) where
  a : Addr
  f : FuncData
  d : Df K mg x st a f
set_option genInjectivity false in
set_option genSizeOfSpec false in
/-- all defs of the text -/
structure Tx (K : PySem.W.Frag) (mg : Str → Option Value) where
  B : Bl mg
  x_refuse_strangers : TxD K mg "refuse_strangers" (top 4)
  x_table_of : TxD K mg "table_of" (top 5)
  x_alike : TxD K mg "alike" (top 6)
  x__law_cell_at : TxD K mg "_law_cell_at" (top 8)
  x__law_whole : TxD K mg "_law_whole" (top 9)
  x__law_marked : TxD K mg "_law_marked" (top 10)
  x__law_spanned : TxD K mg "_law_spanned" (top 11)
  x__law_any : TxD K mg "_law_any" (top 12)
  x__law_turned : TxD K mg "_law_turned" (top 13)
  x__law_ringed : TxD K mg "_law_ringed" (top 14)
  x__law_sayings : TxD K mg "_law_sayings" (top 15)
  x__law_numbers : TxD K mg "_law_numbers" (top 16)
  x__law_alike : TxD K mg "_law_alike" (top 17)
  x_law : TxD K mg "law" (top 18)
noncomputable abbrev Tx.a_refuse_strangers {K : PySem.W.Frag} {mg : Str → Option Value} (T : Tx K mg) : Addr := T.x_refuse_strangers.a
noncomputable abbrev Tx.f_refuse_strangers {K : PySem.W.Frag} {mg : Str → Option Value} (T : Tx K mg) : FuncData := T.x_refuse_strangers.f
theorem Tx.d_refuse_strangers {K : PySem.W.Frag} {mg : Str → Option Value} (T : Tx K mg) : Df K mg "refuse_strangers" (top 4) T.a_refuse_strangers T.f_refuse_strangers := T.x_refuse_strangers.d
noncomputable abbrev Tx.a_table_of {K : PySem.W.Frag} {mg : Str → Option Value} (T : Tx K mg) : Addr := T.x_table_of.a
noncomputable abbrev Tx.f_table_of {K : PySem.W.Frag} {mg : Str → Option Value} (T : Tx K mg) : FuncData := T.x_table_of.f
theorem Tx.d_table_of {K : PySem.W.Frag} {mg : Str → Option Value} (T : Tx K mg) : Df K mg "table_of" (top 5) T.a_table_of T.f_table_of := T.x_table_of.d
noncomputable abbrev Tx.a_alike {K : PySem.W.Frag} {mg : Str → Option Value} (T : Tx K mg) : Addr := T.x_alike.a
noncomputable abbrev Tx.f_alike {K : PySem.W.Frag} {mg : Str → Option Value} (T : Tx K mg) : FuncData := T.x_alike.f
theorem Tx.d_alike {K : PySem.W.Frag} {mg : Str → Option Value} (T : Tx K mg) : Df K mg "alike" (top 6) T.a_alike T.f_alike := T.x_alike.d
noncomputable abbrev Tx.a__law_cell_at {K : PySem.W.Frag} {mg : Str → Option Value} (T : Tx K mg) : Addr := T.x__law_cell_at.a
noncomputable abbrev Tx.f__law_cell_at {K : PySem.W.Frag} {mg : Str → Option Value} (T : Tx K mg) : FuncData := T.x__law_cell_at.f
theorem Tx.d__law_cell_at {K : PySem.W.Frag} {mg : Str → Option Value} (T : Tx K mg) : Df K mg "_law_cell_at" (top 8) T.a__law_cell_at T.f__law_cell_at := T.x__law_cell_at.d
noncomputable abbrev Tx.a__law_whole {K : PySem.W.Frag} {mg : Str → Option Value} (T : Tx K mg) : Addr := T.x__law_whole.a
noncomputable abbrev Tx.f__law_whole {K : PySem.W.Frag} {mg : Str → Option Value} (T : Tx K mg) : FuncData := T.x__law_whole.f
theorem Tx.d__law_whole {K : PySem.W.Frag} {mg : Str → Option Value} (T : Tx K mg) : Df K mg "_law_whole" (top 9) T.a__law_whole T.f__law_whole := T.x__law_whole.d
noncomputable abbrev Tx.a__law_marked {K : PySem.W.Frag} {mg : Str → Option Value} (T : Tx K mg) : Addr := T.x__law_marked.a
noncomputable abbrev Tx.f__law_marked {K : PySem.W.Frag} {mg : Str → Option Value} (T : Tx K mg) : FuncData := T.x__law_marked.f
theorem Tx.d__law_marked {K : PySem.W.Frag} {mg : Str → Option Value} (T : Tx K mg) : Df K mg "_law_marked" (top 10) T.a__law_marked T.f__law_marked := T.x__law_marked.d
noncomputable abbrev Tx.a__law_spanned {K : PySem.W.Frag} {mg : Str → Option Value} (T : Tx K mg) : Addr := T.x__law_spanned.a
noncomputable abbrev Tx.f__law_spanned {K : PySem.W.Frag} {mg : Str → Option Value} (T : Tx K mg) : FuncData := T.x__law_spanned.f
theorem Tx.d__law_spanned {K : PySem.W.Frag} {mg : Str → Option Value} (T : Tx K mg) : Df K mg "_law_spanned" (top 11) T.a__law_spanned T.f__law_spanned := T.x__law_spanned.d
noncomputable abbrev Tx.a__law_any {K : PySem.W.Frag} {mg : Str → Option Value} (T : Tx K mg) : Addr := T.x__law_any.a
noncomputable abbrev Tx.f__law_any {K : PySem.W.Frag} {mg : Str → Option Value} (T : Tx K mg) : FuncData := T.x__law_any.f
theorem Tx.d__law_any {K : PySem.W.Frag} {mg : Str → Option Value} (T : Tx K mg) : Df K mg "_law_any" (top 12) T.a__law_any T.f__law_any := T.x__law_any.d
noncomputable abbrev Tx.a__law_turned {K : PySem.W.Frag} {mg : Str → Option Value} (T : Tx K mg) : Addr := T.x__law_turned.a
noncomputable abbrev Tx.f__law_turned {K : PySem.W.Frag} {mg : Str → Option Value} (T : Tx K mg) : FuncData := T.x__law_turned.f
theorem Tx.d__law_turned {K : PySem.W.Frag} {mg : Str → Option Value} (T : Tx K mg) : Df K mg "_law_turned" (top 13) T.a__law_turned T.f__law_turned := T.x__law_turned.d
noncomputable abbrev Tx.a__law_ringed {K : PySem.W.Frag} {mg : Str → Option Value} (T : Tx K mg) : Addr := T.x__law_ringed.a
noncomputable abbrev Tx.f__law_ringed {K : PySem.W.Frag} {mg : Str → Option Value} (T : Tx K mg) : FuncData := T.x__law_ringed.f
theorem Tx.d__law_ringed {K : PySem.W.Frag} {mg : Str → Option Value} (T : Tx K mg) : Df K mg "_law_ringed" (top 14) T.a__law_ringed T.f__law_ringed := T.x__law_ringed.d
noncomputable abbrev Tx.a__law_sayings {K : PySem.W.Frag} {mg : Str → Option Value} (T : Tx K mg) : Addr := T.x__law_sayings.a
noncomputable abbrev Tx.f__law_sayings {K : PySem.W.Frag} {mg : Str → Option Value} (T : Tx K mg) : FuncData := T.x__law_sayings.f
theorem Tx.d__law_sayings {K : PySem.W.Frag} {mg : Str → Option Value} (T : Tx K mg) : Df K mg "_law_sayings" (top 15) T.a__law_sayings T.f__law_sayings := T.x__law_sayings.d
noncomputable abbrev Tx.a__law_numbers {K : PySem.W.Frag} {mg : Str → Option Value} (T : Tx K mg) : Addr := T.x__law_numbers.a
noncomputable abbrev Tx.f__law_numbers {K : PySem.W.Frag} {mg : Str → Option Value} (T : Tx K mg) : FuncData := T.x__law_numbers.f
theorem Tx.d__law_numbers {K : PySem.W.Frag} {mg : Str → Option Value} (T : Tx K mg) : Df K mg "_law_numbers" (top 16) T.a__law_numbers T.f__law_numbers := T.x__law_numbers.d
noncomputable abbrev Tx.a__law_alike {K : PySem.W.Frag} {mg : Str → Option Value} (T : Tx K mg) : Addr := T.x__law_alike.a
noncomputable abbrev Tx.f__law_alike {K : PySem.W.Frag} {mg : Str → Option Value} (T : Tx K mg) : FuncData := T.x__law_alike.f
theorem Tx.d__law_alike {K : PySem.W.Frag} {mg : Str → Option Value} (T : Tx K mg) : Df K mg "_law_alike" (top 17) T.a__law_alike T.f__law_alike := T.x__law_alike.d
noncomputable abbrev Tx.a_law {K : PySem.W.Frag} {mg : Str → Option Value} (T : Tx K mg) : Addr := T.x_law.a
noncomputable abbrev Tx.f_law {K : PySem.W.Frag} {mg : Str → Option Value} (T : Tx K mg) : FuncData := T.x_law.f
theorem Tx.d_law {K : PySem.W.Frag} {mg : Str → Option Value} (T : Tx K mg) : Df K mg "law" (top 18) T.a_law T.f_law := T.x_law.d
section
variable {P : Program} {w : World} {K : PySem.W.Frag} {mg : Str → Option Value} {base : Heap}
noncomputable def cell (ns : List Int) (k : Int) : Int := ns.getD k.toNat 0
noncomputable def spCell (K : PySem.W.Frag) : Sp := fun vs H Q _ => ∃ (a : Addr) (ns : List Int) (k : Int), vs = [.ref a, .int k] ∧ SqL K H a (ns.map V.int) ∧ 0 ≤ k ∧ Q (.int (cell ns k)) H
noncomputable abbrev sCell : Stmt := (top 8)
noncomputable abbrev nCell : List Str := ["script", "k"]
noncomputable abbrev pCell : List Str := ["script", "k"]
theorem scCell : FnScope nCell pCell (defScope sCell) := ⟨rfl, rfl, rfl, by decide +kernel, rfl, by decide +kernel, by decide +kernel⟩
theorem ok_cell {f : Addr} {fd : FuncData} (D : Df K mg "_law_cell_at" sCell f fd) (B : Bl mg) : FnOk P w K mg base CX0 1 f fd ["script", "k"] (spCell K) := by
  refine D.F.ok scCell (fun vs H Q E h => ?_) (fun cdv A outer s H vs Q E hr h => ?_)
  · obtain ⟨a, ns, k, rfl, _⟩ := h
    rfl
  · obtain ⟨a, ns, k, rfl, hS, h0, q⟩ := h
    refine ⟨_, pss_cons (ps_if (pt_cmpR op_lt (pv 1) (pe_callB (lenS (K := K) rfl) (by rfl) B.len PySem.boot_len (pa_cons (pv 0) pa_nil)) (nomark _)) (pss_one (ps_ret (pe_ix (ixL (K := K) rfl) (pv 0) (pv 1) (fun _ _ => rfl)))) pss_nil)
      (pss_one (ps_ret pe_int)), ?_⟩
    refine ⟨_, rfl, _, rfl, a, _, rfl, .inl hS, _, _, rfl, rfl, _, rfl, ?_⟩
    rw [List.length_map]
    refine ite2 (fun h => ?_) (fun h => ?_)
    · have h' : k < (ns.length : Int) := of_decide_eq_true h
      have e1 : ns[k.toNat]? = some (cell ns k) := by
        have hl : k.toNat < ns.length := by omega
        unfold cell
        simp [hl]
      have e2 : atI (ns.map V.int) k = some (.int (cell ns k)) := by
        have := atI_nat (xs := ns.map V.int) (j := k.toNat) (v := .int (cell ns k)) (by rw [List.getElem?_map, e1]; rfl)
        rw [Int.toNat_of_nonneg h0] at this
        exact this
      exact ⟨_, rfl, _, rfl, a, _, _, _, rfl, rfl, hS, e2, q⟩
    · have h' : ¬ k < (ns.length : Int) := fun z => h (decide_eq_true z)
      have e1 : cell ns k = 0 := by
        unfold cell
        have hl : ns.length ≤ k.toNat := by omega
        simp [hl]
      rw [e1] at q
      exact q
end
noncomputable def Pr (H : Hp) (r : Addr) (p : Int × Int) : Prop := H r = some (.tup [.int p.1, .int p.2])
/-- at l stands a list of these pairs -/
noncomputable def Prs (K : PySem.W.Frag) (H : Hp) (l : Addr) (ps : List (Int × Int)) : Prop := ∃ rs : List Addr, SqL K H l (rs.map V.ref) ∧ Paired (Pr H) rs ps
theorem Prs.same {K : PySem.W.Frag} {H H' : Hp} {l : Addr} {ps : List (Int × Int)} (h : Prs K H l ps) (s : Same H H') : Prs K H' l ps := by
  obtain ⟨rs, h1, h2⟩ := h
  exact ⟨rs, s.seq h1, Paired.mapP h2 fun a b q => s _ _ q⟩
theorem Paired.at {α β : Type} {F : α → β → Prop} : ∀ {l₁ : List α} {l₂ : List β} {i : Nat} {a : α}, Paired F l₁ l₂ → l₁[i]? = some a → ∃ b, l₂[i]? = some b ∧ F a b
  | _, _, _, _, .nil, e => by simp at e
  | _, _, 0, _, .cons r _, e => by simp at e; subst e; exact ⟨_, rfl, r⟩
  | _, _, i + 1, a, .cons _ t, e => by
    obtain ⟨b, h1, h2⟩ := Paired.at (i := i) (a := a) t (by simpa using e)
    exact ⟨b, by simpa using h1, h2⟩
theorem refs_at {rs : List Addr} {i : Nat} {y : V} (h : (rs.map V.ref)[i]? = some y) : ∃ r, rs[i]? = some r ∧ y = .ref r := by
  rw [List.getElem?_map] at h
  cases e : rs[i]? with
  | none => rw [e] at h; cases h
  | some r => rw [e] at h; exact ⟨r, rfl, (Option.some.inj h).symm⟩
theorem _root_.L2.Same.put {H H' : Hp} {p : Addr} {o : HO} (s : Same H H') (h : H p = none) : Same H (upd H' p o) := fun b u e => by
  rw [upd_ne (ne_of_none e h)]
  exact s b u e
theorem _root_.L2.Same.new {H : Hp} {p : Addr} {o : HO} (h : H p = none) : Same H (upd H p o) := Same.put (Same.refl H) h
/-- things: all of them below n -/
noncomputable def In (n : Nat) (ps : List (Int × Int)) : Prop := ∀ p ∈ ps, (0 ≤ p.1 ∧ p.1 < n) ∧ 0 ≤ p.2 ∧ p.2 < n
/-- who is better than whom, by these pairs -/
noncomputable def better (ps : List (Int × Int)) (i j : Nat) : Bool := decide (((i : Int), (j : Int)) ∈ ps)
noncomputable def Iv (xs : List Nat) : List V := xs.map fun x : Nat => V.int (x : Int)
theorem iv_at {xs : List Nat} {i : Nat} {y : V} (h : (Iv xs)[i]? = some y) : ∃ x, xs[i]? = some x ∧ y = .int (x : Int) := by
  unfold Iv at h
  rw [List.getElem?_map] at h
  cases e : xs[i]? with
  | none => rw [e] at h; cases h
  | some r => rw [e] at h; exact ⟨r, rfl, (Option.some.inj h).symm⟩
theorem iv_len (xs : List Nat) : (Iv xs).length = xs.length := by unfold Iv; rw [List.length_map]
theorem iv_app (xs ys : List Nat) : Iv (xs ++ ys) = Iv xs ++ Iv ys := by unfold Iv; rw [List.map_append]
theorem iv_ints (xs : List Nat) : Iv xs = (xs.map fun x : Nat => (x : Int)).map V.int := by unfold Iv; rw [List.map_map]; rfl
theorem iv_flat (xs : List Nat) : (Iv xs).all flatV = true := by unfold Iv; simp [flatV]
theorem iv_in (x : Nat) (xs : List Nat) : inV (.int x) (Iv xs) = decide (x ∈ xs) := by
  unfold inV Iv
  rw [List.any_map, Bool.eq_iff_iff]
  simp only [List.any_eq_true, Function.comp_apply, eqV, beq_iff_eq, decide_eq_true_eq]
  constructor
  · rintro ⟨y, h, e⟩
    have : y = x := by omega
    exact this ▸ h
  · exact fun h => ⟨x, h, rfl⟩
theorem filter_succ {xs : List Nat} {i x : Nat} {p : Nat → Bool} (h : xs[i]? = some x) : (xs.take (i + 1)).filter p = (xs.take i).filter p ++ (if p x = true then [x] else []) := by
  rw [List.take_add_one, h, List.filter_append]
  simp only [Option.toList_some]
  cases e : p x <;> simp [e]
theorem drop_cut (xs : List V) (i : Nat) (hi : i ≤ xs.length) : cutV xs (some (i : Int)) none = xs.drop i := by
  unfold cutV
  rw [HT.sIx_nat, HT.sIx_none, Nat.min_eq_left hi]
  rw [List.take_of_length_le (by rw [List.length_drop]; exact Nat.le_refl _)]
/-- the tuples of a heap, as ints -/
noncomputable def kfH (H : Hp) (r : Addr) : List Int := match H r with
  | some (.tup [.int a, .int b]) => [a, b]
  | _ => []
theorem kfH_of {H : Hp} {r : Addr} {p : Int × Int} (h : Pr H r p) : kfH H r = [p.1, p.2] := by
  have h' : H r = some (.tup [.int p.1, .int p.2]) := h
  unfold kfH
  rw [h']
theorem tups_of {H : Hp} : ∀ {rs : List Addr} {ps : List (Int × Int)}, Paired (Pr H) rs ps → Tups H (kfH H) rs ∧ rs.map (kfH H) = ps.map fun p => [p.1, p.2]
  | [], _, .nil => ⟨fun r hr => (nomatch hr), rfl⟩
  | r :: rs, _, .cons (b := p) h t => by
    obtain ⟨t1, t2⟩ := tups_of t
    refine ⟨fun a ha => ?_, by rw [List.map_cons, List.map_cons, t2, kfH_of h]⟩
    rcases List.mem_cons.mp ha with rfl | ha
    · rw [kfH_of h]; exact h
    · exact t1 a ha
theorem mem_pairs {ps : List (Int × Int)} {a b : Int} : [a, b] ∈ ps.map (fun p => [p.1, p.2]) ↔ (a, b) ∈ ps := by
  rw [List.mem_map]
  constructor
  · rintro ⟨⟨x, y⟩, h, e⟩
    simp only [List.cons.injEq, and_true] at e
    rw [← e.1, ← e.2]; exact h
  · exact fun h => ⟨_, h, rfl⟩
theorem nodup_cast : ∀ {c : List Nat}, c.Nodup → (c.map fun x : Nat => (x : Int)).Nodup
  | [], _ => List.nodup_nil
  | a :: c, h => by
    obtain ⟨h1, h2⟩ := List.nodup_cons.mp h
    rw [List.map_cons]
    refine List.nodup_cons.mpr ⟨fun z => ?_, nodup_cast h2⟩
    obtain ⟨b, hb, e⟩ := List.mem_map.mp z
    exact h1 (by rw [show a = b by omega]; exact hb)
section
variable {P : Program} {w : World} {K : PySem.W.Frag} {mg : Str → Option Value} {base : Heap}
noncomputable def spRefuse (K : PySem.W.Frag) : Sp := fun vs H Q _ => ∃ (l : Addr) (n : Nat) (ps : List (Int × Int)), vs = [.int n, .ref l] ∧ Prs K H l ps ∧ In n ps ∧ ∀ H', Same H H' → Q .non H'
noncomputable abbrev sRefuse : Stmt := (top 4)
noncomputable abbrev nRefuse : List Str := ["many", "pairs", "one", "other", "thing"]
noncomputable abbrev pRefuse : List Str := ["many", "pairs"]
theorem scRefuse : FnScope nRefuse pRefuse (defScope sRefuse) := ⟨rfl, rfl, rfl, by decide +kernel, rfl, by decide +kernel, by decide +kernel⟩
theorem ok_refuse {f : Addr} {fd : FuncData} (D : Df K mg "refuse_strangers" sRefuse f fd) : FnOk P w K mg base CX0 1 f fd ["many", "pairs"] (spRefuse K) := by
  refine D.F.ok scRefuse (fun vs H Q E h => ?_) (fun cdv A outer s H vs Q E hr h => ?_)
  · obtain ⟨a, n, k, rfl, _⟩ := h
    rfl
  · obtain ⟨l, n, ps, rfl, ⟨rs, hS, hP⟩, hin, q⟩ := h
    refine ⟨_, pss_one (ps_for PassesOwn.never rfl (piL (K := K) rfl (pv 1)) (pgT (K := K) rfl rfl (pgs_cons (pg_name (i := 2) scRefuse.nd rfl (Or.inl rfl)) (pgs_cons (pg_name (i := 3) scRefuse.nd rfl (Or.inl rfl)) pgs_nil)))
      (pss_one (ps_for PassesOwn.never rfl (pi_tup (pe_tup (pa_cons (pv 2) (pa_cons (pv 3) pa_nil)))) (pg_name (i := 4) scRefuse.nd rfl (Or.inl rfl))
        (pss_one (ps_if (pt_not (pt_chain op_le op_lt pe_int (pv 4) (pv 0))) pss_never pss_nil))))), ?_⟩
    refine ⟨_, rfl, l, rfl, ⟨_, hS⟩, for_list (K := K) (a := l) (xs := rs.map V.ref) (fun i σ H2 => ∃ v1 v2 v3, σ = [some (.int n), some (.ref l), v1, v2, v3] ∧ Same H H2) ⟨none, none, none, rfl, Same.refl _⟩ (fun i σ H2 _ ⟨_, _, _, _, s2⟩ => s2.seq hS) ?_ ?_⟩
    · rintro i y σ H2 hi ⟨v1, v2, v3, rfl, s2⟩
      obtain ⟨r, hr, rfl⟩ := refs_at hi
      obtain ⟨⟨a, b⟩, hab, hp⟩ := Paired.at hP hr
      have hp2 := hin _ (List.mem_of_getElem? hab)
      simp only at hp2
      refine ⟨r, [.int a, .int b], rfl, SqT.of (s2 _ _ hp), rfl, _, _, rfl, _, _, rfl, rfl, ?_⟩
      refine ⟨_, rfl, _, rfl, (by show 2 ≤ sizeLine; decide), fun p hp0 => ⟨p, rfl, ⟨_, SqT.of upd_same⟩, for_tup (K := K) (a := p) (xs := [.int a, .int b]) (fun i σ H3 => ∃ v, σ = [some (.int n), some (.ref l), some (.int a), some (.int b), v] ∧ H3 = upd H2 p (.tup [.int a, .int b])) ⟨_, rfl, rfl⟩ (fun i σ H3 _ ⟨_, _, e⟩ => by rw [e]; exact SqT.of upd_same) ?_ ?_⟩⟩
      · rintro j x σ H3 hj ⟨v, rfl, rfl⟩
        have hx : ∃ k : Int, x = .int k ∧ 0 ≤ k ∧ k < n := by
          match j, hj with
          | 0, hj => exact ⟨a, by simpa using hj.symm, hp2.1⟩
          | 1, hj => exact ⟨b, by simpa using hj.symm, hp2.2⟩
          | j + 2, hj => simp at hj
        obtain ⟨k, rfl, k0, k1⟩ := hx
        refine ⟨_, rfl, _, _, rfl, rfl, _, rfl, ?_⟩
        rw [if_pos (decide_eq_true k0)]
        refine ⟨_, rfl, _, _, rfl, rfl, _, rfl, ?_⟩
        rw [decide_eq_true k1]
        refine iteF ?_
        exact ⟨_, rfl, rfl⟩
      · rintro σ H3 ⟨v, rfl, rfl⟩
        exact ⟨_, _, _, rfl, s2.put (s2.free hp0)⟩
    · rintro σ H2 ⟨v1, v2, v3, rfl, s2⟩
      exact q H2 s2
end
/-- rows: where the n rows of n truths stand -/
structure Tab (H : Hp) (p : Addr) (n : Nat) (rel : Nat → Nat → Bool) (rows : List Addr) : Prop where
  top : H p = some (.lst (rows.map V.ref))
  len : rows.length = n
  nd : rows.Nodup
  row : ∀ (i : Nat) (r : Addr), rows[i]? = some r → H r = some (.lst ((List.range n).map fun j => V.bl (rel i j)))
theorem Tab.same {H H' : Hp} {p : Addr} {n : Nat} {rel : Nat → Nat → Bool} {rows : List Addr} (T : Tab H p n rel rows) (s : Same H H') : Tab H' p n rel rows :=
  ⟨s _ _ T.top, T.len, T.nd, fun i r e => s _ _ (T.row i r e)⟩
theorem Tab.at {H : Hp} {p : Addr} {n : Nat} {rel : Nat → Nat → Bool} {rows : List Addr} (T : Tab H p n rel rows) {a : Int} (h0 : 0 ≤ a) (h1 : a < n) : ∃ r, rows[a.toNat]? = some r ∧ atI (rows.map V.ref) a = some (.ref r) ∧ H r = some (.lst ((List.range n).map fun j => V.bl (rel a.toNat j))) := by
  have hl : a.toNat < rows.length := by rw [T.len]; omega
  have e : rows[a.toNat]? = some rows[a.toNat] := by simp [hl]
  refine ⟨_, e, ?_, T.row _ _ e⟩
  have := atI_nat (xs := rows.map V.ref) (j := a.toNat) (v := .ref rows[a.toNat]) (by rw [List.getElem?_map, e]; rfl)
  rw [Int.toNat_of_nonneg h0] at this
  exact this
theorem row_at {n : Nat} {f : Nat → Bool} {b : Int} (h0 : 0 ≤ b) (h1 : b < n) : atI ((List.range n).map fun j => V.bl (f j)) b = some (.bl (f b.toNat)) := by
  have hl : b.toNat < n := by omega
  have := atI_nat (xs := (List.range n).map fun j => V.bl (f j)) (j := b.toNat) (v := .bl (f b.toNat)) (by rw [List.getElem?_map, List.getElem?_range hl]; rfl)
  rw [Int.toNat_of_nonneg h0] at this
  exact this
section
variable {P : Program} {w : World} {K : PySem.W.Frag} {mg : Str → Option Value} {base : Heap}
noncomputable def spTable (K : PySem.W.Frag) : Sp := fun vs H Q _ => ∃ (l : Addr) (n : Nat) (ps : List (Int × Int)), vs = [.int n, .ref l] ∧ Prs K H l ps ∧ In n ps ∧ n ≤ 1000 ∧
  ∀ p rows H', Same H H' → Tab H' p n (better ps) rows → Q (.ref p) H'
noncomputable abbrev sTable : Stmt := (top 5)
noncomputable abbrev nTable : List Str := ["many", "pairs", "table", "one", "other"]
noncomputable abbrev pTable : List Str := ["many", "pairs"]
theorem scTable : FnScope nTable pTable (defScope sTable) := ⟨rfl, rfl, rfl, by decide +kernel, rfl, by decide +kernel, by decide +kernel⟩
theorem coTable1 : CompOk (mkSc [(".0", .local), ("thing", .local), ("many", .free)]) ["thing"] (defScope sTable) nTable := ⟨rfl, by decide +kernel, by decide +kernel, by decide +kernel, by decide +kernel, by decide +kernel⟩
theorem cnTable1 : (blkN nTable ["thing"]).Nodup := by decide +kernel
theorem nodup_at {l : List Addr} (nd : l.Nodup) {i j : Nat} {x : Addr} (a : l[i]? = some x) (b : l[j]? = some x) : i = j := by
  obtain ⟨h1, e1⟩ := List.getElem?_eq_some_iff.mp a
  obtain ⟨h2, e2⟩ := List.getElem?_eq_some_iff.mp b
  exact (List.getElem_inj nd).mp (e1.trans e2.symm)
theorem set_row {n k : Nat} {f : Nat → Bool} (hk : k < n) : ((List.range n).map fun j => V.bl (f j)).set k (.bl true) = (List.range n).map fun j => V.bl (f j || decide (j = k)) := by
  apply List.ext_getElem?
  intro i
  rw [List.getElem?_set]
  by_cases hi : i < n
  · by_cases e : k = i
    · subst e
      rw [if_pos rfl, if_pos (by simp [hi]), List.getElem?_map, List.getElem?_range hi]
      simp
    · rw [if_neg e, List.getElem?_map, List.getElem?_map, List.getElem?_range hi]
      have : ¬ i = k := fun z => e z.symm
      simp [this]
  · rw [List.getElem?_eq_none (by simp; omega)]
    rw [List.getElem?_eq_none (l := List.map (fun j => V.bl (f j || decide (j = k))) (List.range n)) (by simp; omega)]
    split
    · rw [if_neg (by simp; omega)]
    · rfl
theorem flat_one {n : Nat} {x : V} : (List.replicate n [x]).flatten = (List.range n).map fun _ => x := by
  induction n with
  | zero => rfl
  | succ n ih =>
    rw [List.replicate_succ, List.flatten_cons, ih, List.range_succ_eq_map, List.map_cons, List.map_map]
    rfl
theorem Tab.put {H : Hp} {p : Addr} {n : Nat} {rel : Nat → Nat → Bool} {rows : List Addr} (T : Tab H p n rel rows) {a b : Nat} {r : Addr} (hr : rows[a]? = some r) (hb : b < n) : r ≠ p ∧ Tab (upd H r (.lst (((List.range n).map fun j => V.bl (rel a j)).set b (.bl true)))) p n (fun i j => rel i j || (decide (i = a) && decide (j = b))) rows := by
  have ha : a < rows.length := (List.getElem?_eq_some_iff.mp hr).1
  have hrow := T.row a r hr
  have hne : p ≠ r := ne_of T.top hrow fun z => by
    injection z with z
    have e := congrArg (fun l => l[a]?) z
    simp only [List.getElem?_map, hr] at e
    rw [List.getElem?_range (by rw [← T.len]; exact ha)] at e
    simp at e
  refine ⟨hne.symm, by rw [upd_ne hne]; exact T.top, T.len, T.nd, fun i q hq => ?_⟩
  by_cases hi : i = a
  · subst hi
    rw [hr] at hq
    cases hq
    rw [upd_same, set_row hb]
    simp
  · have hqr : q ≠ r := fun z => hi (nodup_at T.nd (z ▸ hq) hr)
    rw [upd_ne hqr, T.row i q hq]
    simp [hi]
theorem better_succ {ps : List (Int × Int)} {i : Nat} {a b : Int} (h : ps[i]? = some (a, b)) (h0 : 0 ≤ a) (h1 : 0 ≤ b) : better (ps.take (i + 1)) = fun x y => better (ps.take i) x y || (decide (x = a.toNat) && decide (y = b.toNat)) := by
  funext x y
  unfold better
  rw [List.take_add_one, h]
  simp only [Option.toList_some]
  rw [Bool.eq_iff_iff]
  simp only [decide_eq_true_eq, List.mem_append, List.mem_singleton, Prod.mk.injEq, Bool.or_eq_true, Bool.and_eq_true]
  constructor
  · rintro (h | ⟨h, h'⟩)
    · exact .inl h
    · exact .inr ⟨by omega, by omega⟩
  · rintro (h | ⟨h, h'⟩)
    · exact .inl h
    · exact .inr ⟨by omega, by omega⟩
theorem ok_table {f fR : Addr} {fd fdR : FuncData} (D : Df K mg "table_of" sTable f fd) (DR : Df K mg "refuse_strangers" sRefuse fR fdR) (B : Bl mg) : FnOk P w K mg base CX0 2 f fd ["many", "pairs"] (spTable K) := by
  have GR : FnOk P w K mg base CX0 1 fR fdR ["many", "pairs"] (spRefuse K) := ok_refuse DR
  have bR : Binds K _ ["many", "pairs"] [] := bd2 DR.F fun _ _ _ _ _ _ _ _ => rfl
  refine D.F.ok scTable (fun vs H Q E h => ?_) (fun cdv A outer s H vs Q E hr h => ?_)
  · obtain ⟨a, n, k, rfl, _⟩ := h
    rfl
  · obtain ⟨l, n, ps, rfl, hP, hin, hn, q⟩ := h
    refine ⟨_, pss_cons (ps_expr (pe_call GR hr rfl DR.m DR.F.kp bR .nil pass0 (pa_cons (pv 0) (pa_cons (pv 1) pa_nil))))
      (pss_cons (ps_comp (i := 2) scTable.nd rfl rfl rfl coTable1 (pi_range1 rfl B.range (pa_cons (pv 0) pa_nil)) (fun _ _ _ _ _ => pg_name (i := 5) cnTable1 rfl (Or.inl rfl) (Or.inr rfl)) (fun _ _ _ _ _ => pif_nil)
        (fun _ _ _ _ _ => pe_op op_rep (pe_lst (pa_cons pe_bl pa_nil)) (pv 0)) (by rfl))
      (pss_cons (ps_for PassesOwn.never rfl (piL (K := K) rfl (pv 1)) (pgT (K := K) rfl rfl (pgs_cons (pg_name (i := 3) scTable.nd rfl (Or.inl rfl)) (pgs_cons (pg_name (i := 4) scTable.nd rfl (Or.inl rfl)) pgs_nil)))
        (pss_one (ps_asg pe_bl (pg_sub (pe_ix (ixL (K := K) rfl) (pv 2) (pv 3) (fun _ _ => rfl)) (pv 4) set_list))))
      (pss_one (ps_ret (pv 2))))), ?_⟩
    refine ⟨_, rfl, _, rfl, l, n, ps, rfl, hP, hin, fun H1 s1 => ?_⟩
    have hz := sizeLine_eq
    refine ⟨_, rfl, n, rfl, by omega, by omega, comp_range (k := 1) (fun i ys H2 => ∃ rows : List Addr, ys = rows.map V.ref ∧ rows.length = i ∧ rows.Nodup ∧ Same H H2 ∧ ∀ r ∈ rows, H r = none ∧ H2 r = some (.lst ((List.range n).map fun _ => V.bl false))) ⟨[], rfl, rfl, List.nodup_nil, s1, fun r hr => nomatch hr⟩
      (by rw [Int.toNat_natCast]; omega) (fun i ys H2 ⟨rows, e1, e2, _⟩ => by rw [e1, List.length_map]; omega) ?_ ?_⟩
    · rintro i ys H2 hi ⟨rows, rfl, e2, nd, s2, hrow⟩
      refine ⟨rfl, (by show 1 ≤ sizeLine; decide), fun p hp => ⟨_, rfl, p, n, [.bl false], rfl, rfl, upd_same, by omega, by omega, by simp; omega, fun p2 hp2 => ?_⟩⟩
      have hp2' : p2 ≠ p := fun z => by rw [z, upd_same] at hp2; cases hp2
      rw [upd_ne hp2'] at hp2
      have s3 : Same H2 (upd (upd H2 p (.lst [.bl false])) p2 (.lst (List.replicate (n : Int).toNat [V.bl false]).flatten)) := ((Same.refl H2).put hp).put hp2
      refine ⟨rows ++ [p2], by simp, by simp [e2], List.nodup_append.mpr ⟨nd, List.nodup_cons.mpr ⟨(fun z => nomatch z), List.nodup_nil⟩, fun a ha b hb => ?_⟩, s2.trans s3, fun r hr => ?_⟩
      · rw [List.mem_singleton.mp hb]
        exact ne_of_none (hrow a ha).2 hp2
      · rcases List.mem_append.mp hr with h | h
        · exact ⟨(hrow r h).1, s3 _ _ (hrow r h).2⟩
        · rw [List.mem_singleton.mp h, upd_same, Int.toNat_natCast, flat_one]
          exact ⟨s2.free hp2, rfl⟩
    · rintro ys H2 p ⟨rows, rfl, e2, nd, s2, hrow⟩ hp
      rw [Int.toNat_natCast] at e2
      obtain ⟨rs, hS, hPr⟩ := hP
      have hpn := s2.free hp
      have T0 : Tab (upd H2 p (.lst (rows.map V.ref))) p n (better (ps.take 0)) rows := ⟨upd_same, e2, nd, fun i r e => by
        have hm := hrow r (List.mem_of_getElem? e)
        rw [upd_ne (ne_of_none hm.2 hp), hm.2]
        rfl⟩
      have hfr : ∀ r ∈ rows, H r = none := fun r hr => (hrow r hr).1
      refine ⟨_, rfl, l, rfl, ⟨_, (s2.put hpn).seq hS⟩, for_list (K := K) (a := l) (xs := rs.map V.ref) (fun i σ H3 => ∃ v1 v2, σ = [some (.int n), some (.ref l), some (.ref p), v1, v2] ∧ Same H H3 ∧ Tab H3 p n (better (ps.take i)) rows) ⟨none, none, rfl, s2.put hpn, T0⟩ (fun i σ H3 _ ⟨_, _, _, s3, _⟩ => s3.seq hS) ?_ ?_⟩
      · rintro i y σ H3 hi ⟨v1, v2, rfl, s3, T3⟩
        obtain ⟨r, hr, rfl⟩ := refs_at hi
        obtain ⟨⟨a, b⟩, hab, hp2⟩ := Paired.at hPr hr
        have hp3 := hin _ (List.mem_of_getElem? hab)
        simp only at hp3
        refine ⟨r, [.int a, .int b], rfl, SqT.of (s3 _ _ hp2), rfl, _, _, rfl, _, _, rfl, rfl, ?_⟩
        obtain ⟨ra, ea, eat, hra⟩ := T3.at hp3.1.1 hp3.1.2
        have hb : b.toNat < n := by omega
        refine ⟨_, rfl, _, rfl, p, _, _, _, rfl, rfl, SqL.of T3.top, eat, _, rfl, ra, _, b, b.toNat, rfl, rfl, hra, ?_, ?_⟩
        · unfold ixN
          rw [if_pos hp3.2.1, if_pos (by simp; omega)]
        · obtain ⟨hne, T4⟩ := T3.put ea hb
          refine ⟨_, _, rfl, s3.put (hfr ra (List.mem_of_getElem? ea)), ?_⟩
          rw [better_succ hab hp3.1.1 hp3.2.1]
          exact T4
      · rintro σ H3 ⟨v1, v2, rfl, s3, T3⟩
        have e : ps.take (rs.map V.ref).length = ps := by
          rw [List.length_map, Paired.length hPr, List.take_length]
        rw [e] at T3
        exact ⟨_, rfl, q p rows H3 s3 T3⟩
end
section
variable {P : Program} {w : World} {K : PySem.W.Frag} {mg : Str → Option Value} {base : Heap}
noncomputable def spWhole (_ : PySem.W.Frag) : Sp := fun vs H Q _ => ∃ i : Int, vs = [.int i] ∧ Q (.bl true) H
noncomputable abbrev sWhole : Stmt := (top 9)
noncomputable abbrev nWhole : List Str := ["found"]
noncomputable abbrev pWhole : List Str := ["found"]
theorem scWhole : FnScope nWhole pWhole (defScope sWhole) := ⟨rfl, rfl, rfl, by decide +kernel, rfl, by decide +kernel, by decide +kernel⟩
theorem ok_whole {f : Addr} {fd : FuncData} (D : Df K mg "_law_whole" sWhole f fd) (B : Bl mg) : FnOk P w K mg base CX0 1 f fd ["found"] (spWhole K) := by
  refine D.F.ok scWhole (fun vs H Q E h => ?_) (fun cdv A outer s H vs Q E hr h => ?_)
  · obtain ⟨a, rfl, _⟩ := h
    rfl
  · obtain ⟨i, rfl, q⟩ := h
    refine ⟨_, pss_one (ps_ret (pe_and (pe_callB (isinS (K := K) rfl) (by rfl) B.isinstance boot_isinstance (pa_cons (pv 0) (pa_cons (pe_bltn (v := .ty "int") (by rfl) B.int PyProof.Rows.boot_int rfl) pa_nil)))
      (pe_one (pe_not (pe_callB (isinS (K := K) rfl) (by rfl) B.isinstance boot_isinstance (pa_cons (pv 0) (pa_cons (pe_bltn (v := .ty "bool") (by rfl) B.bool PyProof.Rows.boot_bool rfl) pa_nil))))))), ?_⟩
    exact ⟨_, rfl, _, _, _, _, rfl, .int _, kit1 K, _, rfl, _, rfl, _, _, _, _, rfl, .int _, kit2 K, _, rfl, q⟩
end
section
variable {P : Program} {w : World} {K : PySem.W.Frag} {mg : Str → Option Value} {base : Heap}
noncomputable def spNumbers (_ : PySem.W.Frag) : Sp := fun vs H Q _ => ∃ (l : Addr) (c : List Nat) (k lo hi : Int), vs = [.ref l, .int k, .int lo, .int hi] ∧ H l = some (.lst (Iv c)) ∧ k = c.length ∧ (∀ x ∈ c, lo ≤ (x : Int) ∧ (x : Int) ≤ hi) ∧ Q (.bl true) H
noncomputable abbrev sNumbers : Stmt := (top 16)
noncomputable abbrev nNumbers : List Str := ["found", "size", "low", "high", "number"]
noncomputable abbrev pNumbers : List Str := ["found", "size", "low", "high"]
theorem scNumbers : FnScope nNumbers pNumbers (defScope sNumbers) := ⟨rfl, rfl, rfl, by decide +kernel, rfl, by decide +kernel, by decide +kernel⟩
theorem ok_numbers {f fW : Addr} {fd fdW : FuncData} (D : Df K mg "_law_numbers" sNumbers f fd) (DW : Df K mg "_law_whole" sWhole fW fdW) (B : Bl mg) : FnOk P w K mg base CX0 2 f fd ["found", "size", "low", "high"] (spNumbers K) := by
  have GW : FnOk P w K mg base CX0 1 fW fdW ["found"] (spWhole K) := ok_whole DW B
  have bW : Binds K _ ["found"] [] := bd1 DW.F fun _ _ _ _ _ _ _ => rfl
  refine D.F.ok scNumbers (fun vs H Q E h => ?_) (fun cdv A outer s H vs Q E hr h => ?_)
  · obtain ⟨a, _, _, _, _, rfl, _⟩ := h
    rfl
  · obtain ⟨l, c, k, lo, hi, rfl, hl, rfl, hc, q⟩ := h
    refine ⟨_, pss_cons (ps_if (PW.pt (pw_or (pt_not (pt_val (pe_callB (isinS (K := K) rfl) (by rfl) B.isinstance boot_isinstance (pa_cons (pv 0) (pa_cons (pe_bltn (v := .ty "list") (by rfl) B.list PyProof.Rows.boot_list rfl) pa_nil)))))
        (pw_or1 (pt_cmpR op_ne (pe_callB (lenS (K := K) rfl) (by rfl) B.len PySem.boot_len (pa_cons (pv 0) pa_nil)) (pv 1) (nomark _))))) (pss_one (ps_ret pe_bl)) pss_nil)
      (pss_cons (ps_for PassesOwn.never rfl (piL (K := K) rfl (pv 0)) (pg_name (i := 4) scNumbers.nd rfl (Or.inl rfl))
        (pss_one (ps_if (PW.pt (pw_or (pt_not (pt_val (pe_call GW hr rfl DW.m DW.F.kp bW .nil pass0 (pa_cons (pv 4) pa_nil)))) (pw_or1 (pt_not (pt_chain op_le op_le (pv 2) (pv 4) (pv 3)))))) (pss_one (ps_ret pe_bl)) pss_nil)))
      (pss_one (ps_ret pe_bl))), ?_⟩
    refine ⟨_, rfl, _, _, _, _, rfl, .lst hl, kit3 K, _, rfl, iteF ⟨_, rfl, l, _, rfl, .inl (SqL.of hl), _, rfl, rfl, _, rfl, ?_⟩⟩
    rw [iv_len]
    refine iteNS rfl ?_
    refine ⟨_, rfl, l, rfl, ⟨_, SqL.of hl⟩, for_list (K := K) (a := l) (xs := Iv c) (fun i σ H2 => ∃ v, σ = [some (.ref l), some (.int c.length), some (.int lo), some (.int hi), v] ∧ H2 = H) ⟨none, rfl, rfl⟩ (fun i σ H2 _ ⟨_, _, e⟩ => by rw [e]; exact SqL.of hl) ?_ ?_⟩
    · rintro i y σ H2 hy ⟨v, rfl, rfl⟩
      obtain ⟨x, ex, rfl⟩ := iv_at hy
      obtain ⟨h1, h2⟩ := hc x (List.mem_of_getElem? ex)
      refine ⟨_, rfl, x, rfl, true, rfl, iteF ⟨_, rfl, _, rfl, _, _, rfl, rfl, _, rfl, ?_⟩⟩
      rw [if_pos (decide_eq_true h1)]
      refine ⟨_, rfl, _, _, rfl, rfl, _, rfl, ?_⟩
      rw [decide_eq_true h2]
      exact iteF ⟨_, rfl, rfl⟩
    · rintro σ H2 ⟨v, rfl, rfl⟩
      exact q
end
theorem for_range0 {n : Nat} {g : TG} {tb : L2.TS} {D : Ends} {σ : St} {H : Hp} (Pv : Nat → St → Hp → Prop) (h0 : Pv 0 σ H)
    (hs : ∀ i σ H, i < n → Pv i σ H → g (.int i) σ H fun σ2 H2 => tb { D with nx := Pv (i + 1), ct := Pv (i + 1), bk := D.nx } σ2 H2) (hd : ∀ σ H, Pv n σ H → D.nx σ H) :
    ∃ W : Nat → Nat → St → Hp → Prop, (∃ m, W 0 m σ H) ∧ ∀ i m σ H, W i m σ H →
      ((Itr 0 n).stop i H ∧ D.nx σ H) ∨ ((Itr 0 n).go i H ∧ ∃ N : St → Hp → Prop, (∀ σ' H', N σ' H' → ∃ m', m' < m ∧ W (i + 1) m' σ' H') ∧ ∀ x H', (Itr 0 n).yld i H x H' → g x σ H' fun σ2 H2 => tb { D with nx := N, ct := N, bk := D.nx } σ2 H2) :=
  for_range (lo := 0) Pv h0 (fun i σ H hi h => by rw [Int.zero_add]; exact hs i σ H hi h) hd
theorem comp_range0 {n k : Nat} {g : TG} {tt : TT} {te : TE} {σ : St} {Q : VK} {H : Hp} (Pv : Nat → List V → Hp → Prop) (h0 : Pv 0 [] H) (hn : n < sizeLine) (hl : ∀ i ys H, Pv i ys H → ys.length ≤ i)
    (hs : ∀ i ys H, i < n → Pv i ys H → g (.int i) (σ ++ List.replicate k none) H fun σ2 H2 => σ2.take σ.length = σ ∧ tt σ2 H2 fun c H3 => if c = true then te σ2 H3 fun v H4 => Pv (i + 1) (ys ++ [v]) H4 else Pv (i + 1) ys H3)
    (hd : ∀ ys H p, Pv n ys H → H p = none → Q (.ref p) (upd H p (.lst ys))) : ∃ W : Nat → Nat → List V → Hp → Prop, (∃ m, W 0 m [] H) ∧ CompW k (Itr 0 n) g tt te σ Q W :=
  comp_range (lo := 0) Pv h0 hn hl (fun i ys H hi h => by rw [Int.zero_add]; exact hs i ys H hi h) hd
/-- (x, y) in pairs, the tuple just made -/
theorem inP {K : PySem.W.Frag} {H : Hp} {pl p : Addr} {ps : List (Int × Int)} (hP : Prs K H pl ps) {x y : Int} (hp : H p = none) {neg : Bool} {Q : VK} (q : Q (.bl (if neg then !decide ((x, y) ∈ ps) else decide ((x, y) ∈ ps))) (upd H p (.tup [.int x, .int y]))) :
    rInT K neg (.ref p) (.ref pl) (upd H p (.tup [.int x, .int y])) Q := by
  obtain ⟨rs, hS, hPr⟩ := hP
  have s := Same.new (o := .tup [.int x, .int y]) hp
  have hP3 : Paired (Pr (upd H p (.tup [.int x, .int y]))) rs ps := Paired.mapP hPr fun a b z => s _ _ z
  obtain ⟨t1, t2⟩ := tups_of hP3
  have hk : kfH (upd H p (.tup [.int x, .int y])) p = [x, y] := kfH_of (p := (x, y)) upd_same
  refine ⟨p, pl, rs, kfH (upd H p (.tup [.int x, .int y])), rfl, rfl, s.seq hS, t1, by rw [hk]; exact upd_same, ?_⟩
  rw [t2, hk]
  have e : decide ([x, y] ∈ ps.map fun p => [p.1, p.2]) = decide ((x, y) ∈ ps) := by
    rw [Bool.eq_iff_iff, decide_eq_true_eq, decide_eq_true_eq]
    exact mem_pairs
  rw [e]
  exact q
theorem better_mem {ps : List (Int × Int)} {x y : Nat} : decide (((x : Int), (y : Int)) ∈ ps) = better ps x y := rfl
/-- the pairs as things -/
theorem In.nat {n : Nat} {ps : List (Int × Int)} (h : In n ps) {p : Int × Int} (hp : p ∈ ps) : ∃ x y : Nat, x < n ∧ y < n ∧ p = ((x : Int), (y : Int)) := by
  obtain ⟨⟨h1, h2⟩, h3, h4⟩ := h p hp
  refine ⟨p.1.toNat, p.2.toNat, by omega, by omega, ?_⟩
  rw [Int.toNat_of_nonneg h1, Int.toNat_of_nonneg h3]
theorem mem_take1 {α : Type} {xs : List α} {i : Nat} {x y : α} (h : xs[i]? = some x) (hy : y ∈ xs.take (i + 1)) : y ∈ xs.take i ∨ y = x := by
  rw [List.take_add_one, h] at hy
  simpa using hy
theorem two0 {a b : V} : atI [a, b] 0 = some a := atI_nat (j := 0) rfl
theorem two1 {a b : V} : atI [a, b] 1 = some b := atI_nat (j := 1) rfl
theorem three0 {a b c : V} : atI [a, b, c] 0 = some a := atI_nat (j := 0) rfl
theorem three1 {a b c : V} : atI [a, b, c] 1 = some b := atI_nat (j := 1) rfl
theorem three2 {a b c : V} : atI [a, b, c] 2 = some c := atI_nat (j := 2) rfl
theorem iteNN {c A B : Prop} [Decidable c] (hc : ¬ c) (h : A) : if (!decide c) = true then A else B := by
  rw [decide_eq_false hc]
  exact h
theorem map_snoc {α : Type} (f : Nat → α) (i : Nat) : (List.range (i + 1)).map f = (List.range i).map f ++ [f i] := by
  rw [List.range_succ, List.map_append]
  rfl
theorem paired_app {α β : Type} {F : α → β → Prop} : ∀ {l₁ : List α} {l₂ : List β} {m₁ : List α} {m₂ : List β}, Paired F l₁ l₂ → Paired F m₁ m₂ → Paired F (l₁ ++ m₁) (l₂ ++ m₂) := by
  intro l₁ l₂ m₁ m₂ h1 h
  induction h1 with
  | nil => exact h
  | cons r _ ih => exact .cons r ih
/-- an own list of pairs -/
noncomputable def PrsO (H : Hp) (l : Addr) (ps : List (Int × Int)) : Prop := ∃ rs : List Addr, H l = some (.lst (rs.map V.ref)) ∧ Paired (Pr H) rs ps
theorem PrsO.prs {K : PySem.W.Frag} {H : Hp} {l : Addr} {ps : List (Int × Int)} (h : PrsO H l ps) : Prs K H l ps := by
  obtain ⟨rs, h1, h2⟩ := h
  exact ⟨rs, SqL.of h1, h2⟩
theorem PrsO.same {H H' : Hp} {l : Addr} {ps : List (Int × Int)} (h : PrsO H l ps) (s : Same H H') : PrsO H' l ps := by
  obtain ⟨rs, h1, h2⟩ := h
  exact ⟨rs, s _ _ h1, Paired.mapP h2 fun a b q => s _ _ q⟩
theorem prs_same {H H' : Hp} {rs : List Addr} {ps : List (Int × Int)} (h : Paired (Pr H) rs ps) (s : Same H H') : Paired (Pr H') rs ps := Paired.mapP h fun a b q => s _ _ q
noncomputable def rowP (p : Nat → Bool) (a j : Nat) : List (Int × Int) := ((List.range j).filter p).map fun b : Nat => ((a : Int), (b : Int))
noncomputable def gridP (n : Nat) (p : Nat → Nat → Bool) (i : Nat) : List (Int × Int) := (List.range i).flatMap fun a => rowP (p a) a n
theorem rowP_succ (p : Nat → Bool) (a j : Nat) : rowP p a (j + 1) = rowP p a j ++ (if p j = true then [((a : Int), (j : Int))] else []) := by
  unfold rowP
  rw [List.range_succ, List.filter_append, List.map_append]
  cases e : p j <;> simp [e]
theorem rowP_len (p : Nat → Bool) (a j : Nat) : (rowP p a j).length ≤ j := by
  unfold rowP
  rw [List.length_map]
  have := List.length_filter_le p (List.range j)
  rw [List.length_range] at this
  exact this
theorem gridP_succ (n : Nat) (p : Nat → Nat → Bool) (i : Nat) : gridP n p (i + 1) = gridP n p i ++ rowP (p i) i n := by
  unfold gridP
  rw [List.range_succ, List.flatMap_append]
  simp
theorem gridP_le (n : Nat) (p : Nat → Nat → Bool) : ∀ i : Nat, (gridP n p i).length ≤ i * n
  | 0 => Nat.zero_le _
  | i + 1 => by
    rw [gridP_succ, List.length_append, Nat.add_mul, Nat.one_mul]
    have := gridP_le n p i
    have := rowP_len (p i) i n
    omega
theorem gridP_len (n : Nat) (p : Nat → Nat → Bool) : ∀ i : Nat, (gridP n p i).length = ((List.range i).map fun a => ((List.range n).filter fun b => p a b).length).sum
  | 0 => rfl
  | i + 1 => by
    rw [gridP_succ, List.length_append, gridP_len n p i, List.range_succ, List.map_append, List.sum_append]
    unfold rowP
    simp
theorem gridP_in (n : Nat) (p : Nat → Nat → Bool) : In n (gridP n p n) := by
  intro q hq
  unfold gridP rowP at hq
  simp only [List.mem_flatMap, List.mem_range, List.mem_map, List.mem_filter] at hq
  obtain ⟨a, ha, b, ⟨hb, _⟩, rfl⟩ := hq
  simp only
  omega
theorem ints_at {n i : Nat} (f : Nat → Int) (hi : i < n) : atI ((List.range n).map fun k => V.int (f k)) ((0 : Int) + (i : Int)) = some (.int (f i)) := by
  rw [Int.zero_add]
  exact atI_nat (by rw [List.getElem?_map, List.getElem?_range hi]; rfl)
/-- a builder: at most m sayings of the n things -/
noncomputable def spBuild (m : Nat) (K : PySem.W.Frag) : Sp := fun vs H Q _ => ∃ (a : Addr) (ns : List Int) (k : Int) (n : Nat), vs = [.ref a, .int k, .int n] ∧ SqL K H a (ns.map V.int) ∧ 0 ≤ k ∧ 1 ≤ n ∧ n ≤ 12 ∧
  ∀ l ps H', Same H H' → H l = none → PrsO H' l ps → In n ps → ps.length ≤ m → Q (.ref l) H'
section
variable {P : Program} {w : World} {K : PySem.W.Frag} {mg : Str → Option Value} {base : Heap}
noncomputable abbrev spMarked := spBuild 57
noncomputable abbrev sMarked : Stmt := (top 10)
noncomputable abbrev nMarked : List Str := ["script", "at", "many", "width", "some", "pairs", "a"]
noncomputable abbrev pMarked : List Str := ["script", "at", "many"]
theorem scMarked : FnScope nMarked pMarked (defScope sMarked) := ⟨rfl, rfl, rfl, by decide +kernel, rfl, by decide +kernel, by decide +kernel⟩
theorem coMarked1 : CompOk (mkSc [(".0", .local), ("k", .local), ("_law_cell_at", .globalImplicit), ("at", .free), ("script", .free), ("width", .free)]) ["k"] (defScope sMarked) nMarked := ⟨rfl, by decide +kernel, by decide +kernel, by decide +kernel, by decide +kernel, by decide +kernel⟩
theorem cnMarked1 : (blkN nMarked ["k"]).Nodup := by decide +kernel
theorem coMarked2 : CompOk (mkSc [(".0", .local), ("b", .local), ("a", .free), ("some", .free), ("width", .free)]) ["b"] (defScope sMarked) nMarked := ⟨rfl, by decide +kernel, by decide +kernel, by decide +kernel, by decide +kernel, by decide +kernel⟩
theorem cnMarked2 : (blkN nMarked ["b"]).Nodup := by decide +kernel
theorem marks_few {n : Nat} (hn : n ≤ 12) {W : Int} (h1 : 1 ≤ W) {f : Nat → Int} (hf : ∀ k, 0 ≤ f k ∧ f k < 3 * W + 2) : (gridP n (fun a b => decide (f b + W ≤ f a)) n).length ≤ 57 := by
  rw [gridP_len]
  refine Nat.le_trans (KP.pairs_le (L := 4) hn (by decide) (fun i => (f i / W).toNat) _ (fun i _ => ?_) (fun a b _ _ h => ?_)) (KP.F5 n hn)
  · obtain ⟨h2, h3⟩ := hf i
    have h4 : f i / W < 5 := Int.ediv_lt_of_lt_mul (by omega) (by omega)
    have h5 : 0 ≤ f i / W := Int.ediv_nonneg h2 (by omega)
    omega
  · have h' : f b + W ≤ f a := of_decide_eq_true h
    have h2 : (f b + W) / W ≤ f a / W := Int.ediv_le_ediv (by omega) h'
    rw [Int.add_ediv_of_dvd_right (Int.dvd_refl W), Int.ediv_self (by omega)] at h2
    have h5 : 0 ≤ f b / W := Int.ediv_nonneg (hf b).1 (by omega)
    omega
theorem ok_marked (T : Tx K mg) : FnOk P w K mg base CX0 2 T.a__law_marked T.f__law_marked pMarked (spMarked K) := by
  have GCell : FnOk P w K mg base CX0 1 T.a__law_cell_at T.f__law_cell_at pCell (spCell K) := ok_cell T.d__law_cell_at T.B
  have bCell : Binds K T.f__law_cell_at pCell [] := bd2 T.d__law_cell_at.F fun _ _ _ _ _ _ _ _ => rfl
  refine T.d__law_marked.F.ok scMarked (fun vs H Q E h => ?_) (fun cdv A outer s H vs Q E hr h => ?_)
  · obtain ⟨_, _, _, _, rfl, _⟩ := h
    rfl
  · obtain ⟨a, ns, k0, n, rfl, hS, hk0, hn1, hn, q⟩ := h
    have hz := sizeLine_eq
    refine ⟨_, pss_cons (ps_set (i := 3) scMarked.nd rfl (Or.inr rfl) (pe_op op_add pe_int (pe_op op_mod (pe_call GCell hr rfl T.d__law_cell_at.m T.d__law_cell_at.F.kp bCell .nil pass0 (pa_cons (pv 0) (pa_cons (pv 1) pa_nil))) pe_int)))
      (pss_cons (ps_set (i := 4) scMarked.nd rfl (Or.inr rfl) (pe_comp rfl coMarked1 (pi_range1 rfl T.B.range (pa_cons (pv 2) pa_nil)) (fun _ _ _ _ _ => pg_name (i := 7) cnMarked1 rfl (Or.inl rfl) (Or.inr rfl)) (fun _ _ _ _ _ => pif_nil)
        (fun _ _ _ _ _ => pe_op op_mod (pe_call GCell hr rfl T.d__law_cell_at.m T.d__law_cell_at.F.kp bCell .nil pass0 (pa_cons (pv 0) (pa_cons (pe_op op_add (pe_op op_add (pv 1) pe_int) (pv 7)) pa_nil))) (pe_op op_add (pe_op op_mul pe_int (pv 3)) pe_int))))
      (pss_cons (ps_set (i := 5) scMarked.nd rfl (Or.inl rfl) (pe_lst pa_nil))
      (pss_cons (ps_for PassesOwn.never rfl (pi_range1 rfl T.B.range (pa_cons (pv 2) pa_nil)) (pg_name (i := 6) scMarked.nd rfl (Or.inr rfl))
        (pss_one (ps_set (i := 5) scMarked.nd rfl (Or.inl rfl) (pe_op op_cat (pv 5) (pe_comp rfl coMarked2 (pi_range1 rfl T.B.range (pa_cons (pv 2) pa_nil)) (fun _ _ _ _ _ => pg_name (i := 7) cnMarked2 rfl (Or.inl rfl) (Or.inr rfl))
          (fun _ _ _ _ _ => pif_one (pt_cmpR op_ge (pe_ix (ixL (K := K) rfl) (pv 4) (pv 6) (fun _ _ => rfl)) (pe_op op_add (pe_ix (ixL (K := K) rfl) (pv 4) (pv 7) (fun _ _ => rfl)) (pv 3)) (nomark _)))
          (fun _ _ _ _ _ => pe_tup (pa_cons (pv 6) (pa_cons (pv 7) pa_nil))))))))
      (pss_one (ps_ret (pv 5)))))), ?_⟩
    refine ⟨_, rfl, _, rfl, a, ns, k0, rfl, hS, hk0, _, _, rfl, rfl, (by show (0 : Int) < 6; decide), _, _, rfl, rfl, ?_⟩
    have hW : 1 ≤ 1 + cell ns k0 % 6 := by omega
    show gName 3 (V.int (1 + cell ns k0 % 6)) _ H _
    generalize 1 + cell ns k0 % 6 = W at hW ⊢
    generalize hf : (fun k : Nat => cell ns (k0 + 2 + (k : Int)) % (3 * W + 2)) = f
    have hfb : ∀ k, 0 ≤ f k ∧ f k < 3 * W + 2 := fun k => by
      rw [← hf]
      exact ⟨Int.emod_nonneg _ (by omega), Int.emod_lt_of_pos _ (by omega)⟩
    refine ⟨_, rfl, n, rfl, by omega, by omega, comp_range (k := 1) (fun i ys H2 => H2 = H ∧ ys = (List.range i).map fun k => V.int (f k)) ⟨rfl, rfl⟩ (by rw [Int.toNat_natCast]; omega) (fun i ys H2 ⟨_, e⟩ => by rw [e]; simp) ?_ ?_⟩
    · rintro i ys H2 hi ⟨rfl, rfl⟩
      refine ⟨rfl, _, rfl, _, rfl, _, _, rfl, rfl, _, rfl, _, _, rfl, rfl, a, ns, _, rfl, hS, by omega, _, rfl, _, _, rfl, rfl, .inl ⟨by decide, by decide⟩, _, _, rfl, rfl, _, _, rfl, rfl, by omega, rfl, ?_⟩
      rw [map_snoc, ← hf, Int.zero_add]
    · rintro ys H2 sl ⟨rfl, rfl⟩ hsl
      rw [Int.toNat_natCast]
      refine ⟨Nat.zero_le _, fun pl hpl => ?_⟩
      have hpl0 : H2 pl = none := (Same.new hsl).free hpl
      generalize hp : (fun a b : Nat => decide (f b + W ≤ f a)) = p
      refine ⟨_, rfl, n, rfl, by omega, by omega, ?_⟩
      rw [Int.toNat_natCast]
      refine for_range (fun i σ H3 => ∃ l v, σ = [some (.ref a), some (.int k0), some (.int n), some (.int W), some (.ref sl), some (.ref l), v] ∧ Same H2 H3 ∧ H2 l = none ∧ H3 sl = some (.lst ((List.range n).map fun k => V.int (f k))) ∧ PrsO H3 l (gridP n p i))
        ⟨pl, none, rfl, (Same.new hsl).put hpl0, hpl0, by rw [upd_ne (ne_of_none upd_same hpl)]; exact upd_same, [], upd_same, .nil⟩ ?_ ?_
      · rintro i σ H3 hi ⟨l, v, rfl, s3, hl, hsl3, rs, hl3, hP⟩
        refine ⟨_, rfl, _, rfl, n, rfl, by omega, by omega, comp_range (k := 1) (fun j ys H4 => ∃ rs2 : List Addr, ys = rs2.map V.ref ∧ Same H3 H4 ∧ Paired (Pr H4) rs2 (rowP (p i) i j)) ⟨[], rfl, Same.refl _, .nil⟩ (by rw [Int.toNat_natCast]; omega) (fun j ys H4 ⟨rs2, e, _, h⟩ => by rw [e, List.length_map, Paired.length h]; exact rowP_len _ _ _) ?_ ?_⟩
        · rintro j ys H4 hj ⟨rs2, rfl, s4, hP2⟩
          rw [Int.toNat_natCast] at hj
          refine ⟨rfl, _, rfl, _, rfl, sl, _, _, _, rfl, rfl, SqL.of (s4 _ _ hsl3), ints_at f hi, _, rfl, _, rfl, sl, _, _, _, rfl, rfl, SqL.of (s4 _ _ hsl3), ints_at f hj, _, rfl, _, _, rfl, rfl, _, _, rfl, rfl, _, rfl, ?_⟩
          rw [rowP_succ, ← hp]
          refine ite2 (fun h => ?_) (fun h => ?_)
          · rw [if_pos h]
            refine ⟨_, rfl, _, rfl, (by show 2 ≤ sizeLine; decide), fun t ht => ⟨rs2 ++ [t], by rw [List.map_append]; rfl, s4.put (s4.free ht), ?_⟩⟩
            refine paired_app (prs_same (hp ▸ hP2) (Same.new ht)) (.cons ?_ .nil)
            show (upd H4 t _) t = _
            rw [upd_same, Int.zero_add, Int.zero_add]
          · rw [if_neg h, List.append_nil]
            exact ⟨rs2, rfl, s4, hp ▸ hP2⟩
        · rintro ys H4 b ⟨rs2, rfl, s4, hP2⟩ hb
          rw [Int.toNat_natCast] at hP2
          have s5 : Same H3 (upd H4 b (.lst (rs2.map V.ref))) := s4.put (s4.free hb)
          have e1 := Paired.length hP
          have e2 := Paired.length hP2
          have e3 := gridP_le n p i
          have e4 := rowP_len (p i) i n
          have e5 : i * n ≤ 144 := Nat.le_trans (Nat.mul_le_mul (Nat.le_of_lt (Nat.lt_of_lt_of_le hi hn)) hn) (by decide)
          refine ⟨l, b, _, _, rfl, rfl, s5 _ _ hl3, upd_same, by rw [List.length_map, List.length_map]; omega, fun l2 hl2 => ?_⟩
          have s6 : Same H3 (upd (upd H4 b (.lst (rs2.map V.ref))) l2 (.lst (rs.map V.ref ++ rs2.map V.ref))) := s5.put (s5.free hl2)
          refine ⟨l2, _, rfl, s3.trans s6, (s3.trans s5).free hl2, s6 _ _ hsl3, rs ++ rs2, by rw [List.map_append]; exact upd_same, ?_⟩
          rw [gridP_succ]
          exact paired_app (prs_same hP s6) (prs_same hP2 ((Same.new hb).trans (Same.new hl2)))
      · rintro σ H3 ⟨l, v, rfl, s3, hl, hsl3, hP⟩
        exact ⟨_, rfl, q l _ H3 s3 hl hP (gridP_in n p) (hp ▸ marks_few hn hW hfb)⟩
end
section
variable {P : Program} {w : World} {K : PySem.W.Frag} {mg : Str → Option Value} {base : Heap}
noncomputable abbrev spSpanned := spBuild 62
noncomputable abbrev sSpanned : Stmt := (top 11)
noncomputable abbrev nSpanned : List Str := ["script", "at", "many", "lows", "highs", "pairs", "a"]
noncomputable abbrev pSpanned : List Str := ["script", "at", "many"]
theorem scSpanned : FnScope nSpanned pSpanned (defScope sSpanned) := ⟨rfl, rfl, rfl, by decide +kernel, rfl, by decide +kernel, by decide +kernel⟩
theorem coSpanned1 : CompOk (mkSc [(".0", .local), ("k", .local), ("_law_cell_at", .globalImplicit), ("at", .free), ("script", .free)]) ["k"] (defScope sSpanned) nSpanned := ⟨rfl, by decide +kernel, by decide +kernel, by decide +kernel, by decide +kernel, by decide +kernel⟩
theorem cnSpanned1 : (blkN nSpanned ["k"]).Nodup := by decide +kernel
theorem coSpanned2 : CompOk (mkSc [(".0", .local), ("k", .local), ("_law_cell_at", .globalImplicit), ("at", .free), ("lows", .free), ("script", .free)]) ["k"] (defScope sSpanned) nSpanned := ⟨rfl, by decide +kernel, by decide +kernel, by decide +kernel, by decide +kernel, by decide +kernel⟩
theorem cnSpanned2 : (blkN nSpanned ["k"]).Nodup := by decide +kernel
theorem coSpanned3 : CompOk (mkSc [(".0", .local), ("b", .local), ("a", .free), ("highs", .free), ("lows", .free)]) ["b"] (defScope sSpanned) nSpanned := ⟨rfl, by decide +kernel, by decide +kernel, by decide +kernel, by decide +kernel, by decide +kernel⟩
theorem cnSpanned3 : (blkN nSpanned ["b"]).Nodup := by decide +kernel
theorem spans_few {n : Nat} (hn : n ≤ 12) {f g : Nat → Int} (hf : ∀ k, 0 ≤ f k ∧ f k < 8) (hg : ∀ k, f k ≤ g k) : (gridP n (fun a b => decide (g b < f a)) n).length ≤ 62 := by
  rw [gridP_len]
  refine Nat.le_trans (KP.pairs_le (L := 7) hn (by decide) (fun i => (f i).toNat) _ (fun i _ => ?_) (fun a b _ _ h => ?_)) (KP.F8 n hn)
  · have := hf i
    omega
  · have h' : g b < f a := of_decide_eq_true h
    have := hf b
    have := hg b
    omega
theorem ok_spanned (T : Tx K mg) : FnOk P w K mg base CX0 2 T.a__law_spanned T.f__law_spanned pSpanned (spSpanned K) := by
  have GCell : FnOk P w K mg base CX0 1 T.a__law_cell_at T.f__law_cell_at pCell (spCell K) := ok_cell T.d__law_cell_at T.B
  have bCell : Binds K T.f__law_cell_at pCell [] := bd2 T.d__law_cell_at.F fun _ _ _ _ _ _ _ _ => rfl
  refine T.d__law_spanned.F.ok scSpanned (fun vs H Q E h => ?_) (fun cdv A outer s H vs Q E hr h => ?_)
  · obtain ⟨_, _, _, _, rfl, _⟩ := h
    rfl
  · obtain ⟨a, ns, k0, n, rfl, hS, hk0, hn1, hn, q⟩ := h
    have hz := sizeLine_eq
    refine ⟨_, pss_cons (ps_set (i := 3) scSpanned.nd rfl (Or.inr rfl) (pe_comp rfl coSpanned1 (pi_range1 rfl T.B.range (pa_cons (pv 2) pa_nil)) (fun _ _ _ _ _ => pg_name (i := 7) cnSpanned1 rfl (Or.inl rfl) (Or.inr rfl)) (fun _ _ _ _ _ => pif_nil)
        (fun _ _ _ _ _ => pe_op op_mod (pe_call GCell hr rfl T.d__law_cell_at.m T.d__law_cell_at.F.kp bCell .nil pass0 (pa_cons (pv 0) (pa_cons (pe_op op_add (pe_op op_add (pv 1) pe_int) (pv 7)) pa_nil))) pe_int)))
      (pss_cons (ps_set (i := 4) scSpanned.nd rfl (Or.inr rfl) (pe_comp rfl coSpanned2 (pi_range1 rfl T.B.range (pa_cons (pv 2) pa_nil)) (fun _ _ _ _ _ => pg_name (i := 7) cnSpanned2 rfl (Or.inl rfl) (Or.inr rfl)) (fun _ _ _ _ _ => pif_nil)
        (fun _ _ _ _ _ => pe_op op_add (pe_ix (ixL (K := K) rfl) (pv 3) (pv 7) (fun _ _ => rfl)) (pe_op op_mod (pe_op op_fdiv (pe_call GCell hr rfl T.d__law_cell_at.m T.d__law_cell_at.F.kp bCell .nil pass0 (pa_cons (pv 0) (pa_cons (pe_op op_add (pe_op op_add (pv 1) pe_int) (pv 7)) pa_nil))) pe_int) pe_int))))
      (pss_cons (ps_set (i := 5) scSpanned.nd rfl (Or.inl rfl) (pe_lst pa_nil))
      (pss_cons (ps_for PassesOwn.never rfl (pi_range1 rfl T.B.range (pa_cons (pv 2) pa_nil)) (pg_name (i := 6) scSpanned.nd rfl (Or.inr rfl))
        (pss_one (ps_set (i := 5) scSpanned.nd rfl (Or.inl rfl) (pe_op op_cat (pv 5) (pe_comp rfl coSpanned3 (pi_range1 rfl T.B.range (pa_cons (pv 2) pa_nil)) (fun _ _ _ _ _ => pg_name (i := 7) cnSpanned3 rfl (Or.inl rfl) (Or.inr rfl))
          (fun _ _ _ _ _ => pif_one (pt_cmpR op_gt (pe_ix (ixL (K := K) rfl) (pv 3) (pv 6) (fun _ _ => rfl)) (pe_ix (ixL (K := K) rfl) (pv 4) (pv 7) (fun _ _ => rfl)) (nomark _)))
          (fun _ _ _ _ _ => pe_tup (pa_cons (pv 6) (pa_cons (pv 7) pa_nil))))))))
      (pss_one (ps_ret (pv 5)))))), ?_⟩
    generalize hf : (fun k : Nat => cell ns (k0 + 2 + (k : Int)) % 8) = f
    generalize hg : (fun k : Nat => f k + cell ns (k0 + 2 + (k : Int)) / 8 % 6) = g
    have hfb : ∀ k, 0 ≤ f k ∧ f k < 8 := fun k => by
      rw [← hf]
      exact ⟨Int.emod_nonneg _ (by omega), Int.emod_lt_of_pos _ (by omega)⟩
    have hgb : ∀ k, f k ≤ g k := fun k => by
      rw [← hg]
      show f k ≤ f k + _
      have : 0 ≤ cell ns (k0 + 2 + (k : Int)) / 8 % 6 := Int.emod_nonneg _ (by omega)
      omega
    refine ⟨_, rfl, n, rfl, by omega, by omega, comp_range (k := 1) (fun i ys H2 => H2 = H ∧ ys = (List.range i).map fun k => V.int (f k)) ⟨rfl, rfl⟩ (by rw [Int.toNat_natCast]; omega) (fun i ys H2 ⟨_, e⟩ => by rw [e]; simp) ?_ ?_⟩
    · rintro i ys H2 hi ⟨rfl, rfl⟩
      refine ⟨rfl, _, rfl, _, rfl, _, _, rfl, rfl, _, rfl, _, _, rfl, rfl, a, ns, _, rfl, hS, by omega, _, _, rfl, rfl, (by show (0 : Int) < 8; decide), rfl, ?_⟩
      rw [map_snoc, ← hf, Int.zero_add]
    · rintro ys H1 lw ⟨rfl, rfl⟩ hlw
      rw [Int.toNat_natCast]
      generalize hL : (upd H1 lw (.lst ((List.range n).map fun k => V.int (f k)))) = HL
      have sL : Same H1 HL := hL ▸ Same.new hlw
      have hLw : HL lw = some (.lst ((List.range n).map fun k => V.int (f k))) := by rw [← hL]; exact upd_same
      refine ⟨_, rfl, n, rfl, by omega, by omega, comp_range (k := 1) (fun i ys H2 => H2 = HL ∧ ys = (List.range i).map fun k => V.int (g k)) ⟨rfl, rfl⟩ (by rw [Int.toNat_natCast]; omega) (fun i ys H2 ⟨_, e⟩ => by rw [e]; simp) ?_ ?_⟩
      · rintro i ys H2 hi ⟨rfl, rfl⟩
        rw [Int.toNat_natCast] at hi
        refine ⟨rfl, _, rfl, _, rfl, lw, _, _, _, rfl, rfl, SqL.of hLw, ints_at f hi, _, rfl, _, rfl, _, _, rfl, rfl, _, rfl, _, _, rfl, rfl, a, ns, _, rfl, sL.seq hS, by omega, _, _, rfl, rfl, ⟨(by show (0 : Int) < 8; decide), (by show (8 : Int) < 1073741824; decide)⟩, _, _, rfl, rfl, (by show (0 : Int) < 6; decide), _, _, rfl, rfl, rfl, ?_⟩
        rw [map_snoc, ← hg, Int.zero_add]
      · rintro ys H2 sl ⟨rfl, rfl⟩ hsl
        rw [Int.toNat_natCast]
        refine ⟨Nat.zero_le _, fun pl hpl => ?_⟩
        have hpl0 : H2 pl = none := (Same.new hsl).free hpl
        generalize hp : (fun a b : Nat => decide (g b < f a)) = p
        refine ⟨_, rfl, n, rfl, by omega, by omega, ?_⟩
        rw [Int.toNat_natCast]
        have s00 := (Same.new (o := .lst ((List.range n).map fun k => V.int (g k))) hsl).put (o := .lst []) hpl0
        refine for_range (fun i σ H3 => ∃ l v, σ = [some (.ref a), some (.int k0), some (.int n), some (.ref lw), some (.ref sl), some (.ref l), v] ∧ Same H2 H3 ∧ H2 l = none ∧ H3 sl = some (.lst ((List.range n).map fun k => V.int (g k))) ∧ PrsO H3 l (gridP n p i))
          ⟨pl, none, rfl, s00, hpl0, by rw [upd_ne (ne_of_none upd_same hpl)]; exact upd_same, [], upd_same, .nil⟩ ?_ ?_
        · rintro i σ H3 hi ⟨l, v, rfl, s3, hl, hsl3, rs, hl3, hP⟩
          have hlw3 := s3 _ _ hLw
          refine ⟨_, rfl, _, rfl, n, rfl, by omega, by omega, comp_range (k := 1) (fun j ys H4 => ∃ rs2 : List Addr, ys = rs2.map V.ref ∧ Same H3 H4 ∧ Paired (Pr H4) rs2 (rowP (p i) i j)) ⟨[], rfl, Same.refl _, .nil⟩ (by rw [Int.toNat_natCast]; omega) (fun j ys H4 ⟨rs2, e, _, h⟩ => by rw [e, List.length_map, Paired.length h]; exact rowP_len _ _ _) ?_ ?_⟩
          · rintro j ys H4 hj ⟨rs2, rfl, s4, hP2⟩
            rw [Int.toNat_natCast] at hj
            refine ⟨rfl, _, rfl, _, rfl, lw, _, _, _, rfl, rfl, SqL.of (s4 _ _ hlw3), ints_at f hi, _, rfl, _, rfl, sl, _, _, _, rfl, rfl, SqL.of (s4 _ _ hsl3), ints_at g hj, _, _, rfl, rfl, _, rfl, ?_⟩
            rw [rowP_succ, ← hp]
            refine ite2 (fun h => ?_) (fun h => ?_)
            · rw [if_pos h]
              refine ⟨_, rfl, _, rfl, (by show 2 ≤ sizeLine; decide), fun t ht => ⟨rs2 ++ [t], by rw [List.map_append]; rfl, s4.put (s4.free ht), ?_⟩⟩
              refine paired_app (prs_same (hp ▸ hP2) (Same.new ht)) (.cons ?_ .nil)
              show (upd H4 t _) t = _
              rw [upd_same, Int.zero_add, Int.zero_add]
            · rw [if_neg h, List.append_nil]
              exact ⟨rs2, rfl, s4, hp ▸ hP2⟩
          · rintro ys H4 b ⟨rs2, rfl, s4, hP2⟩ hb
            rw [Int.toNat_natCast] at hP2
            have s5 : Same H3 (upd H4 b (.lst (rs2.map V.ref))) := s4.put (s4.free hb)
            have e1 := Paired.length hP
            have e2 := Paired.length hP2
            have e3 := gridP_le n p i
            have e4 := rowP_len (p i) i n
            have e5 : i * n ≤ 144 := Nat.le_trans (Nat.mul_le_mul (Nat.le_of_lt (Nat.lt_of_lt_of_le hi hn)) hn) (by decide)
            refine ⟨l, b, _, _, rfl, rfl, s5 _ _ hl3, upd_same, by rw [List.length_map, List.length_map]; omega, fun l2 hl2 => ?_⟩
            have s6 : Same H3 (upd (upd H4 b (.lst (rs2.map V.ref))) l2 (.lst (rs.map V.ref ++ rs2.map V.ref))) := s5.put (s5.free hl2)
            refine ⟨l2, _, rfl, s3.trans s6, (s3.trans s5).free hl2, s6 _ _ hsl3, rs ++ rs2, by rw [List.map_append]; exact upd_same, ?_⟩
            rw [gridP_succ]
            exact paired_app (prs_same hP s6) (prs_same hP2 ((Same.new hb).trans (Same.new hl2)))
        · rintro σ H3 ⟨l, v, rfl, s3, hl, hsl3, hP⟩
          exact ⟨_, rfl, q l _ H3 (sL.trans s3) (sL.free hl) hP (gridP_in n p) (hp ▸ spans_few hn hfb hgb)⟩
end
section
variable {P : Program} {w : World} {K : PySem.W.Frag} {mg : Str → Option Value} {base : Heap}
theorem mod_in {c : Int} {n : Nat} (h : 1 ≤ n) : 0 ≤ c % (n : Int) ∧ c % (n : Int) < n := ⟨Int.emod_nonneg _ (by omega), Int.emod_lt_of_pos _ (by omega)⟩
theorem In.app {n : Nat} {ps qs : List (Int × Int)} (h : In n ps) (h' : In n qs) : In n (ps ++ qs) := fun p hp => (List.mem_append.mp hp).elim (h p) (h' p)
theorem In.one {n : Nat} {a b : Int} (ha : 0 ≤ a ∧ a < n) (hb : 0 ≤ b ∧ b < n) : In n [(a, b)] := fun p hp => by rw [List.mem_singleton.mp hp]; exact ⟨ha, hb⟩
theorem In.sub {n : Nat} {ps qs : List (Int × Int)} (h : In n ps) (s : ∀ p ∈ qs, p ∈ ps) : In n qs := fun p hp => h p (s p hp)
noncomputable abbrev spAny := spBuild 14
noncomputable abbrev sAny : Stmt := (top 12)
noncomputable abbrev nAny : List Str := ["script", "at", "many", "pairs", "k", "cell"]
noncomputable abbrev pAny : List Str := ["script", "at", "many"]
theorem scAny : FnScope nAny pAny (defScope sAny) := ⟨rfl, rfl, rfl, by decide +kernel, rfl, by decide +kernel, by decide +kernel⟩
theorem ok_any (T : Tx K mg) : FnOk P w K mg base CX0 2 T.a__law_any T.f__law_any pAny (spAny K) := by
  have GCell : FnOk P w K mg base CX0 1 T.a__law_cell_at T.f__law_cell_at pCell (spCell K) := ok_cell T.d__law_cell_at T.B
  have bCell : Binds K T.f__law_cell_at pCell [] := bd2 T.d__law_cell_at.F fun _ _ _ _ _ _ _ _ => rfl
  refine T.d__law_any.F.ok scAny (fun vs H Q E h => ?_) (fun cdv A outer s H vs Q E hr h => ?_)
  · obtain ⟨_, _, _, _, rfl, _⟩ := h
    rfl
  · obtain ⟨a, ns, k0, n, rfl, hS, hk0, hn1, hn, q⟩ := h
    have hz := sizeLine_eq
    refine ⟨_, pss_cons (ps_set (i := 3) scAny.nd rfl (Or.inl rfl) (pe_lst pa_nil))
      (pss_cons (ps_for PassesOwn.never rfl (pi_range1 rfl T.B.range (pa_cons (pe_op op_mod (pe_call GCell hr rfl T.d__law_cell_at.m T.d__law_cell_at.F.kp bCell .nil pass0 (pa_cons (pv 0) (pa_cons (pv 1) pa_nil))) pe_int) pa_nil)) (pg_name (i := 4) scAny.nd rfl (Or.inl rfl))
        (pss_cons (ps_set (i := 5) scAny.nd rfl (Or.inl rfl) (pe_call GCell hr rfl T.d__law_cell_at.m T.d__law_cell_at.F.kp bCell .nil pass0 (pa_cons (pv 0) (pa_cons (pe_op op_add (pe_op op_add (pv 1) pe_int) (pv 4)) pa_nil))))
        (pss_one (ps_expr (peM (K := K) rfl PySem.F.plainAttrs_list PySem.F.slot_list_append PySem.F.type_list_append mt_append (pv 3) (pa_cons (pe_tup (pa_cons (pe_op op_mod (pv 5) (pv 2)) (pa_cons (pe_op op_mod (pe_op op_fdiv (pv 5) (pv 2)) (pv 2)) pa_nil))) pa_nil))))))
      (pss_one (ps_ret (pv 3)))), ?_⟩
    refine ⟨Nat.zero_le _, fun pl hpl => ?_⟩
    have s1 : Same H (upd H pl (.lst [])) := Same.new hpl
    have hm : 0 ≤ cell ns k0 % 15 ∧ cell ns k0 % 15 < 15 := ⟨Int.emod_nonneg _ (by omega), Int.emod_lt_of_pos _ (by omega)⟩
    refine ⟨_, rfl, _, rfl, a, ns, k0, rfl, s1.seq hS, hk0, _, _, rfl, rfl, (by show (0 : Int) < 15; decide), _, rfl, by omega, by omega, ?_⟩
    refine for_range (fun i σ H3 => ∃ ps v1 v2, σ = [some (.ref a), some (.int k0), some (.int n), some (.ref pl), v1, v2] ∧ Same H H3 ∧ PrsO H3 pl ps ∧ In n ps ∧ ps.length ≤ i)
      ⟨[], none, none, rfl, s1, ⟨[], upd_same, .nil⟩, (fun _ h => nomatch h), Nat.zero_le _⟩ ?_ ?_
    · rintro i σ H3 hi ⟨ps, v1, v2, rfl, s3, ⟨rs, hpl3, hP⟩, hin, hlen⟩
      have e1 := Paired.length hP
      have hn0 : (0 : Int) < n := by omega
      refine ⟨_, rfl, _, rfl, _, _, rfl, rfl, _, rfl, _, _, rfl, rfl, a, ns, _, rfl, s3.seq hS, by omega, ?_⟩
      refine ⟨_, rfl, .inl ⟨rfl, _, SqL.of hpl3⟩, _, rfl, _, rfl, _, _, rfl, rfl, hn0, _, rfl, _, rfl, _, _, rfl, rfl, ⟨hn0, by omega⟩, _, rfl, _, _, rfl, rfl, hn0, (by show 2 ≤ sizeLine; decide), fun t ht => ?_⟩
      have htp : pl ≠ t := ne_of_none hpl3 ht
      refine ⟨pl, _, _, rfl, rfl, by rw [upd_ne htp]; exact hpl3, by rw [List.length_map]; omega, ?_⟩
      refine ⟨ps ++ [(cell ns (k0 + 2 + (0 + (i : Int))) % (n : Int), cell ns (k0 + 2 + (0 + (i : Int))) / (n : Int) % (n : Int))], _, _, rfl, (s3.put (s3.free ht)).put hpl, ⟨rs ++ [t], by rw [upd_same, List.map_append]; rfl, ?_⟩, hin.app (In.one (mod_in hn1) (mod_in hn1)), by rw [List.length_append, List.length_singleton]; omega⟩
      refine paired_app (Paired.mapP hP fun r p h => ?_) (.cons ?_ .nil)
      · have hr : H3 r = some (.tup [.int p.1, .int p.2]) := h
        have hrp : r ≠ pl := ne_of hr hpl3 (by intro z; cases z)
        show upd _ pl _ r = _
        rw [upd_ne hrp, upd_ne (ne_of_none hr ht)]
        exact hr
      · show upd _ pl _ t = _
        rw [upd_ne htp.symm]
        exact upd_same
    · rintro σ H3 ⟨ps, v1, v2, rfl, s3, hP, hin, hlen⟩
      exact ⟨_, rfl, q pl ps H3 s3 hpl hP hin (by omega)⟩
noncomputable def spTurned (K : PySem.W.Frag) : Sp := fun vs H Q _ => ∃ (l : Addr) (c : Int) (n : Nat) (ps : List (Int × Int)), vs = [.ref l, .int c, .int n] ∧ PrsO H l ps ∧ In n ps ∧ 1 ≤ n ∧ n ≤ 12 ∧ ps.length ≤ 1000 ∧
  ∀ l' ps' H', Same H H' → H l' = none → PrsO H' l' ps' → In n ps' → ps'.length ≤ ps.length + 1 → Q (.ref l') H'
noncomputable abbrev sTurned : Stmt := (top 13)
noncomputable abbrev nTurned : List Str := ["pairs", "cell", "many", "pair"]
noncomputable abbrev pTurned : List Str := ["pairs", "cell", "many"]
theorem scTurned : FnScope nTurned pTurned (defScope sTurned) := ⟨rfl, rfl, rfl, by decide +kernel, rfl, by decide +kernel, by decide +kernel⟩
theorem coTurned1 : CompOk (mkSc [(".0", .local), ("one", .local), ("pair", .free)]) ["one"] (defScope sTurned) nTurned := ⟨rfl, by decide +kernel, by decide +kernel, by decide +kernel, by decide +kernel, by decide +kernel⟩
theorem cnTurned1 : (blkN nTurned ["one"]).Nodup := by decide +kernel
theorem ok_turned (T : Tx K mg) : FnOk P w K mg base CX0 1 T.a__law_turned T.f__law_turned pTurned (spTurned K) := by
  refine T.d__law_turned.F.ok scTurned (fun vs H Q E h => ?_) (fun cdv A outer s H vs Q E hr h => ?_)
  · obtain ⟨_, _, _, _, rfl, _⟩ := h
    rfl
  · obtain ⟨l, c, n, ps, rfl, ⟨rs, hl, hP⟩, hin, hn1, hn, hlen, q⟩ := h
    have hz := sizeLine_eq
    have hu := hu_of hr
    have hn0 : (0 : Int) < n := by omega
    have e1 := Paired.length hP
    refine ⟨_, pss_cons (ps_set (i := 3) scTurned.nd rfl (Or.inr rfl) (pe_tup (pa_cons (pe_op op_mod (pv 1) (pv 2)) (pa_cons (pe_op op_mod (pe_op op_fdiv (pv 1) (pv 2)) (pv 2)) pa_nil))))
      (pss_cons (ps_if (pt_cmpR (inTK (K := K) rfl hu) (pv 3) (pv 0) (by with_unfolding_all rfl)) (pss_one (ps_ret (pe_comp rfl coTurned1 (piL (K := K) rfl (pv 0)) (fun _ _ _ _ _ => pg_name (i := 4) cnTurned1 rfl (Or.inl rfl) (Or.inr rfl))
        (fun _ _ _ _ _ => pif_one (pt_cmpR (op_neT hu) (pv 4) (pv 3) (nomark _))) (fun _ _ _ _ _ => pv 4)))) pss_nil)
      (pss_one (ps_ret (pe_op op_cat (pv 0) (pe_lst (pa_cons (pv 3) pa_nil)))))), ?_⟩
    refine ⟨_, rfl, _, rfl, _, _, rfl, rfl, hn0, _, rfl, _, rfl, _, _, rfl, rfl, ⟨hn0, by omega⟩, _, rfl, _, _, rfl, rfl, hn0, (by show 2 ≤ sizeLine; decide), fun t ht => ?_⟩
    dsimp only
    generalize hA : c % (n : Int) = pa
    generalize hB : c / (n : Int) % (n : Int) = pb
    have s1 : Same H (upd H t (.tup [.int pa, .int pb])) := Same.new ht
    have hl1 : (upd H t (.tup [.int pa, .int pb])) l = some (.lst (rs.map V.ref)) := s1 _ _ hl
    have ht1 : Pr (upd H t (.tup [.int pa, .int pb])) t (pa, pb) := upd_same
    have hP1 : Paired (Pr (upd H t (.tup [.int pa, .int pb]))) rs ps := prs_same hP s1
    have hA2 : 0 ≤ pa ∧ pa < n := hA ▸ mod_in hn1
    have hB2 : 0 ≤ pb ∧ pb < n := hB ▸ mod_in hn1
    revert s1 hl1 ht1 hP1
    generalize upd H t (.tup [.int pa, .int pb]) = H1
    intro s1 hl1 ht1 hP1
    obtain ⟨t1, t2⟩ := tups_of hP1
    have hk : kfH H1 t = [pa, pb] := kfH_of ht1
    refine ⟨_, rfl, _, rfl, t, l, rs, kfH H1, rfl, rfl, SqL.of hl1, t1, by rw [hk]; exact ht1, _, rfl, ?_⟩
    refine ite2 (fun _ => ?_) (fun _ => ?_)
    · refine ⟨_, rfl, l, rfl, ⟨_, SqL.of hl1⟩, comp_list (k := 1) (K := K) (a := l) (xs := rs.map V.ref) (fun i ys H3 => H3 = H1 ∧ ∃ rs2 ps2, ys = rs2.map V.ref ∧ Paired (Pr H1) rs2 ps2 ∧ (∀ p ∈ ps2, p ∈ ps) ∧ ps2.length ≤ i) ⟨rfl, [], [], rfl, .nil, (fun _ h => nomatch h), Nat.le_refl _⟩ (by rw [List.length_map]; omega)
        (fun i ys H3 ⟨e, rs2, ps2, e2, h1, _, h2⟩ => ⟨by rw [e2, List.length_map, Paired.length h1]; exact h2, by rw [e]; exact SqL.of hl1⟩) ?_ ?_⟩
      · rintro i y ys H3 hi ⟨rfl, rs2, ps2, rfl, hP2, hs2, hl2⟩
        obtain ⟨r, hr, rfl⟩ := refs_at hi
        obtain ⟨⟨x, y⟩, hab, hp2⟩ := Paired.at hP1 hr
        refine ⟨rfl, _, rfl, _, rfl, r, t, [x, y], [pa, pb], rfl, rfl, hp2, ht1, rfl, _, rfl, ?_⟩
        refine ite2 (fun _ => ?_) (fun _ => ?_)
        · refine ⟨_, rfl, rfl, rs2 ++ [r], ps2 ++ [(x, y)], by rw [List.map_append]; rfl, paired_app hP2 (.cons hp2 .nil), fun p hp => ?_, by rw [List.length_append, List.length_singleton]; omega⟩
          rcases List.mem_append.mp hp with h | h
          · exact hs2 p h
          · rw [List.mem_singleton.mp h]; exact List.mem_of_getElem? hab
        · exact ⟨rfl, rs2, ps2, rfl, hP2, hs2, by omega⟩
      · rintro ys H3 l2 ⟨rfl, rs2, ps2, rfl, hP2, hs2, hl2⟩ hl2n
        rw [List.length_map] at hl2
        exact q l2 ps2 _ (s1.put (s1.free hl2n)) (s1.free hl2n) ⟨rs2, upd_same, prs_same hP2 (Same.new hl2n)⟩ (hin.sub hs2) (by omega)
    · refine ⟨_, rfl, _, rfl, (by show 1 ≤ sizeLine; decide), fun b hb => ?_⟩
      have s2 : Same H1 (upd H1 b (.lst [.ref t])) := Same.new hb
      refine ⟨l, b, _, _, rfl, rfl, s2 _ _ hl1, upd_same, by rw [List.length_map]; show _ + 1 ≤ _; omega, fun l2 hl2 => ?_⟩
      have s3 := s2.trans (Same.new (o := .lst (rs.map V.ref ++ [V.ref t])) hl2)
      refine q l2 (ps ++ [(pa, pb)]) _ (s1.trans s3) ((s1.trans s2).free hl2) ⟨rs ++ [t], by rw [upd_same, List.map_append]; rfl, ?_⟩ (hin.app (In.one hA2 hB2)) (by rw [List.length_append, List.length_singleton]; omega)
      exact paired_app (prs_same hP1 s3) (.cons (s3 _ _ ht1) .nil)
noncomputable abbrev spRinged := spBuild 12
noncomputable abbrev sRinged : Stmt := (top 14)
noncomputable abbrev nRinged : List Str := ["script", "at", "many", "left", "order", "k", "pairs"]
noncomputable abbrev pRinged : List Str := ["script", "at", "many"]
theorem scRinged : FnScope nRinged pRinged (defScope sRinged) := ⟨rfl, rfl, rfl, by decide +kernel, rfl, by decide +kernel, by decide +kernel⟩
theorem coRinged1 : CompOk (mkSc [(".0", .local), ("k", .local), ("order", .free)]) ["k"] (defScope sRinged) nRinged := ⟨rfl, by decide +kernel, by decide +kernel, by decide +kernel, by decide +kernel, by decide +kernel⟩
theorem cnRinged1 : (blkN nRinged ["k"]).Nodup := by decide +kernel
theorem iv_get {c : List Nat} {j : Nat} (hj : j < c.length) : (Iv c)[j]? = some (.int (c[j] : Int)) := by
  unfold Iv
  rw [List.getElem?_map, List.getElem?_eq_getElem hj]
  rfl
theorem at_cur {c : List Nat} {i : Nat} (hi : i < c.length) : ∃ y ∈ c, atI (Iv c) ((0 : Int) + (i : Int)) = some (.int (y : Nat)) := by
  rw [Int.zero_add]
  exact ⟨c[i], List.getElem_mem hi, atI_nat (iv_get hi)⟩
theorem at_prev {c : List Nat} {i : Nat} (hi : i < c.length) : ∃ y ∈ c, atI (Iv c) ((0 : Int) + (i : Int) - 1) = some (.int (y : Nat)) := by
  rw [Int.zero_add]
  cases i with
  | succ i =>
    have hj : i < c.length := by omega
    refine ⟨c[i], List.getElem_mem hj, ?_⟩
    rw [show ((i + 1 : Nat) : Int) - 1 = (i : Int) by omega]
    exact atI_nat (iv_get hj)
  | zero =>
    have hj : c.length - 1 < c.length := by omega
    refine ⟨c[c.length - 1], List.getElem_mem hj, ?_⟩
    unfold atI ixN
    rw [iv_len, if_neg (by omega), if_pos (by omega), show (((0 : Nat) : Int) - 1 + (c.length : Int)).toNat = c.length - 1 by omega]
    exact iv_get hj
theorem iv_erase : ∀ (c : List Nat) (k : Nat), (Iv c).eraseIdx k = Iv (c.eraseIdx k)
  | [], _ => rfl
  | _ :: _, 0 => rfl
  | a :: c, k + 1 => by
    show V.int (a : Int) :: (Iv c).eraseIdx k = _
    rw [iv_erase c k]
    rfl
theorem seq_nat {k n : Nat} (h : k < n) : seqIndex? (k : Int) n = some k := by
  unfold seqIndex?
  have h1 : ¬ ((k : Int) < 0) := by omega
  simp [h1, h]
theorem ok_ringed (T : Tx K mg) : FnOk P w K mg base CX0 2 T.a__law_ringed T.f__law_ringed pRinged (spRinged K) := by
  have GCell : FnOk P w K mg base CX0 1 T.a__law_cell_at T.f__law_cell_at pCell (spCell K) := ok_cell T.d__law_cell_at T.B
  have bCell : Binds K T.f__law_cell_at pCell [] := bd2 T.d__law_cell_at.F fun _ _ _ _ _ _ _ _ => rfl
  refine T.d__law_ringed.F.ok scRinged (fun vs H Q E h => ?_) (fun cdv A outer s H vs Q E hr h => ?_)
  · obtain ⟨_, _, _, _, rfl, _⟩ := h
    rfl
  · obtain ⟨a, ns, k0, n, rfl, hS, hk0, hn1, hn, q⟩ := h
    have hz := sizeLine_eq
    refine ⟨_, pss_cons (ps_set (i := 3) scRinged.nd rfl (Or.inl rfl) (pe_callTy (call_listR rfl) (by rfl) T.B.list (by decide +kernel) (pa_cons (pe_callTy call_rangeV (by rfl) T.B.range (by decide +kernel) (pa_cons (pv 2) pa_nil)) pa_nil)))
      (pss_cons (ps_set (i := 4) scRinged.nd rfl (Or.inr rfl) (pe_lst pa_nil))
      (pss_cons (ps_for PassesOwn.never rfl (pi_range1 rfl T.B.range (pa_cons (pv 2) pa_nil)) (pg_name (i := 5) scRinged.nd rfl (Or.inl rfl))
        (pss_one (ps_expr (peM (K := K) rfl PySem.F.plainAttrs_list PySem.F.slot_list_append PySem.F.type_list_append mt_append (pv 4) (pa_cons (peM (K := K) rfl PySem.F.plainAttrs_list PySem.F.slot_list_pop PySem.F.type_list_pop mt_popAt (pv 3) (pa_cons (pe_op op_mod (pe_call GCell hr rfl T.d__law_cell_at.m T.d__law_cell_at.F.kp bCell .nil pass0 (pa_cons (pv 0) (pa_cons (pe_op op_add (pe_op op_add (pv 1) pe_int) (pv 5)) pa_nil))) (pe_callB (lenS (K := K) rfl) (by rfl) T.B.len PySem.boot_len (pa_cons (pv 3) pa_nil))) pa_nil)) pa_nil)))))
      (pss_cons (ps_comp (i := 6) scRinged.nd rfl rfl rfl coRinged1 (pi_range1 rfl T.B.range (pa_cons (pv 2) pa_nil)) (fun _ _ _ _ _ => pg_name (i := 7) cnRinged1 rfl (Or.inl rfl) (Or.inr rfl)) (fun _ _ _ _ _ => pif_nil)
        (fun _ _ _ _ _ => pe_tup (pa_cons (pe_ix (ixL (K := K) rfl) (pv 4) (pe_op op_sub (pv 7) pe_int) (fun _ _ => rfl)) (pa_cons (pe_ix (ixL (K := K) rfl) (pv 4) (pv 7) (fun _ _ => rfl)) pa_nil))) (by rfl))
      (pss_cons (ps_if (pt_cmpR op_eq (pe_op op_mod (pe_call GCell hr rfl T.d__law_cell_at.m T.d__law_cell_at.F.kp bCell .nil pass0 (pa_cons (pv 0) (pa_cons (pv 1) pa_nil))) pe_int) pe_int (nomark _)) (pss_one (ps_expr (peM (K := K) rfl PySem.F.plainAttrs_list PySem.F.slot_list_pop PySem.F.type_list_pop mt_popAt (pv 6) (pa_cons pe_int pa_nil)))) pss_nil)
      (pss_one (ps_ret (pv 6))))))), ?_⟩
    refine ⟨_, rfl, _, rfl, fun p1 h1 => ⟨p1, n, rfl, upd_same, by omega, fun lf h2 => ⟨Nat.zero_le _, fun od h3 => ?_⟩⟩⟩
    have h2' : H lf = none := (Same.new h1).free h2
    have s2 : Same H (upd (upd H p1 (.rng 0 n)) lf (.lst (Iv (List.range n)))) := (Same.new h1).trans (Same.new h2)
    have h3' : H od = none := s2.free h3
    have s3 : Same H (upd (upd (upd H p1 (.rng 0 n)) lf (.lst (Iv (List.range n)))) od (.lst [])) := s2.trans (Same.new h3)
    have hne : lf ≠ od := ne_of_none upd_same h3
    refine ⟨_, rfl, n, rfl, by omega, by omega, ?_⟩
    rw [Int.toNat_natCast]
    refine for_range (fun i σ H3 => ∃ xs os v, σ = [some (.ref a), some (.int k0), some (.int n), some (.ref lf), some (.ref od), v, none] ∧ Same H H3 ∧ H3 lf = some (.lst (Iv xs)) ∧ H3 od = some (.lst (Iv os)) ∧ xs.length + i = n ∧ os.length = i ∧ (∀ x ∈ xs, x < n) ∧ ∀ x ∈ os, x < n)
      ⟨List.range n, [], none, rfl, s3, by rw [upd_ne hne]; exact upd_same, upd_same, by rw [List.length_range]; rfl, rfl, fun x hx => List.mem_range.mp hx, (fun _ h => nomatch h)⟩ ?_ ?_
    · rintro i σ H3 hi ⟨xs, os, v, rfl, s3, hlf, hod, hxl, hol, hx, ho⟩
      have hpos : (0 : Int) < ((Iv xs).length : Int) := by rw [iv_len]; omega
      refine ⟨_, rfl, .inl ⟨rfl, _, SqL.of hod⟩, _, rfl, .inl ⟨rfl, _, SqL.of hlf⟩, _, rfl, _, rfl, _, _, rfl, rfl, _, rfl, _, _, rfl, rfl, a, ns, _, rfl, s3.seq hS, by omega, _, rfl, lf, _, rfl, .inl (SqL.of hlf), _, _, rfl, rfl, hpos, ?_⟩
      have hm1 := Int.emod_nonneg (cell ns (k0 + 2 + (0 + (i : Int)))) (Int.ne_of_gt hpos)
      have hm2 := Int.emod_lt_of_pos (cell ns (k0 + 2 + (0 + (i : Int)))) hpos
      obtain ⟨j, hj⟩ : ∃ j : Nat, cell ns (k0 + 2 + (0 + (i : Int))) % ((Iv xs).length : Int) = (j : Int) := ⟨_, (Int.toNat_of_nonneg hm1).symm⟩
      rw [hj] at hm2
      have hjl : j < xs.length := by rw [iv_len] at hm2; omega
      refine ⟨lf, Iv xs, (j : Int), j, .int (xs[j] : Nat), rfl, by rw [← hj], hlf, by omega, by omega, by rw [iv_len]; exact seq_nat hjl, iv_get hjl, ?_⟩
      have hod2 : (upd H3 lf (.lst ((Iv xs).eraseIdx j))) od = some (.lst (Iv os)) := by rw [upd_ne hne.symm]; exact hod
      refine ⟨od, _, _, rfl, rfl, hod2, by rw [iv_len]; omega, xs.eraseIdx j, os ++ [xs[j]], _, rfl, (s3.put h2').put h3', ?_, ?_, ?_, ?_, ?_, ?_⟩
      · rw [upd_ne hne, upd_same, iv_erase]
      · rw [upd_same, iv_app]; rfl
      · rw [List.length_eraseIdx, if_pos hjl]; omega
      · rw [List.length_append, List.length_singleton]; omega
      · exact fun x h => hx x (List.mem_of_mem_eraseIdx h)
      · intro x h
        rcases List.mem_append.mp h with h | h
        · exact ho x h
        · rw [List.mem_singleton.mp h]; exact hx _ (List.getElem_mem hjl)
    · rintro σ H3 ⟨xs, os, v, rfl, s3, hlf, hod, hxl, hol, hx, ho⟩
      refine ⟨_, rfl, n, rfl, by omega, by omega, comp_range (k := 1) (fun j ys H4 => ∃ (rs2 : List Addr) (ps2 : List (Int × Int)), ys = rs2.map V.ref ∧ Same H3 H4 ∧ Paired (Pr H4) rs2 ps2 ∧ In n ps2 ∧ ps2.length = j) ⟨[], [], rfl, Same.refl _, .nil, (fun _ h => nomatch h), rfl⟩ (by rw [Int.toNat_natCast]; omega) (fun j ys H4 ⟨rs2, ps2, e, _, h, _, h2⟩ => by rw [e, List.length_map, Paired.length h]; omega) ?_ ?_⟩
      · rintro j ys H4 hj ⟨rs2, ps2, rfl, s4, hP2, hin, hlen⟩
        rw [Int.toNat_natCast] at hj
        obtain ⟨x, hxm, ex⟩ := at_prev (c := os) (i := j) (by omega)
        obtain ⟨y, hym, ey⟩ := at_cur (c := os) (i := j) (by omega)
        have hod4 := s4 _ _ hod
        have := ho x hxm
        have := ho y hym
        refine ⟨rfl, _, rfl, _, rfl, _, _, rfl, rfl, od, _, _, _, rfl, rfl, SqL.of hod4, ex, _, rfl, _, rfl, od, _, _, _, rfl, rfl, SqL.of hod4, ey, (by show 2 ≤ sizeLine; decide), fun t ht => ?_⟩
        exact ⟨rs2 ++ [t], ps2 ++ [((x : Int), (y : Int))], by rw [List.map_append]; rfl, s4.put (s4.free ht), paired_app (prs_same hP2 (Same.new ht)) (.cons upd_same .nil), hin.app (In.one (by omega) (by omega)), by rw [List.length_append, List.length_singleton]; omega⟩
      · rintro ys H4 l ⟨rs2, ps2, rfl, s4, hP2, hin, hlen⟩ hl
        rw [Int.toNat_natCast] at hlen
        have s5 := s3.trans (s4.trans (Same.new (o := .lst (rs2.map V.ref)) hl))
        refine ⟨_, rfl, _, rfl, a, ns, k0, rfl, s5.seq hS, hk0, _, _, rfl, rfl, (by show (0 : Int) < 2; decide), rfl, _, rfl, ?_⟩
        refine ite2 (fun _ => ?_) (fun _ => ?_)
        · cases hP2 with
          | nil => simp at hlen; omega
          | @cons r p rs' ps' h1 h2 =>
            refine ⟨_, rfl, .inl ⟨rfl, _, SqL.of upd_same⟩, l, _, 0, 0, _, rfl, rfl, upd_same, by decide, by decide, ?_, rfl, _, rfl, ?_⟩
            · exact seq_nat (k := 0) (by simp)
            · refine q l ps' _ ?_ ((s3.trans s4).free hl) ⟨rs', by rw [upd_same]; rfl, ?_⟩ (hin.sub fun p hp => List.mem_cons_of_mem _ hp) (by simp at hlen; omega)
              · exact s5.put ((s3.trans s4).free hl)
              · refine Paired.mapP h2 fun r p h => ?_
                have hr : H4 r = some (.tup [.int p.1, .int p.2]) := h
                show upd (upd H4 l _) l _ r = _
                rw [upd_ne (ne_of_none hr hl), upd_ne (ne_of_none hr hl)]
                exact hr
        · exact ⟨_, rfl, q l ps2 _ s5 ((s3.trans s4).free hl) ⟨rs2, upd_same, prs_same hP2 (Same.new hl)⟩ hin (by omega)⟩
end
theorem Paired.drop' {α β : Type} {F : α → β → Prop} : ∀ {l₁ : List α} {l₂ : List β} (n : Nat), Paired F l₁ l₂ → Paired F (l₁.drop n) (l₂.drop n)
  | _, _, 0, h => h
  | _, _, n + 1, .nil => .nil
  | _, _, n + 1, .cons _ t => Paired.drop' n t
theorem Paired.take' {α β : Type} {F : α → β → Prop} : ∀ {l₁ : List α} {l₂ : List β} (n : Nat), Paired F l₁ l₂ → Paired F (l₁.take n) (l₂.take n)
  | _, _, 0, _ => .nil
  | _, _, n + 1, .nil => .nil
  | _, _, n + 1, .cons r t => .cons r (Paired.take' n t)
theorem Paired.rep' {α β : Type} {F : α → β → Prop} {l₁ : List α} {l₂ : List β} (h : Paired F l₁ l₂) : ∀ n : Nat, Paired F (List.replicate n l₁).flatten (List.replicate n l₂).flatten
  | 0 => .nil
  | n + 1 => by
    rw [List.replicate_succ, List.replicate_succ, List.flatten_cons, List.flatten_cons]
    exact paired_app h (Paired.rep' h n)
theorem take_cut (xs : List V) (i : Nat) (hi : i ≤ xs.length) : cutV xs none (some (i : Int)) = xs.take i := by
  unfold cutV
  rw [HT.sIx_nat, HT.sIx_none, Nat.min_eq_left hi, List.drop_zero, Nat.sub_zero]
theorem take_cut' (xs : List V) (i : Nat) : cutV xs none (some (i : Int)) = xs.take i := by
  unfold cutV
  rw [HT.sIx_nat, HT.sIx_none, List.drop_zero, Nat.sub_zero]
  rcases Nat.le_total i xs.length with h | h
  · rw [Nat.min_eq_left h]
  · rw [Nat.min_eq_right h, List.take_length, List.take_of_length_le h]
theorem rep_map {α β : Type} (f : α → β) (l : List α) : ∀ n : Nat, (List.replicate n (l.map f)).flatten = ((List.replicate n l).flatten).map f
  | 0 => rfl
  | n + 1 => by rw [List.replicate_succ, List.replicate_succ, List.flatten_cons, List.flatten_cons, List.map_append, rep_map f l n]
/-- what is drawn: n things, the sayings once each, the sayings as told -/
structure Drawn (H : Hp) (n : Nat) (sl tl : Addr) (sp tp : List (Int × Int)) : Prop where
  n1 : 1 ≤ n
  n12 : n ≤ 12
  s : PrsO H sl sp
  t : PrsO H tl tp
  iff : ∀ p, p ∈ sp ↔ p ∈ tp
  inn : In n tp
  sl63 : sp.length ≤ 63
  tl200 : tp.length ≤ 200
theorem Drawn.same {H H' : Hp} {n : Nat} {sl tl : Addr} {sp tp : List (Int × Int)} (d : Drawn H n sl tl sp tp) (s : Same H H') : Drawn H' n sl tl sp tp := ⟨d.n1, d.n12, d.s.same s, d.t.same s, d.iff, d.inn, d.sl63, d.tl200⟩
theorem Drawn.ins {H : Hp} {n : Nat} {sl tl : Addr} {sp tp : List (Int × Int)} (d : Drawn H n sl tl sp tp) : In n sp := fun p hp => d.inn p ((d.iff p).mp hp)
section
variable {P : Program} {w : World} {K : PySem.W.Frag} {mg : Str → Option Value} {base : Heap}
noncomputable def spSay (K : PySem.W.Frag) : Sp := fun vs H Q _ => ∃ (a : Addr) (ns : List Int) (k : Int) (f : Nat), vs = [.ref a, .int k, .int f] ∧ SqL K H a (ns.map V.int) ∧ 0 ≤ k ∧ 1 ≤ f ∧ f ≤ 7 ∧
  ∀ d n sl tl sp tp H', Same H H' → H d = none → H sl = none → H tl = none → H' d = some (.tup [.int (n : Nat), .ref sl, .ref tl]) → Drawn H' n sl tl sp tp → (f ≠ 7 → n ≤ f) → Q (.ref d) H'
noncomputable abbrev sSay : Stmt := (top 15)
noncomputable abbrev nSay : List Str := ["script", "at", "few", "cell", "many", "pairs", "turn", "told"]
noncomputable abbrev pSay : List Str := ["script", "at", "few"]
theorem scSay : FnScope nSay pSay (defScope sSay) := ⟨rfl, rfl, rfl, by decide +kernel, rfl, by decide +kernel, by decide +kernel⟩
noncomputable abbrev SayA (H : Hp) (a : Addr) (k0 : Int) (f : Nat) (c : Int) (σ : St) (H' : Hp) : Prop := H' = H ∧ ∃ n : Nat, 1 ≤ n ∧ n ≤ 12 ∧ (f ≠ 7 → n ≤ f) ∧ σ = [some (.ref a), some (.int k0), some (.int f), some (.int c), some (.int n), none, none, none]
noncomputable abbrev SayB (H0 : Hp) (a : Addr) (k0 : Int) (f : Nat) (c : Int) (n : Nat) (σ : St) (H' : Hp) : Prop := ∃ l ps, Same H0 H' ∧ H0 l = none ∧ PrsO H' l ps ∧ In n ps ∧ ps.length ≤ 62 ∧ σ = [some (.ref a), some (.int k0), some (.int f), some (.int c), some (.int n), some (.ref l), none, none]
noncomputable abbrev SayC (H0 : Hp) (a : Addr) (k0 : Int) (f : Nat) (c : Int) (n : Nat) (σ : St) (H' : Hp) : Prop := ∃ l ps, Same H0 H' ∧ H0 l = none ∧ PrsO H' l ps ∧ In n ps ∧ ps.length ≤ 63 ∧ σ = [some (.ref a), some (.int k0), some (.int f), some (.int c), some (.int n), some (.ref l), none, none]
noncomputable abbrev SayD (H0 : Hp) (a : Addr) (k0 : Int) (f : Nat) (c : Int) (n : Nat) (l : Addr) (rs : List Addr) (ps : List (Int × Int)) (t : Int) (σ : St) (H' : Hp) : Prop := ∃ tl tp, Same H0 H' ∧ H0 tl = none ∧ H' l = some (.lst (rs.map V.ref)) ∧ Paired (Pr H') rs ps ∧ PrsO H' tl tp ∧ (∀ p, p ∈ ps ↔ p ∈ tp) ∧ tp.length ≤ 200 ∧ σ = [some (.ref a), some (.int k0), some (.int f), some (.int c), some (.int n), some (.ref l), some (.int t), some (.ref tl)]
theorem ok_say (T : Tx K mg) : FnOk P w K mg base CX0 3 T.a__law_sayings T.f__law_sayings pSay (spSay K) := by
  have GCell : FnOk P w K mg base CX0 1 T.a__law_cell_at T.f__law_cell_at pCell (spCell K) := ok_cell T.d__law_cell_at T.B
  have bCell : Binds K T.f__law_cell_at pCell [] := bd2 T.d__law_cell_at.F fun _ _ _ _ _ _ _ _ => rfl
  have GAny : FnOk P w K mg base CX0 2 T.a__law_any T.f__law_any pAny (spAny K) := ok_any T
  have bAny : Binds K T.f__law_any pAny [] := bd3 T.d__law_any.F fun _ _ _ _ _ _ _ _ _ => rfl
  have GRinged : FnOk P w K mg base CX0 2 T.a__law_ringed T.f__law_ringed pRinged (spRinged K) := ok_ringed T
  have bRinged : Binds K T.f__law_ringed pRinged [] := bd3 T.d__law_ringed.F fun _ _ _ _ _ _ _ _ _ => rfl
  have GMarked : FnOk P w K mg base CX0 2 T.a__law_marked T.f__law_marked pMarked (spMarked K) := ok_marked T
  have bMarked : Binds K T.f__law_marked pMarked [] := bd3 T.d__law_marked.F fun _ _ _ _ _ _ _ _ _ => rfl
  have GSpanned : FnOk P w K mg base CX0 2 T.a__law_spanned T.f__law_spanned pSpanned (spSpanned K) := ok_spanned T
  have bSpanned : Binds K T.f__law_spanned pSpanned [] := bd3 T.d__law_spanned.F fun _ _ _ _ _ _ _ _ _ => rfl
  have GTurned : FnOk P w K mg base CX0 1 T.a__law_turned T.f__law_turned pTurned (spTurned K) := ok_turned T
  have bTurned : Binds K T.f__law_turned pTurned [] := bd3 T.d__law_turned.F fun _ _ _ _ _ _ _ _ _ => rfl
  refine T.d__law_sayings.F.ok scSay (fun vs H Q E h => ?_) (fun cdv A outer s H vs Q E hr h => ?_)
  · obtain ⟨_, _, _, _, rfl, _⟩ := h
    rfl
  · obtain ⟨a, ns, k0, f, rfl, hS, hk0, hf1, hf7, q⟩ := h
    have hz := sizeLine_eq
    have hr1 : Room 1 _ := hr.mono (by decide)
    have hu8 := Nat.lt_of_le_of_lt (Nat.add_le_add_left (by decide : 8 ≤ 64) _) hr.units
    refine ⟨_, pss_cons (ps_set (i := 3) scSay.nd rfl (Or.inl rfl) (pe_call GCell hr1 rfl T.d__law_cell_at.m T.d__law_cell_at.F.kp bCell .nil pass0 (pa_cons (pv 0) (pa_cons (pv 1) pa_nil))))
      (pss_cons (ps_set (i := 4) scSay.nd rfl (Or.inl rfl) (pe_op op_add pe_int (pe_op op_mod (pe_op op_fdiv (pv 3) pe_int) (pv 2))))
      (pss_cons (ps_cut (ps_if (PW.pt (pw_and (pt_cmpR op_eq (pv 2) pe_int (nomark _)) (pw_and1 (pt_cmpR op_eq (pe_op op_mod (pe_op op_fdiv (pv 3) pe_int) pe_int) pe_int (nomark _)))))
        (pss_one (ps_set (i := 4) scSay.nd rfl (Or.inl rfl) (pe_op op_add pe_int (pe_op op_mod (pe_op op_fdiv (pv 3) pe_int) pe_int)))) pss_nil))
      (pss_cons (ps_cut (ps_if (pt_cmpR op_eq (pe_op op_mod (pv 3) pe_int) pe_int (nomark _)) (pss_one (ps_set (i := 5) scSay.nd rfl (Or.inl rfl) (pe_call GAny hr rfl T.d__law_any.m T.d__law_any.F.kp bAny .nil pass0 (pa_cons (pv 0) (pa_cons (pe_op op_add (pv 1) pe_int) (pa_cons (pv 4) pa_nil))))))
        (pss_one (ps_if (pt_cmpR op_eq (pe_op op_mod (pv 3) pe_int) pe_int (nomark _)) (pss_one (ps_set (i := 5) scSay.nd rfl (Or.inl rfl) (pe_call GRinged hr rfl T.d__law_ringed.m T.d__law_ringed.F.kp bRinged .nil pass0 (pa_cons (pv 0) (pa_cons (pe_op op_add (pv 1) pe_int) (pa_cons (pv 4) pa_nil))))))
        (pss_one (ps_if (PW.pt (pw_or (pt_cmpR op_eq (pe_op op_mod (pv 3) pe_int) pe_int (nomark _)) (pw_or1 (pt_cmpR op_eq (pe_op op_mod (pv 3) pe_int) pe_int (nomark _))))) (pss_one (ps_set (i := 5) scSay.nd rfl (Or.inl rfl) (pe_call GMarked hr rfl T.d__law_marked.m T.d__law_marked.F.kp bMarked .nil pass0 (pa_cons (pv 0) (pa_cons (pe_op op_add (pv 1) pe_int) (pa_cons (pv 4) pa_nil))))))
        (pss_one (ps_set (i := 5) scSay.nd rfl (Or.inl rfl) (pe_call GSpanned hr rfl T.d__law_spanned.m T.d__law_spanned.F.kp bSpanned .nil pass0 (pa_cons (pv 0) (pa_cons (pe_op op_add (pv 1) pe_int) (pa_cons (pv 4) pa_nil))))))))))))
      (pss_cons (ps_cut (ps_if (PW.pt (pw_or (pt_cmpR op_eq (pe_op op_mod (pv 3) pe_int) pe_int (nomark _)) (pw_or1 (pt_cmpR op_eq (pe_op op_mod (pv 3) pe_int) pe_int (nomark _)))))
        (pss_one (ps_set (i := 5) scSay.nd rfl (Or.inl rfl) (pe_call GTurned hr1 rfl T.d__law_turned.m T.d__law_turned.F.kp bTurned .nil pass0 (pa_cons (pv 5) (pa_cons (pe_call GCell hr1 rfl T.d__law_cell_at.m T.d__law_cell_at.F.kp bCell .nil pass0 (pa_cons (pv 0) (pa_cons (pe_op op_add (pv 1) pe_int) pa_nil))) (pa_cons (pv 4) pa_nil)))))) pss_nil))
      (pss_cons (ps_set (i := 6) scSay.nd rfl (Or.inl rfl) (pe_op op_mod (pe_op op_fdiv (pe_call GCell hr1 rfl T.d__law_cell_at.m T.d__law_cell_at.F.kp bCell .nil pass0 (pa_cons (pv 0) (pa_cons (pe_op op_add (pv 1) pe_int) pa_nil))) pe_int) (pe_op op_add (pe_callB (lenS (K := K) rfl) (by rfl) T.B.len PySem.boot_len (pa_cons (pv 5) pa_nil)) pe_int)))
      (pss_cons (ps_set (i := 7) scSay.nd rfl (Or.inl rfl) (pe_op op_cat (pe_slice (slL (K := K) rfl) (pv 5) (po_some (pv 6)) po_none) (pe_slice (slL (K := K) rfl) (pv 5) po_none (po_some (pv 6)))))
      (pss_cons (ps_cut (ps_if (pt_cmpR op_eq (pe_op op_mod (pe_op op_fdiv (pv 3) pe_int) pe_int) pe_int (nomark _)) (pss_one (ps_set (i := 7) scSay.nd rfl (Or.inl rfl) (pe_slice (slL (K := K) rfl) (pe_op op_rep (pv 7) pe_int) po_none (po_some pe_int)))) pss_nil))
      (pss_one (ps_ret (pe_tup (pa_cons (pv 4) (pa_cons (pe_callB (call_sortedT rfl) (by rfl) T.B.sorted PyProof.Rows.boot_sorted (pa_cons (pe_callTy (call_setT rfl hu8) (by rfl) T.B.set PyProof.Rows.boot_set (pa_cons (pv 5) pa_nil)) pa_nil)) (pa_cons (pv 7) pa_nil))))))))))))), ?_⟩
    refine ⟨_, rfl, _, rfl, a, ns, k0, rfl, hS, hk0, ?_⟩
    generalize cell ns k0 = c
    have hf0 : (0 : Int) < f := by omega
    have hk1 : 0 ≤ k0 + 1 := Int.add_nonneg hk0 (by decide)
    have hk2 : 0 ≤ k0 + 2 := Int.add_nonneg hk0 (by decide)
    refine ⟨_, rfl, _, _, rfl, rfl, ⟨(by show (0 : Int) < 6; decide), (by show (6 : Int) < 1073741824; decide)⟩, _, rfl, _, _, rfl, rfl, hf0, _, _, rfl, rfl, ?_⟩
    obtain ⟨n0, hn0⟩ : ∃ n0 : Nat, 1 + c / 6 % (f : Int) = n0 := ⟨_, (Int.toNat_of_nonneg (by have := Int.emod_nonneg (c / 6) (Int.ne_of_gt hf0); omega)).symm⟩
    have hn0b : 1 ≤ n0 ∧ n0 ≤ f := by
      have h1 := Int.emod_nonneg (c / 6) (Int.ne_of_gt hf0)
      have h2 := Int.emod_lt_of_pos (c / 6) hf0
      omega
    refine ⟨SayA H a k0 f c, ?_, ?_⟩
    · refine ⟨_, rfl, rfl, _, rfl, ?_⟩
      refine ite2 (fun h7 => ?_) (fun h7 => ?_)
      · refine ⟨_, rfl, _, _, rfl, rfl, ⟨(by show (0 : Int) < 42; decide), (by show (42 : Int) < 1073741824; decide)⟩, _, _, rfl, rfl, (by show (0 : Int) < 8; decide), rfl, _, rfl, ?_⟩
        refine ite2 (fun _ => ?_) (fun _ => ?_)
        · obtain ⟨n1, hn1⟩ : ∃ n1 : Nat, 8 + c / 336 % 5 = (n1 : Int) := ⟨_, (Int.toNat_of_nonneg (by omega)).symm⟩
          refine ⟨_, rfl, _, _, rfl, rfl, ⟨(by show (0 : Int) < 336; decide), (by show (336 : Int) < 1073741824; decide)⟩, _, _, rfl, rfl, (by show (0 : Int) < 5; decide), _, _, rfl, rfl, rfl, n1, by omega, by omega, fun z => ?_, by rw [← hn1]; rfl⟩
          have h' := of_decide_eq_true h7
          injection h' with h'
          omega
        · exact ⟨rfl, n0, by omega, by omega, fun _ => hn0b.2, by rw [← hn0]; rfl⟩
      · exact iteF ⟨rfl, n0, by omega, by omega, fun _ => hn0b.2, by rw [← hn0]; rfl⟩
    · rintro σ H0 ⟨rfl, n, hn1, hn, hnf, rfl⟩
      refine ⟨SayB H0 a k0 f c n, ?_, ?_⟩
      · refine ⟨_, rfl, _, _, rfl, rfl, (by show (0 : Int) < 6; decide), rfl, _, rfl, ?_⟩
        refine ite2 (fun _ => ?_) (fun _ => ?_)
        · exact ⟨_, rfl, _, rfl, _, _, rfl, rfl, _, rfl, a, ns, k0 + 1, n, rfl, hS, hk1, hn1, hn, fun l ps H' s hl hP hin hlen => ⟨l, ps, s, hl, hP, hin, Nat.le_trans hlen (by decide), rfl⟩⟩
        · refine ⟨_, rfl, _, _, rfl, rfl, (by show (0 : Int) < 6; decide), rfl, _, rfl, ?_⟩
          refine ite2 (fun _ => ?_) (fun _ => ?_)
          · exact ⟨_, rfl, _, rfl, _, _, rfl, rfl, _, rfl, a, ns, k0 + 1, n, rfl, hS, hk1, hn1, hn, fun l ps H' s hl hP hin hlen => ⟨l, ps, s, hl, hP, hin, Nat.le_trans hlen (by decide), rfl⟩⟩
          · refine ⟨_, rfl, _, _, rfl, rfl, (by show (0 : Int) < 6; decide), rfl, _, rfl, ?_⟩
            refine ite2 (fun _ => ?_) (fun _ => ?_)
            · exact iteT ⟨_, rfl, _, rfl, _, _, rfl, rfl, _, rfl, a, ns, k0 + 1, n, rfl, hS, hk1, hn1, hn, fun l ps H' s hl hP hin hlen => ⟨l, ps, s, hl, hP, hin, Nat.le_trans hlen (by decide), rfl⟩⟩
            · refine ⟨_, rfl, _, _, rfl, rfl, (by show (0 : Int) < 6; decide), rfl, _, rfl, ?_⟩
              refine ite2 (fun _ => ?_) (fun _ => ?_)
              · exact ⟨_, rfl, _, rfl, _, _, rfl, rfl, _, rfl, a, ns, k0 + 1, n, rfl, hS, hk1, hn1, hn, fun l ps H' s hl hP hin hlen => ⟨l, ps, s, hl, hP, hin, Nat.le_trans hlen (by decide), rfl⟩⟩
              · exact ⟨_, rfl, _, rfl, _, _, rfl, rfl, _, rfl, a, ns, k0 + 1, n, rfl, hS, hk1, hn1, hn, fun l ps H' s hl hP hin hlen => ⟨l, ps, s, hl, hP, hin, Nat.le_trans hlen (by decide), rfl⟩⟩
      · rintro σ H1 ⟨l0, ps0, s1, hl0, hP0, hin0, hlen0, rfl⟩
        refine ⟨SayC H0 a k0 f c n, ?_, ?_⟩
        · refine ⟨_, rfl, _, _, rfl, rfl, (by show (0 : Int) < 6; decide), rfl, _, rfl, ?_⟩
          refine ite2 (fun _ => ?_) (fun _ => ?_)
          · exact iteT ⟨_, rfl, _, rfl, _, rfl, _, _, rfl, rfl, a, ns, k0 + 2, rfl, s1.seq hS, hk2, _, rfl, l0, _, n, ps0, rfl, hP0, hin0, hn1, hn, by omega, fun l ps H' s hl hP hin hlen => ⟨l, ps, s1.trans s, s1.free hl, hP, hin, by omega, rfl⟩⟩
          · refine ⟨_, rfl, _, _, rfl, rfl, (by show (0 : Int) < 6; decide), rfl, _, rfl, ?_⟩
            refine ite2 (fun _ => ?_) (fun _ => ?_)
            · exact ⟨_, rfl, _, rfl, _, rfl, _, _, rfl, rfl, a, ns, k0 + 2, rfl, s1.seq hS, hk2, _, rfl, l0, _, n, ps0, rfl, hP0, hin0, hn1, hn, by omega, fun l ps H' s hl hP hin hlen => ⟨l, ps, s1.trans s, s1.free hl, hP, hin, by omega, rfl⟩⟩
            · exact ⟨l0, ps0, s1, hl0, hP0, hin0, by omega, rfl⟩
        · clear hP0 hlen0 hin0 hl0
          rintro σ H2 ⟨l, ps, s2, hl0, ⟨rs, hl, hP⟩, hin, hlen, rfl⟩
          have e1 := Paired.length hP
          refine ⟨_, rfl, _, rfl, _, _, rfl, rfl, a, ns, k0 + 2, rfl, s2.seq hS, hk2, _, _, rfl, rfl, ⟨(by show (0 : Int) < 200; decide), (by show (200 : Int) < 1073741824; decide)⟩, _, rfl, l, _, rfl, .inl (SqL.of hl), _, _, rfl, rfl, _, _, rfl, rfl, by omega, ?_⟩
          dsimp only
          obtain ⟨t, ht⟩ : ∃ t : Nat, cell ns (k0 + 2) / 200 % (((rs.map V.ref).length : Int) + 1) = t := ⟨_, (Int.toNat_of_nonneg (Int.emod_nonneg _ (by omega))).symm⟩
          have htl : t ≤ rs.length := by
            have := Int.emod_lt_of_pos (cell ns (k0 + 2) / 200) (b := ((rs.map V.ref).length : Int) + 1) (by omega)
            rw [List.length_map] at this ht
            omega
          rw [ht]
          refine ⟨_, rfl, _, rfl, t, rfl, l, _, rfl, SqL.of hl, fun p1 hp1 => ?_⟩
          have s3 := Same.new (o := .lst (cutV (rs.map V.ref) (some (t : Int)) none)) hp1
          refine ⟨_, rfl, _, rfl, t, rfl, l, _, rfl, SqL.of (s3 _ _ hl), fun p2 hp2 => ?_⟩
          have s4 := Same.new (o := .lst (cutV (rs.map V.ref) none (some (t : Int)))) hp2
          rw [drop_cut _ _ (by rw [List.length_map]; exact htl), take_cut _ _ (by rw [List.length_map]; exact htl)] at *
          refine ⟨p1, p2, _, _, rfl, rfl, s4 _ _ upd_same, upd_same, ?_, fun tl0 htl0 => ?_⟩
          · rw [← List.map_drop, ← List.map_take, List.length_map, List.length_map, List.length_drop, List.length_take]
            omega
          have s5 := Same.new (o := .lst ((rs.map V.ref).drop t ++ (rs.map V.ref).take t)) htl0
          have s6 := (s3.trans s4).trans s5
          have hl6 := s6 _ _ hl
          have hP6 : Paired (Pr _) rs ps := prs_same hP s6
          have hT6 : PrsO _ tl0 (ps.drop t ++ ps.take t) := ⟨rs.drop t ++ rs.take t, by rw [List.map_append, List.map_drop, List.map_take]; exact upd_same, paired_app (Paired.drop' t hP6) (Paired.take' t hP6)⟩
          have hT0 := (s2.trans (s3.trans s4)).free htl0
          have s7 := s2.trans s6
          revert hl6 hP6 hT6 s7
          clear s5 s6 hl
          generalize upd _ tl0 _ = H6
          intro hl hP hT s7
          refine ⟨SayD H0 a k0 f c n l rs ps t, ?_, ?_⟩
          · have hmem : ∀ p, p ∈ ps ↔ p ∈ ps.drop t ++ ps.take t := fun p => by
              have e : p ∈ ps ↔ p ∈ ps.take t ++ ps.drop t := by rw [List.take_append_drop]
              rw [e, List.mem_append, List.mem_append]
              exact Or.comm
            have hlen2 : (ps.drop t ++ ps.take t).length ≤ 63 := by
              rw [List.length_append, List.length_drop, List.length_take]
              omega
            refine ⟨_, rfl, _, _, rfl, rfl, ⟨(by show (0 : Int) < 4200; decide), (by show (4200 : Int) < 1073741824; decide)⟩, _, _, rfl, rfl, (by show (0 : Int) < 6; decide), rfl, _, rfl, ?_⟩
            refine ite2 (fun _ => ?_) (fun _ => ?_)
            · obtain ⟨rt, hrt, hPt⟩ := hT
              have e2 := Paired.length hPt
              refine ⟨_, rfl, tl0, 12, _, rfl, rfl, hrt, by decide, by decide, ?_, fun p3 hp3 => ⟨200, rfl, p3, _, rfl, SqL.of upd_same, fun p4 hp4 => ?_⟩⟩
              · show (rt.map V.ref).length * 12 ≤ _
                rw [List.length_map]; omega
              · have s8 := (Same.new (o := .lst (List.replicate (12 : Int).toNat (rt.map V.ref)).flatten) hp3).trans (Same.new (o := .lst (cutV (List.replicate (12 : Int).toNat (rt.map V.ref)).flatten none (some 200))) hp4)
                have hp40 := (s7.trans (Same.new hp3)).free hp4
                refine ⟨p4, ((List.replicate 12 (ps.drop t ++ ps.take t)).flatten).take 200, s7.trans s8, hp40, s8 _ _ hl, prs_same hP s8, ⟨((List.replicate 12 rt).flatten).take 200, ?_, prs_same (Paired.take' 200 (Paired.rep' hPt 12)) s8⟩, fun p => ?_, List.length_take_le _ _, rfl⟩
                · rw [upd_same]
                  show some (HO.lst (cutV (List.replicate 12 (rt.map V.ref)).flatten none (some ((200 : Nat) : Int)))) = _
                  rw [take_cut', rep_map, ← List.map_take]
                · rw [hmem p]
                  constructor
                  · intro h
                    rw [List.replicate_succ, List.flatten_cons, List.take_append, List.take_of_length_le (by omega)]
                    exact List.mem_append.mpr (.inl h)
                  · intro h
                    have h2 := List.mem_of_mem_take h
                    obtain ⟨l', h3, h4⟩ := List.mem_flatten.mp h2
                    rw [(List.mem_replicate.mp h3).2] at h4
                    exact h4
            · exact ⟨tl0, _, s7, hT0, hl, hP, hT, hmem, by omega, rfl⟩
          · clear hl hP hT s7 hT0 htl0
            rintro σ H7 ⟨tl, tp, s7, htl0, hl, hP, hT, hmem, htp, rfl⟩
            obtain ⟨t1, t2⟩ := tups_of hP
            have hne : ∀ r ∈ rs, kfH H7 r ≠ [] ∧ Pr H7 r ((kfH H7 r).getD 0 0, (kfH H7 r).getD 1 0) ∧ ((kfH H7 r).getD 0 0, (kfH H7 r).getD 1 0) ∈ ps := fun r hr => by
              obtain ⟨i, hi⟩ := List.getElem?_of_mem hr
              obtain ⟨p, hp, h2⟩ := Paired.at hP hi
              rw [kfH_of h2]
              exact ⟨(fun z => nomatch z), h2, List.mem_of_getElem? hp⟩
            have hback : ∀ p ∈ ps, ∃ r ∈ rs, kfH H7 r = [p.1, p.2] := fun p hp => by
              have : [p.1, p.2] ∈ rs.map (kfH H7) := by rw [t2]; exact List.mem_map.mpr ⟨p, hp, rfl⟩
              obtain ⟨r, hr, e⟩ := List.mem_map.mp this
              exact ⟨r, hr, e⟩
            refine ⟨_, rfl, _, rfl, l, rs, kfH H7, rfl, SqL.of hl, by omega, t1, fun S hS => ?_⟩
            have s8 := Same.new (o := .ext (SetP w (kfH H7) rs S)) hS
            refine ⟨S, rs, kfH H7, rfl, upd_same, by omega, fun r hr => s8 _ _ (t1 r hr), fun r hr => (hne r hr).1, fun D rs' hD hsub hcov hlen' => ?_⟩
            have s9 := s8.trans (Same.new (o := .lst (rs'.map V.ref)) hD)
            refine ⟨_, rfl, (by show 3 ≤ sizeLine; decide), fun d hd => ?_⟩
            have s10 := Same.new (o := .tup [.int n, .ref D, .ref tl]) hd
            have s11 := s9.trans s10
            have hg : Paired (Pr H7) rs' (rs'.map fun r => ((kfH H7 r).getD 0 0, (kfH H7 r).getD 1 0)) := by
              clear hcov hlen' s9 s10 s11 hd
              induction rs' with
              | nil => exact .nil
              | cons r rs' ih => exact .cons (hne r (hsub r List.mem_cons_self)).2.1 (ih (fun r hr => hsub r (List.mem_cons_of_mem _ hr)))
            refine q d n D tl _ tp _ (s7.trans s11) ((s7.trans s9).free hd) ((s7.trans s8).free hD) htl0 upd_same ⟨hn1, hn, ⟨rs', s10 _ _ upd_same, prs_same hg s11⟩, hT.same s11, fun p => ?_, fun p hp => hin p ((hmem p).mpr hp), by rw [List.length_map]; omega, htp⟩ hnf
            rw [← hmem p, List.mem_map]
            constructor
            · rintro ⟨r, hr, rfl⟩
              exact (hne r (hsub r hr)).2.2
            · intro hp
              obtain ⟨r, hr, e⟩ := hback p hp
              obtain ⟨r', hr', e'⟩ := hcov r hr
              refine ⟨r', hr', ?_⟩
              rw [e', e]
              rfl
end
/-- law's: a list of at most 63 ints is handed in, True comes out -/
noncomputable def spLaw (K : PySem.W.Frag) : Sp := fun vs H Q _ => ∃ (a : Addr) (ns : List Int), vs = [.ref a] ∧ SqL K H a (ns.map V.int) ∧ ns.length ≤ 63 ∧ ∀ H', Q (.bl true) H'
theorem better_iff {sp tp : List (Int × Int)} (h : ∀ p, p ∈ sp ↔ p ∈ tp) : better sp = better tp := by
  funext i j
  unfold better
  rw [Bool.eq_iff_iff, decide_eq_true_eq, decide_eq_true_eq]
  exact h _
section
variable {κ : Type} [DecidableEq κ]
noncomputable def grp (f : Nat → κ) (i a : Nat) : List Nat := (List.range i).filter fun b => decide (f b = f a)
noncomputable def hds (f : Nat → κ) (i : Nat) : List Nat := (List.range i).filter fun a => (List.range a).all fun b => decide (f b ≠ f a)
theorem hds_mem {f : Nat → κ} {i a : Nat} : a ∈ hds f i ↔ a < i ∧ ∀ b, b < a → f b ≠ f a := by
  unfold hds
  rw [List.mem_filter, List.mem_range, List.all_eq_true]
  simp only [List.mem_range, decide_eq_true_eq]
theorem grp_mem {f : Nat → κ} {i a b : Nat} : b ∈ grp f i a ↔ b < i ∧ f b = f a := by
  unfold grp
  rw [List.mem_filter, List.mem_range, decide_eq_true_eq]
theorem grp_succ (f : Nat → κ) (i a : Nat) : grp f (i + 1) a = grp f i a ++ (if f i = f a then [i] else []) := by
  unfold grp
  rw [List.range_succ, List.filter_append]
  by_cases e : f i = f a <;> simp [e]
theorem grp_len (f : Nat → κ) (i a : Nat) : (grp f i a).length ≤ i := by
  unfold grp
  have := List.length_filter_le (fun b => decide (f b = f a)) (List.range i)
  rw [List.length_range] at this
  exact this
theorem hds_len (f : Nat → κ) (i : Nat) : (hds f i).length ≤ i := by
  unfold hds
  have := List.length_filter_le (fun a => (List.range a).all fun b => decide (f b ≠ f a)) (List.range i)
  rw [List.length_range] at this
  exact this
theorem hds_succ (f : Nat → κ) (i : Nat) : hds f (i + 1) = hds f i ++ (if (List.range i).all (fun b => decide (f b ≠ f i)) = true then [i] else []) := by
  unfold hds
  rw [List.range_succ, List.filter_append]
  cases e : (List.range i).all (fun b => decide (f b ≠ f i)) <;> simp only [List.filter_cons, List.filter_nil, e]
theorem hds_old {f : Nat → κ} {i a : Nat} (ha : a < i) (e : f a = f i) : hds f (i + 1) = hds f i := by
  rw [hds_succ, if_neg, List.append_nil]
  intro z
  rw [List.all_eq_true] at z
  exact of_decide_eq_true (z a (List.mem_range.mpr ha)) e
theorem hds_new {f : Nat → κ} {i : Nat} (h : ∀ a, a < i → f a ≠ f i) : hds f (i + 1) = hds f i ++ [i] := by
  rw [hds_succ, if_pos]
  rw [List.all_eq_true]
  exact fun b hb => decide_eq_true (h b (List.mem_range.mp hb))
theorem grp_new {f : Nat → κ} {i : Nat} (h : ∀ a, a < i → f a ≠ f i) : grp f (i + 1) i = [i] := by
  rw [grp_succ, if_pos rfl]
  have : grp f i i = [] := by
    rw [List.eq_nil_iff_forall_not_mem]
    intro b hb
    rw [grp_mem] at hb
    exact h b hb.1 hb.2
  rw [this]
  rfl
/-- each has a first one of its key -/
theorem hd_of (f : Nat → κ) : ∀ {b i : Nat}, b < i → ∃ a ∈ hds f i, f a = f b := by
  intro b
  induction b using Nat.strongRecOn with
  | ind b ih =>
    intro i hb
    by_cases h : ∃ c, c < b ∧ f c = f b
    · obtain ⟨c, hc, e⟩ := h
      obtain ⟨a, ha, ea⟩ := ih c hc (i := i) (by omega)
      exact ⟨a, ha, ea.trans e⟩
    · exact ⟨b, hds_mem.mpr ⟨hb, fun c hc e => h ⟨c, hc, e⟩⟩, rfl⟩
theorem grp_head {f : Nat → κ} {n a : Nat} (ha : a < n) : ∃ b, (grp f n a)[0]? = some b ∧ (b = a ↔ a ∈ hds f n) := by
  have hp : (grp f n a).Pairwise (· < ·) := List.Pairwise.filter _ List.pairwise_lt_range
  have hm : a ∈ grp f n a := grp_mem.mpr ⟨ha, rfl⟩
  have hmem : ∀ c, c ∈ grp f n a ↔ c < n ∧ f c = f a := fun c => grp_mem
  revert hp hm hmem
  generalize grp f n a = g
  intro hp hm hmem
  cases g with
  | nil => cases hm
  | cons b r =>
    refine ⟨b, rfl, ?_⟩
    have hb := (hmem b).mp List.mem_cons_self
    have le : ∀ c, c ∈ b :: r → b ≤ c := fun c hc => by
      rcases List.mem_cons.mp hc with rfl | hc
      · exact Nat.le_refl _
      · exact Nat.le_of_lt (List.rel_of_pairwise_cons hp hc)
    constructor
    · rintro rfl
      refine hds_mem.mpr ⟨ha, fun c hc e => ?_⟩
      have := le c ((hmem c).mpr ⟨by omega, e⟩)
      omega
    · intro hd
      have h1 := (hds_mem.mp hd).2
      have h2 := le a hm
      rcases Nat.lt_or_ge b a with g | g
      · exact absurd hb.2 (h1 b g)
      · omega
end
/-- a thing's row and its column -/
noncomputable def key2 (rel : Nat → Nat → Bool) (n a : Nat) : Key2 := ((List.range n).map (rel a), (List.range n).map fun b => rel b a)
theorem key2_iff {rel : Nat → Nat → Bool} {n a b : Nat} : key2 rel n a = key2 rel n b ↔ ∀ t, t < n → rel a t = rel b t ∧ rel t a = rel t b := by
  unfold key2
  rw [Prod.mk.injEq, List.map_inj_left, List.map_inj_left]
  constructor
  · exact fun h t ht => ⟨h.1 t (List.mem_range.mpr ht), h.2 t (List.mem_range.mpr ht)⟩
  · exact fun h => ⟨fun t ht => (h t (List.mem_range.mp ht)).1, fun t ht => (h t (List.mem_range.mp ht)).2⟩
theorem hds_inj {κ : Type} [DecidableEq κ] {f : Nat → κ} {i a b : Nat} (ha : a ∈ hds f i) (hb : b ∈ hds f i) (e : f a = f b) : a = b := by
  rcases Nat.lt_trichotomy a b with g | g | g
  · exact absurd e ((hds_mem.mp hb).2 a g)
  · exact g
  · exact absurd e.symm ((hds_mem.mp ha).2 b g)
theorem K2At.put {H : Hp} {k : Key2} {a q : Addr} {xs : List V} {o : HO} (x : K2At H k a) (e : H q = some (.lst xs)) : K2At (upd H q o) k a := by
  obtain ⟨b, c, e1, e2, e3⟩ := x
  refine ⟨b, c, ?_, ?_, ?_⟩
  · rw [upd_ne (ne_of e1 e (by intro z; cases z))]; exact e1
  · rw [upd_ne (ne_of e2 e (by intro z; cases z))]; exact e2
  · rw [upd_ne (ne_of e3 e (by intro z; cases z))]; exact e3
theorem K2At.putG {P : Program} {w : World} {H : Hp} {k : Key2} {a d : Addr} {xs : List Row2} {o : HO} (x : K2At H k a) (e : H d = some (GrpO P w d xs)) : K2At (upd H d o) k a := by
  obtain ⟨b, c, e1, e2, e3⟩ := x
  refine ⟨b, c, ?_, ?_, ?_⟩
  · rw [upd_ne (ne_of e1 e (by intro z; unfold GrpO at z; cases z))]; exact e1
  · rw [upd_ne (ne_of e2 e (by intro z; unfold GrpO at z; cases z))]; exact e2
  · rw [upd_ne (ne_of e3 e (by intro z; unfold GrpO at z; cases z))]; exact e3
section
variable {P : Program} {w : World} {K : PySem.W.Frag} {mg : Str → Option Value} {base : Heap}
/-- what the groups' dict holds behind i things -/
structure Grps (P : Program) (w : World) (H1 H2 : Hp) (d : Addr) (f : Nat → Key2) (i : Nat) (ka la : Nat → Addr) : Prop where
  dic : H2 d = some (GrpO P w d ((hds f i).map fun a => (f a, ka a, la a)))
  key : ∀ a ∈ hds f i, K2At H2 (f a) (ka a)
  new : ∀ a ∈ hds f i, H1 (la a) = none
  lst : ∀ a ∈ hds f i, H2 (la a) = some (.lst (Iv (grp f i a)))
  inj : ∀ a ∈ hds f i, ∀ b ∈ hds f i, la a = la b → a = b
noncomputable def spAlk (K : PySem.W.Frag) : Sp := fun vs H Q _ => ∃ (l : Addr) (n : Nat) (ps : List (Int × Int)), vs = [.int n, .ref l] ∧ Prs K H l ps ∧ In n ps ∧ n ≤ 12 ∧
  ∀ r (la : Nat → Addr) H', Same H H' → H r = none → H' r = some (.lst ((hds (key2 (better ps) n) n).map fun a => V.ref (la a))) → (∀ a ∈ hds (key2 (better ps) n) n, H (la a) = none ∧ H' (la a) = some (.lst (Iv (grp (key2 (better ps) n) n a))) ∧ la a ≠ r) →
    (∀ a ∈ hds (key2 (better ps) n) n, ∀ b ∈ hds (key2 (better ps) n) n, la a = la b → a = b) → Q (.ref r) H'
noncomputable abbrev sAlk : Stmt := (top 6)
noncomputable abbrev nAlk : List Str := ["many", "pairs", "table", "groups", "thing", "column"]
noncomputable abbrev pAlk : List Str := ["many", "pairs"]
theorem scAlk : FnScope nAlk pAlk (defScope sAlk) := ⟨rfl, rfl, rfl, by decide +kernel, rfl, by decide +kernel, by decide +kernel⟩
theorem coAlk1 : CompOk (mkSc [(".0", .local), ("row", .local), ("thing", .free)]) ["row"] (defScope sAlk) nAlk := ⟨rfl, by decide +kernel, by decide +kernel, by decide +kernel, by decide +kernel, by decide +kernel⟩
theorem cnAlk1 : (blkN nAlk ["row"]).Nodup := by decide +kernel
theorem ok_alk (T : Tx K mg) : FnOk P w K mg base CX0 3 T.a_alike T.f_alike pAlk (spAlk K) := by
  have GTable : FnOk P w K mg base CX0 2 T.a_table_of T.f_table_of pTable (spTable K) := ok_table T.d_table_of T.d_refuse_strangers T.B
  have bTable : Binds K T.f_table_of pTable [] := bd2 T.d_table_of.F fun _ _ _ _ _ _ _ _ => rfl
  refine T.d_alike.F.ok scAlk (fun vs H Q E h => ?_) (fun cdv A outer s H vs Q E hr h => ?_)
  · obtain ⟨_, _, _, rfl, _⟩ := h
    rfl
  · obtain ⟨l, n, ps, rfl, hP, hin, hn, q⟩ := h
    have hz := sizeLine_eq
    have hu3 := Nat.lt_of_le_of_lt (Nat.add_le_add_left (by decide : 3 ≤ 64) _) hr.units
    refine ⟨_, (pss_cons (ps_set (i := 2) scAlk.nd rfl (Or.inl rfl) (pe_call GTable hr rfl T.d_table_of.m T.d_table_of.F.kp bTable .nil pass0 (pa_cons (pv 0) (pa_cons (pv 1) pa_nil))))
      (pss_cons (ps_set (i := 3) scAlk.nd rfl (Or.inl rfl) pe_dnewG)
      (pss_cons (ps_for PassesOwn.never rfl (pi_range1 rfl T.B.range (pa_cons (pv 0) pa_nil)) (pg_name (i := 4) scAlk.nd rfl (Or.inr rfl)) (pss_cons (ps_comp (i := 5) scAlk.nd rfl rfl rfl coAlk1 (piL (K := K) rfl (pv 2)) (fun _ _ _ _ _ => pg_name (i := 6) cnAlk1 rfl (Or.inl rfl) (Or.inr rfl)) (fun _ _ _ _ _ => pif_nil) (fun _ _ _ _ _ => pe_ix (ixL (K := K) rfl) (pv 6) (pv 4) (fun _ _ => rfl)) (by rfl))
      (pss_one (ps_expr (peM (K := K) rfl PySem.F.plainAttrs_list PySem.F.slot_list_append PySem.F.type_list_append mt_append (pe_bg PySem.F.slot_dict_setdefault PySem.F.type_dict_setdefault (mt_setdef hu3) (pv 3) (pa_cons (pe_tup (pa_cons (pe_callTy call_tuple_of (by rfl) T.B.tuple (by decide +kernel) (pa_cons (pe_ix (ixL (K := K) rfl) (pv 2) (pv 4) (fun _ _ => rfl)) pa_nil)) (pa_cons (pe_callTy call_tuple_of (by rfl) T.B.tuple (by decide +kernel) (pa_cons (pv 5) pa_nil)) pa_nil))) (pa_cons (pe_lst pa_nil) pa_nil))) (pa_cons (pv 4) pa_nil))))))
      (pss_one (ps_ret (pe_callTy (call_listG rfl) (by rfl) T.B.list (by decide +kernel) (pa_cons (pe_bg0 PySem.F.slot_dict_values PySem.F.type_dict_values mt_vals (pv 3)) pa_nil))))))), ?_⟩
    refine ⟨_, rfl, _, rfl, l, n, ps, rfl, hP, hin, by omega, fun p rows H1 s1 Tb => ?_⟩
    intro d hd
    generalize hf : key2 (better ps) n = f at q
    refine ⟨_, rfl, n, rfl, by omega, by omega, ?_⟩
    rw [Int.toNat_natCast]
    refine for_range0 (fun i σ H2 => ∃ v4 v5 ka la, σ = [some (.int n), some (.ref l), some (.ref p), some (.ref d), v4, v5] ∧ Same H1 H2 ∧ Grps P w H1 H2 d f i ka la) ⟨none, none, fun _ => 0, fun _ => 0, rfl, Same.new hd, ⟨upd_same, (fun a h => nomatch h), (fun a h => nomatch h), (fun a h => nomatch h), (fun a h => nomatch h)⟩⟩ ?_ ?_
    · rintro i σ H2 hi ⟨v4, v5, ka, la, rfl, s2, G⟩
      have Tb2 := Tb.same s2
      refine ⟨_, rfl, p, rfl, ⟨_, SqL.of Tb2.top⟩, comp_list (k := 1) (K := K) (a := p) (xs := rows.map V.ref) (fun j ys H3 => H3 = H2 ∧ ys = (List.range j).map fun b => V.bl (better ps b i)) ⟨rfl, rfl⟩ (by rw [List.length_map, Tb2.len]; omega) (fun j ys H3 ⟨e1, e2⟩ => ⟨by rw [e2]; simp, by rw [e1]; exact SqL.of Tb2.top⟩) ?_ ?_⟩
      · rintro j y ys H3 hy ⟨rfl, rfl⟩
        obtain ⟨r, hr', rfl⟩ := refs_at hy
        have hat := row_at (n := n) (f := better ps j) (b := (i : Int)) (by omega) (by omega)
        rw [Int.toNat_natCast] at hat
        refine ⟨rfl, _, rfl, _, rfl, r, _, _, _, rfl, rfl, SqL.of (Tb2.row j r hr'), hat, rfl, ?_⟩
        rw [map_snoc]
      · rintro ys H3 cl ⟨rfl, rfl⟩ hcl
        rw [List.length_map, Tb2.len]
        have s3 := Same.new (o := .lst ((List.range n).map fun b => V.bl (better ps b i))) hcl
        have hcl3 : (upd H3 cl (.lst ((List.range n).map fun b => V.bl (better ps b i)))) cl = some (.lst ((List.range n).map fun b => V.bl (better ps b i))) := upd_same
        revert s3 hcl3
        generalize upd H3 cl (.lst ((List.range n).map fun b => V.bl (better ps b i))) = H4
        intro s3 hcl3
        have s14 := s2.trans s3
        have Tb4 := Tb.same s14
        obtain ⟨r, hr1, hr2, hr3⟩ := Tb4.at (a := (i : Int)) (by omega) (by omega)
        rw [Int.toNat_natCast] at hr3
        refine ⟨_, rfl, ⟨d, _, rfl, s3 _ _ G.dic⟩, _, rfl, _, rfl, p, _, _, _, rfl, rfl, SqL.of Tb4.top, hr2, r, _, rfl, .inl ⟨SqL.of hr3, fun t1 ht1 => ?_⟩⟩
        have s5 := Same.new (o := .tup ((List.range n).map fun j => V.bl (better ps i j))) ht1
        refine ⟨_, rfl, cl, _, rfl, .inl ⟨SqL.of (s5 _ _ hcl3), fun t2 ht2 => ⟨(by show 2 ≤ sizeLine; decide), fun k0 hk0 => ⟨Nat.zero_le _, fun nl hnl => ?_⟩⟩⟩⟩
        have s6 := Same.new (o := .tup ((List.range n).map fun b => V.bl (better ps b i))) ht2
        have s7 := Same.new (o := .tup [.ref t1, .ref t2]) hk0
        have s8 := Same.new (o := .lst []) hnl
        have s48 := s5.trans (s6.trans (s7.trans s8))
        have hK : K2At _ (f i) k0 := ⟨t1, t2, s8 _ _ upd_same, by rw [← hf]; unfold key2; rw [List.map_map]; exact (s6.trans (s7.trans s8)) _ _ upd_same, by rw [← hf]; unfold key2; rw [List.map_map]; exact (s7.trans s8) _ _ upd_same⟩
        have hnl8 : (upd (upd (upd (upd H4 t1 (.tup ((List.range n).map fun j => V.bl (better ps i j)))) t2 (.tup ((List.range n).map fun b => V.bl (better ps b i)))) k0 (.tup [.ref t1, .ref t2])) nl (.lst [])) nl = some (.lst []) := upd_same
        have hnl0 : H4 nl = none := (s5.trans (s6.trans s7)).free hnl
        revert s48 hK hnl8
        clear s8
        generalize upd (upd (upd (upd H4 t1 (.tup ((List.range n).map fun j => V.bl (better ps i j)))) t2 (.tup ((List.range n).map fun b => V.bl (better ps b i)))) k0 (.tup [.ref t1, .ref t2])) nl (.lst []) = H8
        intro s48 hK hnl8
        have s38 := s3.trans s48
        have s18 := s2.trans s38
        have hG8 := s38 _ _ G.dic
        have hlen := hds_len f i
        refine ⟨d, _, f i, k0, nl, rfl, rfl, hG8, hK, (fun y hy => ?_), by rw [List.length_map]; omega, (fun y hy e => ?_), (fun hno => ?_)⟩
        · obtain ⟨a, ha, rfl⟩ := List.mem_map.mp hy
          exact (G.key a ha).same s38
        · obtain ⟨a, ha, rfl⟩ := List.mem_map.mp hy
          have e' : f a = f i := e
          have hai := (hds_mem.mp ha).1
          have hl8 := s38 _ _ (G.lst a ha)
          refine ⟨.inl ⟨rfl, _, SqL.of hl8⟩, _, rfl, la a, _, _, rfl, rfl, hl8, by rw [iv_len]; have := grp_len f i a; omega, ?_⟩
          have eh := hds_old hai e'
          refine ⟨_, _, ka, la, rfl, s18.put (G.new a ha), ⟨?_, ?_, ?_, ?_, ?_⟩⟩ <;> rw [eh]
          · rw [upd_ne (ne_of hG8 hl8 (by intro z; unfold GrpO at z; cases z))]
            exact hG8
          · exact fun b hb => ((G.key b hb).same s38).put hl8
          · exact G.new
          · intro b hb
            by_cases eb : b = a
            · subst eb
              rw [upd_same, grp_succ, if_pos e'.symm, iv_app]
              rfl
            · rw [upd_ne fun z => eb (G.inj b hb a ha z), grp_succ, if_neg fun z => eb (hds_inj hb ha (z.symm.trans e'.symm)), List.append_nil]
              exact s38 _ _ (G.lst b hb)
          · exact G.inj
        · have hno' : ∀ a, a < i → f a ≠ f i := fun a ha z => by
            obtain ⟨b, hb, eb⟩ := hd_of f ha
            exact hno (f b, ka b, la b) (List.mem_map.mpr ⟨b, hb, rfl⟩) (eb.trans z)
          have hnd : nl ≠ d := ne_of hnl8 hG8 (by intro z; unfold GrpO at z; cases z)
          have hnl9 : (upd H8 d (GrpO P w d ((hds f i).map (fun a => (f a, ka a, la a)) ++ [(f i, k0, nl)]))) nl = some (.lst []) := by rw [upd_ne hnd]; exact hnl8
          refine ⟨.inl ⟨rfl, _, SqL.of hnl9⟩, _, rfl, nl, _, _, rfl, rfl, hnl9, by show 0 < sizeLine; omega, ?_⟩
          have eh := hds_new hno'
          have hH1n : H1 nl = none := s14.free hnl0
          have hlt : ∀ b ∈ hds f i, b ≠ i := fun b hb z => by
            have := (hds_mem.mp hb).1
            omega
          refine ⟨_, _, fun a => if a = i then k0 else ka a, fun a => if a = i then nl else la a, rfl, (s18.put hd).put hH1n, ⟨?_, ?_, ?_, ?_, ?_⟩⟩ <;> rw [eh]
          · have er : (hds f i).map (fun a => (f a, ka a, la a)) ++ [(f i, k0, nl)] = (hds f i ++ [i]).map (fun a => (f a, (if a = i then k0 else ka a), (if a = i then nl else la a))) := by
              rw [List.map_append, List.map_cons, List.map_nil, if_pos rfl, if_pos rfl]
              congr 1
              exact List.map_congr_left fun b hb => by rw [if_neg (hlt b hb), if_neg (hlt b hb)]
            rw [upd_ne hnd.symm, upd_same, er]
            rfl
          · intro b hb
            rcases List.mem_append.mp hb with hb | hb
            · rw [if_neg (hlt b hb)]
              exact (((G.key b hb).same s38).putG hG8).put hnl9
            · rw [List.mem_singleton.mp hb, if_pos rfl]
              exact (hK.putG hG8).put hnl9
          · intro b hb
            rcases List.mem_append.mp hb with hb | hb
            · rw [if_neg (hlt b hb)]
              exact G.new b hb
            · rw [List.mem_singleton.mp hb, if_pos rfl]
              exact hH1n
          · intro b hb
            rcases List.mem_append.mp hb with hb | hb
            · have hlb := G.lst b hb
              rw [if_neg (hlt b hb), upd_ne (ne_of_none (s3 _ _ hlb) hnl0), upd_ne (ne_of (s38 _ _ hlb) hG8 (by intro z; unfold GrpO at z; cases z)), grp_succ, if_neg fun z => hno' b (by have := (hds_mem.mp hb).1; omega) z.symm, List.append_nil]
              exact s38 _ _ hlb
            · rw [List.mem_singleton.mp hb, if_pos rfl, upd_same, grp_new hno']
              rfl
          · intro b hb c hc e
            rcases List.mem_append.mp hb with hb | hb
            · rcases List.mem_append.mp hc with hc | hc
              · rw [if_neg (hlt b hb), if_neg (hlt c hc)] at e
                exact G.inj b hb c hc e
              · rw [List.mem_singleton.mp hc, if_neg (hlt b hb), if_pos rfl] at e
                exact absurd e (ne_of_none (s3 _ _ (G.lst b hb)) hnl0)
            · rcases List.mem_append.mp hc with hc | hc
              · rw [List.mem_singleton.mp hb, if_pos rfl, if_neg (hlt c hc)] at e
                exact absurd e.symm (ne_of_none (s3 _ _ (G.lst c hc)) hnl0)
              · rw [List.mem_singleton.mp hb, List.mem_singleton.mp hc]
    · rintro σ H2 ⟨v4, v5, ka, la, rfl, s2, G⟩
      have hlen := hds_len f n
      refine ⟨_, rfl, ⟨d, _, rfl, G.dic⟩, d, _, rfl, rfl, G.dic, fun vw hvw => ?_⟩
      have s3 := Same.new (o := VwO vw d) hvw
      refine ⟨vw, d, _, rfl, upd_same, s3 _ _ G.dic, by rw [List.length_map]; omega, fun r hr0 => ?_⟩
      have s4 := Same.new (o := .lst (((hds f n).map fun a => (f a, ka a, la a)).map fun x : Row2 => V.ref x.2.2)) hr0
      have s24 := s3.trans s4
      have s14 := s1.trans (s2.trans s3)
      refine q r la _ (s14.trans s4) (s14.free hr0) (by rw [upd_same, List.map_map]; rfl) (fun a ha => ⟨s1.free (G.new a ha), s24 _ _ (G.lst a ha), ne_of_none (s3 _ _ (G.lst a ha)) hr0⟩) G.inj
end
section
variable {P : Program} {w : World} {K : PySem.W.Frag} {mg : Str → Option Value} {base : Heap}
noncomputable def spLAlk (K : PySem.W.Frag) : Sp := fun vs H Q _ => ∃ (pl : Addr) (a b n : Nat) (ps : List (Int × Int)), vs = [.int a, .int b, .int n, .ref pl] ∧ Prs K H pl ps ∧ n ≤ 1000 ∧ ∀ H', Same H H' → Q (.bl (decide (key2 (better ps) n b = key2 (better ps) n a))) H'
noncomputable abbrev sLAlk : Stmt := (top 17)
noncomputable abbrev nLAlk : List Str := ["a", "b", "many", "pairs", "thing"]
noncomputable abbrev pLAlk : List Str := ["a", "b", "many", "pairs"]
theorem scLAlk : FnScope nLAlk pLAlk (defScope sLAlk) := ⟨rfl, rfl, rfl, by decide +kernel, rfl, by decide +kernel, by decide +kernel⟩
theorem ok_lalk (T : Tx K mg) : FnOk P w K mg base CX0 1 T.a__law_alike T.f__law_alike pLAlk (spLAlk K) := by
  refine T.d__law_alike.F.ok scLAlk (fun vs H Q E h => ?_) (fun cdv A outer s H vs Q E hr h => ?_)
  · obtain ⟨_, _, _, _, _, rfl, _⟩ := h
    rfl
  · obtain ⟨pl, a, b, n, ps, rfl, hP, hn, q⟩ := h
    have hz := sizeLine_eq
    have hu := hu_of hr
    refine ⟨_, (pss_cons (ps_for PassesOwn.never rfl (pi_range1 rfl T.B.range (pa_cons (pv 2) pa_nil)) (pg_name (i := 4) scLAlk.nd rfl (Or.inl rfl))
        (pss_one (ps_if (PW.pt (pw_or (pt_cmpR op_ne (pe_cmpR (inTK (K := K) rfl hu) (pe_tup (pa_cons (pv 0) (pa_cons (pv 4) pa_nil))) (pv 3) (by with_unfolding_all rfl)) (pe_cmpR (inTK (K := K) rfl hu) (pe_tup (pa_cons (pv 1) (pa_cons (pv 4) pa_nil))) (pv 3) (by with_unfolding_all rfl)) (nomark _))
          (pw_or1 (pt_cmpR op_ne (pe_cmpR (inTK (K := K) rfl hu) (pe_tup (pa_cons (pv 4) (pa_cons (pv 0) pa_nil))) (pv 3) (by with_unfolding_all rfl)) (pe_cmpR (inTK (K := K) rfl hu) (pe_tup (pa_cons (pv 4) (pa_cons (pv 1) pa_nil))) (pv 3) (by with_unfolding_all rfl)) (nomark _))))) (pss_one (ps_ret pe_bl)) pss_nil)))
      (pss_one (ps_ret pe_bl))), ?_⟩
    refine ⟨_, rfl, n, rfl, by omega, by omega, ?_⟩
    rw [Int.toNat_natCast]
    refine for_range0 (fun i σ H2 => ∃ v, σ = [some (.int a), some (.int b), some (.int n), some (.ref pl), v] ∧ Same H H2 ∧ ∀ t, t < i → better ps b t = better ps a t ∧ better ps t b = better ps t a) ⟨none, rfl, Same.refl _, fun t ht => by omega⟩ ?_ ?_
    · rintro i σ H2 hi ⟨v, rfl, s2, hg⟩
      have no : ¬ (better ps b i = better ps a i ∧ better ps i b = better ps i a) → decide (key2 (better ps) n b = key2 (better ps) n a) = false := fun h => decide_eq_false fun z => h (key2_iff.mp z i hi)
      refine ⟨_, rfl, _, rfl, (by show 2 ≤ sizeLine; decide), fun t1 ht1 => ⟨_, rfl, inP (hP.same s2) ht1 ?_⟩⟩
      have s3 := s2.trans (Same.new (o := .tup [.int (a : Int), .int (i : Int)]) ht1)
      refine ⟨_, rfl, _, rfl, (by show 2 ≤ sizeLine; decide), fun t2 ht2 => ⟨_, rfl, inP (hP.same s3) ht2 ?_⟩⟩
      have s4 := s3.trans (Same.new (o := .tup [.int (b : Int), .int (i : Int)]) ht2)
      rw [better_mem, better_mem]
      refine ⟨rfl, _, rfl, ?_⟩
      by_cases e1 : better ps a i = better ps b i
      · refine iteNS (by rw [e1]) ?_
        refine ⟨_, rfl, _, rfl, (by show 2 ≤ sizeLine; decide), fun t3 ht3 => ⟨_, rfl, inP (hP.same s4) ht3 ?_⟩⟩
        have s5 := s4.trans (Same.new (o := .tup [.int (i : Int), .int (a : Int)]) ht3)
        refine ⟨_, rfl, _, rfl, (by show 2 ≤ sizeLine; decide), fun t4 ht4 => ⟨_, rfl, inP (hP.same s5) ht4 ?_⟩⟩
        have s6 := s5.trans (Same.new (o := .tup [.int (i : Int), .int (b : Int)]) ht4)
        rw [better_mem, better_mem]
        refine ⟨rfl, _, rfl, ?_⟩
        by_cases e2 : better ps i a = better ps i b
        · refine iteNS (by rw [e2]) ⟨_, rfl, s6, fun t ht => ?_⟩
          rcases Nat.lt_or_ge t i with g | g
          · exact hg t g
          · rw [show t = i by omega]; exact ⟨e1.symm, e2.symm⟩
        · refine iteNN (fun z => e2 (by injection z)) ?_
          have := q _ s6
          rw [no fun z => e2 z.2.symm] at this
          exact this
      · refine iteNN (fun z => e1 (by injection z)) ?_
        have := q _ s4
        rw [no fun z => e1 z.1.symm] at this
        exact this
    · rintro σ H2 ⟨v, rfl, s2, hg⟩
      have := q _ s2
      rw [decide_eq_true (key2_iff.mpr hg)] at this
      exact this
end
theorem EqT.iv {K : PySem.W.Frag} {H : Hp} : ∀ c : List Nat, Paired (EqT K H 0) (Iv c) (Iv c)
  | [] => .nil
  | x :: c => .cons (EqT.flat rfl (by show ((x : Int) == (x : Int)) = true; exact beq_self_eq_true _)) (EqT.iv c)
section
variable {P : Program} {w : World} {K : PySem.W.Frag} {mg : Str → Option Value} {base : Heap}
noncomputable abbrev sLaw : Stmt := (top 18)
noncomputable abbrev nLaw : List Str := ["script", "drawn", "many", "pairs", "due", "a", "some", "turn", "handed", "found", "k"]
noncomputable abbrev pLaw : List Str := ["script"]
theorem scLaw : FnScope nLaw pLaw (defScope sLaw) := ⟨rfl, rfl, rfl, by decide +kernel, rfl, by decide +kernel, by decide +kernel⟩
theorem coLaw1 : CompOk (mkSc [(".0", .local), ("b", .local), ("_law_alike", .globalImplicit), ("a", .free), ("many", .free), ("pairs", .free)]) ["b"] (defScope sLaw) nLaw := ⟨rfl, by decide +kernel, by decide +kernel, by decide +kernel, by decide +kernel, by decide +kernel⟩
theorem cnLaw1 : (blkN nLaw ["b"]).Nodup := by decide +kernel
/-- the groups that are due -/
structure Due (H0 H : Hp) (f : Nat → Key2) (n i : Nat) (du : Addr) (da : Nat → Addr) : Prop where
  top : H du = some (.lst ((hds f i).map fun a => V.ref (da a)))
  ful : ∀ a ∈ hds f i, H (da a) = some (.lst (Iv (grp f n a))) ∧ da a ≠ du
theorem ok_law (T : Tx K mg) : FnOk P w K mg base CX0 4 T.a_law T.f_law pLaw (spLaw K) := by
  have GSay : FnOk P w K mg base CX0 3 T.a__law_sayings T.f__law_sayings pSay (spSay K) := ok_say T
  have bSay : Binds K T.f__law_sayings pSay [] := bd3 T.d__law_sayings.F fun _ _ _ _ _ _ _ _ _ => rfl
  have GAlk : FnOk P w K mg base CX0 3 T.a_alike T.f_alike pAlk (spAlk K) := ok_alk T
  have bAlk : Binds K T.f_alike pAlk [] := bd2 T.d_alike.F fun _ _ _ _ _ _ _ _ => rfl
  have GLAlk : FnOk P w K mg base CX0 1 T.a__law_alike T.f__law_alike pLAlk (spLAlk K) := ok_lalk T
  have bLAlk : Binds K T.f__law_alike pLAlk [] := bd4 T.d__law_alike.F fun _ _ _ _ _ _ _ _ _ _ => rfl
  have GNumbers : FnOk P w K mg base CX0 2 T.a__law_numbers T.f__law_numbers pNumbers (spNumbers K) := ok_numbers T.d__law_numbers T.d__law_whole T.B
  have bNumbers : Binds K T.f__law_numbers pNumbers [] := bd4 T.d__law_numbers.F fun _ _ _ _ _ _ _ _ _ _ => rfl
  refine T.d_law.F.ok scLaw (fun vs H Q E h => ?_) (fun cdv A outer s H vs Q E hr h => ?_)
  · obtain ⟨_, _, rfl, _⟩ := h
    rfl
  · obtain ⟨a, ns, rfl, hS, hlen, q⟩ := h
    have hz := sizeLine_eq
    have hu := hu_of hr
    have hu1 := Nat.lt_of_le_of_lt (Nat.add_le_add_left (by decide : 0 + 1 ≤ 64) _) hr.units
    have hr1 : Room 1 _ := hr.mono (by decide)
    have hr2 : Room 2 _ := hr.mono (by decide)
    refine ⟨_, (pss_cons (ps_set (i := 1) scLaw.nd rfl (Or.inl rfl) (pe_call GSay hr rfl T.d__law_sayings.m T.d__law_sayings.F.kp bSay .nil pass0 (pa_cons (pv 0) (pa_cons pe_int (pa_cons pe_int pa_nil)))))
      (pss_cons (ps_set (i := 2) scLaw.nd rfl (Or.inr rfl) (pe_ix (ixT (K := K) rfl) (pv 1) pe_int (fun _ _ => rfl)))
      (pss_cons (ps_set (i := 3) scLaw.nd rfl (Or.inr rfl) (pe_ix (ixT (K := K) rfl) (pv 1) pe_int (fun _ _ => rfl)))
      (pss_cons (ps_set (i := 4) scLaw.nd rfl (Or.inl rfl) (pe_lst pa_nil))
      (pss_cons (ps_for PassesOwn.never rfl (pi_range1 rfl T.B.range (pa_cons (pv 2) pa_nil)) (pg_name (i := 5) scLaw.nd rfl (Or.inr rfl)) (pss_cons (ps_comp (i := 6) scLaw.nd rfl rfl rfl coLaw1 (pi_range1 rfl T.B.range (pa_cons (pv 2) pa_nil)) (fun _ _ _ _ _ => pg_name (i := 11) cnLaw1 rfl (Or.inl rfl) (Or.inr rfl)) (fun _ _ _ _ _ => pif_one (pt_val (pe_call GLAlk hr1 rfl T.d__law_alike.m T.d__law_alike.F.kp bLAlk .nil pass0 (pa_cons (pv 5) (pa_cons (pv 11) (pa_cons (pv 2) (pa_cons (pv 3) pa_nil)))))))  (fun _ _ _ _ _ => pv 11) (by rfl))
      (pss_one (ps_if (pt_cmpR op_eq (pe_ix (ixL (K := K) rfl) (pv 6) pe_int (fun _ _ => rfl)) (pv 5) (nomark _)) (pss_one (ps_expr (peM (K := K) rfl PySem.F.plainAttrs_list PySem.F.slot_list_append PySem.F.type_list_append mt_append (pv 4) (pa_cons (pv 6) pa_nil)))) pss_nil))))
      (pss_cons (ps_for PassesOwn.never rfl (pi_range1 rfl T.B.range (pa_cons pe_int pa_nil)) (pg_name (i := 7) scLaw.nd rfl (Or.inl rfl)) (pss_cons (ps_set (i := 8) scLaw.nd rfl (Or.inl rfl) (pe_callTy (listS (K := K) rfl) (by rfl) T.B.list (by decide +kernel) (pa_cons (pe_ix (ixT (K := K) rfl) (pv 1) pe_int (fun _ _ => rfl)) pa_nil)))
      (pss_cons (ps_set (i := 9) scLaw.nd rfl (Or.inl rfl) (pe_call GAlk hr rfl T.d_alike.m T.d_alike.F.kp bAlk .nil pass0 (pa_cons (pv 2) (pa_cons (pv 8) pa_nil))))
      (pss_cons (ps_if (PW.pt (pw_or (pt_cmpR (op_neSame hu) (pv 8) (pe_ix (ixT (K := K) rfl) (pv 1) pe_int (fun _ _ => rfl)) (nomark _)) (pw_or (pt_not (pt_val (pe_callB (isinS (K := K) rfl) (by rfl) T.B.isinstance boot_isinstance (pa_cons (pv 9) (pa_cons (pe_bltn (v := .ty "list") (by rfl) T.B.list PyProof.Rows.boot_list rfl) pa_nil)))))
          (pw_or1 (pt_cmpR op_ne (pe_callB (lenS (K := K) rfl) (by rfl) T.B.len PySem.boot_len (pa_cons (pv 9) pa_nil)) (pe_callB (lenS (K := K) rfl) (by rfl) T.B.len PySem.boot_len (pa_cons (pv 4) pa_nil)) (nomark _)))))) (pss_one (ps_ret pe_bl)) pss_nil)
      (pss_cons (ps_for PassesOwn.never rfl (pi_range1 rfl T.B.range (pa_cons (pe_callB (lenS (K := K) rfl) (by rfl) T.B.len PySem.boot_len (pa_cons (pv 4) pa_nil)) pa_nil)) (pg_name (i := 10) scLaw.nd rfl (Or.inl rfl)) (pss_cons (ps_if (PW.pt (pw_or (pt_not (pt_val (pe_call GNumbers hr2 rfl T.d__law_numbers.m T.d__law_numbers.F.kp bNumbers .nil pass0 (pa_cons (pe_ix (ixL (K := K) rfl) (pv 9) (pv 10) (fun _ _ => rfl)) (pa_cons (pe_callB (lenS (K := K) rfl) (by rfl) T.B.len PySem.boot_len (pa_cons (pe_ix (ixL (K := K) rfl) (pv 4) (pv 10) (fun _ _ => rfl)) pa_nil)) (pa_cons pe_int (pa_cons (pe_op op_sub (pv 2) pe_int) pa_nil)))))))
            (pw_or1 (pt_cmpR (op_neS (n := 0) hu1) (pe_ix (ixL (K := K) rfl) (pv 9) (pv 10) (fun _ _ => rfl)) (pe_ix (ixL (K := K) rfl) (pv 4) (pv 10) (fun _ _ => rfl)) (nomark _))))) (pss_one (ps_ret pe_bl)) pss_nil)
      (pss_one (ps_expr (peM (K := K) rfl PySem.F.plainAttrs_list PySem.F.slot_list_append PySem.F.type_list_append mt_append (pe_ix (ixL (K := K) rfl) (pv 9) (pv 10) (fun _ _ => rfl)) (pa_cons pe_int pa_nil))))))
      (pss_one (ps_expr (peM0 (K := K) rfl PySem.F.plainAttrs_list PySem.F.slot_list_clear PySem.F.type_list_clear mt_clear (pv 9)))))))))
      (pss_one (ps_ret pe_bl)))))))), ?_⟩
    refine ⟨_, rfl, a, ns, 0, 7, rfl, hS, by decide, by decide, by decide, fun d n sl tl sp tp H1 s1 hd hsl htl hD Dr _ => ?_⟩
    refine ⟨_, rfl, d, _, _, _, rfl, rfl, SqT.of hD, three0, ?_⟩
    refine ⟨_, rfl, d, _, _, _, rfl, rfl, SqT.of hD, three1, ?_⟩
    have hn := Dr.n12
    have hn1 := Dr.n1
    have hb := better_iff Dr.iff
    generalize hf : key2 (better tp) n = f
    refine ⟨Nat.zero_le _, fun du hdu => ?_⟩
    have s2 := Same.new (o := .lst []) hdu
    refine ⟨_, rfl, n, rfl, by omega, by omega, ?_⟩
    rw [Int.toNat_natCast]
    refine for_range0 (fun i σ H2 => ∃ v5 v6 da, σ = [some (.ref a), some (.ref d), some (.int n), some (.ref sl), some (.ref du), v5, v6, none, none, none, none] ∧ Same H1 H2 ∧ Due H1 H2 f n i du da) ⟨none, none, fun _ => 0, rfl, s2, ⟨upd_same, (fun a h => nomatch h)⟩⟩ ?_ ?_
    · rintro i σ H2 hi ⟨v5, v6, da, rfl, s12, D⟩
      refine ⟨_, rfl, n, rfl, by omega, by omega, ?_⟩
      rw [Int.toNat_natCast]
      refine comp_range0 (k := 1) (fun j ys H3 => Same H2 H3 ∧ ys = Iv (grp f j i)) ⟨Same.refl _, rfl⟩ (by omega) (fun j ys H3 ⟨_, e⟩ => by rw [e, iv_len]; exact grp_len f j i) ?_ ?_
      · rintro j ys H3 hj ⟨s3, rfl⟩
        refine ⟨rfl, _, rfl, _, rfl, _, rfl, _, rfl, sl, i, j, n, sp, rfl, ((Dr.same (s12.trans s3)).s).prs, by omega, fun H4 s4 => ⟨_, rfl, ?_⟩⟩
        rw [hb, hf]
        refine ite2 (fun h => ?_) (fun h => ?_)
        · refine ⟨_, rfl, s3.trans s4, ?_⟩
          rw [grp_succ, if_pos (of_decide_eq_true h), iv_app]
          rfl
        · refine ⟨s3.trans s4, ?_⟩
          rw [grp_succ, if_neg fun z => h (decide_eq_true z), List.append_nil]
      · rintro ys H3 so ⟨s3, rfl⟩ hso
        have s4 := s3.trans (Same.new (o := .lst (Iv (grp f n i))) hso)
        have hso4 : (upd H3 so (.lst (Iv (grp f n i)))) so = some (.lst (Iv (grp f n i))) := upd_same
        have hso2 : H2 so = none := s3.free hso
        revert s4 hso4
        generalize upd H3 so (.lst (Iv (grp f n i))) = H4
        intro s4 hso4
        obtain ⟨b, hb0, hbi⟩ := grp_head (f := f) hi
        have hat : atI (Iv (grp f n i)) 0 = some (.int (b : Int)) := atI_nat (j := 0) (by unfold Iv; rw [List.getElem?_map, hb0]; rfl)
        refine ⟨_, rfl, so, _, _, _, rfl, rfl, SqL.of hso4, hat, _, rfl, rfl, _, rfl, ?_⟩
        have hdu2 := D.top
        have hdu4 := s4 _ _ hdu2
        refine ite2 (fun h => ?_) (fun h => ?_)
        · have e : b = i := by
            have z : V.int (b : Int) = V.int (i : Int) := of_decide_eq_true h
            injection z with z
            omega
          have eh : hds f (i + 1) = hds f i ++ [i] := hds_new (hds_mem.mp (hbi.mp e)).2
          have hlen := hds_len f i
          refine ⟨_, rfl, .inl ⟨rfl, _, SqL.of hdu4⟩, _, rfl, du, _, _, rfl, rfl, hdu4, by rw [List.length_map]; omega, ?_⟩
          have hlt : ∀ c ∈ hds f i, c ≠ i := fun c hc z => by
            have := (hds_mem.mp hc).1
            omega
          have hsd : so ≠ du := fun z => by rw [z, hdu2] at hso2; cases hso2
          refine ⟨_, _, fun c => if c = i then so else da c, rfl, (s12.trans s4).put hdu, ⟨?_, ?_⟩⟩ <;> rw [eh]
          · rw [upd_same, List.map_append, List.map_cons, List.map_nil, if_pos rfl]
            congr 3
            exact List.map_congr_left fun c hc => by rw [if_neg (hlt c hc)]
          · intro c hc
            rcases List.mem_append.mp hc with hc | hc
            · obtain ⟨h1, h2⟩ := D.ful c hc
              rw [if_neg (hlt c hc), upd_ne h2]
              exact ⟨s4 _ _ h1, h2⟩
            · rw [List.mem_singleton.mp hc, if_pos rfl, upd_ne hsd]
              exact ⟨hso4, hsd⟩
        · have e : b ≠ i := fun z => h (decide_eq_true (by rw [z]))
          have eh : hds f (i + 1) = hds f i := by
            obtain ⟨c, hc, ec⟩ : ∃ c, c < i ∧ f c = f i := by
              refine Classical.byContradiction fun z => e (hbi.mpr (hds_mem.mpr ⟨hi, fun c hc ec => z ⟨c, hc, ec⟩⟩))
            exact hds_old hc ec
          refine ⟨_, _, da, rfl, s12.trans s4, ⟨?_, ?_⟩⟩ <;> rw [eh]
          · exact hdu4
          · exact fun c hc => ⟨s4 _ _ (D.ful c hc).1, (D.ful c hc).2⟩
    · rintro σ H2 ⟨v5, v6, da, rfl, s12, D⟩
      have hlen := hds_len f n
      have hnd : (hds f n).Nodup := List.Pairwise.filter _ List.nodup_range
      refine ⟨2, rfl, by decide, by decide, for_range (n := 2) (fun i σ H3 => ∃ v7 v8 v9 v10, σ = [some (.ref a), some (.ref d), some (.int n), some (.ref sl), some (.ref du), v5, v6, v7, v8, v9, v10] ∧ Same H2 H3) ⟨none, none, none, none, rfl, Same.refl _⟩ ?_ ?_⟩
      · rintro i σ H3 hi ⟨v7, v8, v9, v10, rfl, s23⟩
        have s13 := s12.trans s23
        have hD3 := s13 _ _ hD
        have Dr3 := Dr.same s13
        obtain ⟨rt, hrt, hPt⟩ := Dr3.t
        refine ⟨_, rfl, d, _, _, _, rfl, rfl, SqT.of hD3, three2, tl, _, rfl, .inl (SqL.of hrt), fun hl hhl => ?_⟩
        have s4 := Same.new (o := .lst (rt.map V.ref)) hhl
        refine ⟨_, rfl, _, rfl, hl, n, tp, rfl, ⟨rt, SqL.of upd_same, prs_same hPt s4⟩, Dr.inn, by omega, ?_⟩
        rw [hf]
        intro r la H5 s5 hr0 hr5 hla hinj
        have s35 := s4.trans s5
        have s25 := s23.trans s35
        have hdu5 := s25 _ _ D.top
        refine ⟨_, rfl, _, rfl, d, _, _, _, rfl, rfl, SqT.of (s35 _ _ hD3), three2, hl, tl, rt, rfl, rfl, SqL.of (s5 _ _ upd_same), SqL.of (s35 _ _ hrt), _, rfl, iteF ?_⟩
        refine ⟨_, rfl, _, _, _, _, rfl, .lst hr5, kit3 K, _, rfl, iteF ?_⟩
        refine ⟨_, rfl, r, _, rfl, .inl (SqL.of hr5), _, rfl, du, _, rfl, .inl (SqL.of hdu5), rfl, _, rfl, ?_⟩
        refine iteNS (by rw [List.length_map, List.length_map]) ?_
        refine ⟨_, rfl, du, _, rfl, .inl (SqL.of hdu5), _, rfl, by rw [List.length_map]; omega, by rw [List.length_map]; omega, ?_⟩
        rw [Int.toNat_natCast, List.length_map]
        refine for_range0 (fun k σ H6 => ∃ v10, σ = [some (.ref a), some (.ref d), some (.int n), some (.ref sl), some (.ref du), v5, v6, some (.int (0 + (i : Int))), some (.ref hl), some (.ref r), v10] ∧ Same H2 H6 ∧ H6 r = some (.lst ((hds f n).map fun a => V.ref (la a))) ∧ ∀ j c, k ≤ j → (hds f n)[j]? = some c → H6 (la c) = some (.lst (Iv (grp f n c)))) ⟨_, rfl, s25, hr5, fun j c _ hc => (hla c (List.mem_of_getElem? hc)).2.1⟩ ?_ ?_
        · rintro k σ H6 hk ⟨v10, rfl, s26, hr6, hl6⟩
          have hkc : (hds f n)[k]? = some (hds f n)[k] := List.getElem?_eq_getElem hk
          generalize (hds f n)[k] = c at hkc
          have hcm := List.mem_of_getElem? hkc
          have hlc := hl6 k c (Nat.le_refl _) hkc
          have hdu6 := s26 _ _ D.top
          have hda6 := s26 _ _ (D.ful c hcm).1
          have at1 : atI ((hds f n).map fun a => V.ref (la a)) (k : Int) = some (.ref (la c)) := atI_nat (by rw [List.getElem?_map, hkc]; rfl)
          have at2 : atI ((hds f n).map fun a => V.ref (da a)) (k : Int) = some (.ref (da c)) := atI_nat (by rw [List.getElem?_map, hkc]; rfl)
          have hgl := grp_len f n c
          refine ⟨_, rfl, _, rfl, r, _, _, _, rfl, rfl, SqL.of hr6, at1, _, rfl, _, rfl, du, _, _, _, rfl, rfl, SqL.of hdu6, at2, da c, _, rfl, .inl (SqL.of hda6), _, rfl, _, _, rfl, rfl, la c, grp f n c, _, _, _, rfl, hlc, by rw [iv_len], (fun x hx => ?_), _, rfl, iteF ?_⟩
          · have := (grp_mem.mp hx).1
            omega
          refine ⟨_, rfl, _, rfl, r, _, _, _, rfl, rfl, SqL.of hr6, at1, _, rfl, _, rfl, du, _, _, _, rfl, rfl, SqL.of hdu6, at2, rEqS.true (.inl ⟨SqL.of hlc, SqL.of hda6⟩) (EqT.iv _) ⟨_, rfl, iteF ?_⟩⟩
          refine ⟨_, rfl, _, rfl, r, _, _, _, rfl, rfl, SqL.of hr6, at1, .inl ⟨rfl, _, SqL.of hlc⟩, la c, _, _, rfl, rfl, hlc, by rw [iv_len]; omega, ?_⟩
          have hfree : H2 (la c) = none := (s23.trans s4).free (hla c hcm).1
          refine ⟨_, rfl, s26.put hfree, by rw [upd_ne (hla c hcm).2.2.symm]; exact hr6, fun j e hj he => ?_⟩
          have ne : la e ≠ la c := fun z => by
            have ec : e = c := hinj e (List.mem_of_getElem? he) c hcm z
            subst ec
            obtain ⟨h1, e1⟩ := List.getElem?_eq_some_iff.mp he
            obtain ⟨h2, e2⟩ := List.getElem?_eq_some_iff.mp hkc
            have := (List.getElem_inj hnd).mp (e1.trans e2.symm)
            omega
          rw [upd_ne ne]
          exact hl6 j e (by omega) he
        · rintro σ H6 ⟨v10, rfl, s26, hr6, hl6⟩
          refine ⟨_, rfl, .inl ⟨rfl, _, SqL.of hr6⟩, r, _, rfl, rfl, hr6, _, _, _, _, rfl, ?_⟩
          exact s26.put ((s23.trans s4).free hr0)
      · rintro σ H3 ⟨v7, v8, v9, v10, rfl, s23⟩
        exact q H3
end
theorem all_mk {l : PySem.W.OpenLaw} {w : World} {K : PySem.W.Frag} {h : Heap} {mg : Str → Option Value} {fa F0 F1 F2 F3 F4 F5 F6 F7 F8 F9 F10 F11 F12 F13 : Addr} (X : K.In h) (G : h.Ns mainGlobals mg) (hfa : mg "law" = some (.ref fa))
    {od0 an0 od1 an1 od2 an2 od3 an3 od4 an4 od5 an5 od6 an6 od7 an7 od8 an8 od9 an9 od10 an10 od11 an11 od12 an12 od13 an13 : Option Addr} {sl0 sl1 sl2 sl3 sl4 sl5 sl6 sl7 sl8 sl9 sl10 sl11 sl12 sl13 : Array (Option Value)} {oc0 kV0 dc0 pm0 cd0 ct0 oc1 kV1 dc1 pm1 cd1 ct1 oc2 kV2 dc2 pm2 cd2 ct2 oc3 kV3 dc3 pm3 cd3 ct3 oc4 kV4 dc4 pm4 cd4 ct4 oc5 kV5 dc5 pm5 cd5 ct5 oc6 kV6 dc6 pm6 cd6 ct6 oc7 kV7 dc7 pm7 cd7 ct7 oc8 kV8 dc8 pm8 cd8 ct8 oc9 kV9 dc9 pm9 cd9 ct9 oc10 kV10 dc10 pm10 cd10 ct10 oc11 kV11 dc11 pm11 cd11 ct11 oc12 kV12 dc12 pm12 cd12 ct12 oc13 kV13 dc13 pm13 cd13 ct13 : Value}
    (a0 : PySem.W.nsIn K mainGlobals "refuse_strangers" = some (some (.ref F0))) (l0 : K.lookup F0 = some ⟨oc0, od0, .func (PySem.W.fnOf "refuse_strangers" "refuse_strangers" (defArgs (top 4)) (defBody (top 4)) (defScope (top 4)) .none kV0 dc0 pm0 an0 cd0 ct0), sl0⟩) (c0 : PySem.W.codeIn K cd0 "refuse_strangers" = true) (k0 : PySem.W.keepIn K (.ref F0) = true)
    (a1 : PySem.W.nsIn K mainGlobals "table_of" = some (some (.ref F1))) (l1 : K.lookup F1 = some ⟨oc1, od1, .func (PySem.W.fnOf "table_of" "table_of" (defArgs (top 5)) (defBody (top 5)) (defScope (top 5)) .none kV1 dc1 pm1 an1 cd1 ct1), sl1⟩) (c1 : PySem.W.codeIn K cd1 "table_of" = true) (k1 : PySem.W.keepIn K (.ref F1) = true)
    (a2 : PySem.W.nsIn K mainGlobals "alike" = some (some (.ref F2))) (l2 : K.lookup F2 = some ⟨oc2, od2, .func (PySem.W.fnOf "alike" "alike" (defArgs (top 6)) (defBody (top 6)) (defScope (top 6)) .none kV2 dc2 pm2 an2 cd2 ct2), sl2⟩) (c2 : PySem.W.codeIn K cd2 "alike" = true) (k2 : PySem.W.keepIn K (.ref F2) = true)
    (a3 : PySem.W.nsIn K mainGlobals "_law_cell_at" = some (some (.ref F3))) (l3 : K.lookup F3 = some ⟨oc3, od3, .func (PySem.W.fnOf "_law_cell_at" "_law_cell_at" (defArgs (top 8)) (defBody (top 8)) (defScope (top 8)) .none kV3 dc3 pm3 an3 cd3 ct3), sl3⟩) (c3 : PySem.W.codeIn K cd3 "_law_cell_at" = true) (k3 : PySem.W.keepIn K (.ref F3) = true)
    (a4 : PySem.W.nsIn K mainGlobals "_law_whole" = some (some (.ref F4))) (l4 : K.lookup F4 = some ⟨oc4, od4, .func (PySem.W.fnOf "_law_whole" "_law_whole" (defArgs (top 9)) (defBody (top 9)) (defScope (top 9)) .none kV4 dc4 pm4 an4 cd4 ct4), sl4⟩) (c4 : PySem.W.codeIn K cd4 "_law_whole" = true) (k4 : PySem.W.keepIn K (.ref F4) = true)
    (a5 : PySem.W.nsIn K mainGlobals "_law_marked" = some (some (.ref F5))) (l5 : K.lookup F5 = some ⟨oc5, od5, .func (PySem.W.fnOf "_law_marked" "_law_marked" (defArgs (top 10)) (defBody (top 10)) (defScope (top 10)) .none kV5 dc5 pm5 an5 cd5 ct5), sl5⟩) (c5 : PySem.W.codeIn K cd5 "_law_marked" = true) (k5 : PySem.W.keepIn K (.ref F5) = true)
    (a6 : PySem.W.nsIn K mainGlobals "_law_spanned" = some (some (.ref F6))) (l6 : K.lookup F6 = some ⟨oc6, od6, .func (PySem.W.fnOf "_law_spanned" "_law_spanned" (defArgs (top 11)) (defBody (top 11)) (defScope (top 11)) .none kV6 dc6 pm6 an6 cd6 ct6), sl6⟩) (c6 : PySem.W.codeIn K cd6 "_law_spanned" = true) (k6 : PySem.W.keepIn K (.ref F6) = true)
    (a7 : PySem.W.nsIn K mainGlobals "_law_any" = some (some (.ref F7))) (l7 : K.lookup F7 = some ⟨oc7, od7, .func (PySem.W.fnOf "_law_any" "_law_any" (defArgs (top 12)) (defBody (top 12)) (defScope (top 12)) .none kV7 dc7 pm7 an7 cd7 ct7), sl7⟩) (c7 : PySem.W.codeIn K cd7 "_law_any" = true) (k7 : PySem.W.keepIn K (.ref F7) = true)
    (a8 : PySem.W.nsIn K mainGlobals "_law_turned" = some (some (.ref F8))) (l8 : K.lookup F8 = some ⟨oc8, od8, .func (PySem.W.fnOf "_law_turned" "_law_turned" (defArgs (top 13)) (defBody (top 13)) (defScope (top 13)) .none kV8 dc8 pm8 an8 cd8 ct8), sl8⟩) (c8 : PySem.W.codeIn K cd8 "_law_turned" = true) (k8 : PySem.W.keepIn K (.ref F8) = true)
    (a9 : PySem.W.nsIn K mainGlobals "_law_ringed" = some (some (.ref F9))) (l9 : K.lookup F9 = some ⟨oc9, od9, .func (PySem.W.fnOf "_law_ringed" "_law_ringed" (defArgs (top 14)) (defBody (top 14)) (defScope (top 14)) .none kV9 dc9 pm9 an9 cd9 ct9), sl9⟩) (c9 : PySem.W.codeIn K cd9 "_law_ringed" = true) (k9 : PySem.W.keepIn K (.ref F9) = true)
    (a10 : PySem.W.nsIn K mainGlobals "_law_sayings" = some (some (.ref F10))) (l10 : K.lookup F10 = some ⟨oc10, od10, .func (PySem.W.fnOf "_law_sayings" "_law_sayings" (defArgs (top 15)) (defBody (top 15)) (defScope (top 15)) .none kV10 dc10 pm10 an10 cd10 ct10), sl10⟩) (c10 : PySem.W.codeIn K cd10 "_law_sayings" = true) (k10 : PySem.W.keepIn K (.ref F10) = true)
    (a11 : PySem.W.nsIn K mainGlobals "_law_numbers" = some (some (.ref F11))) (l11 : K.lookup F11 = some ⟨oc11, od11, .func (PySem.W.fnOf "_law_numbers" "_law_numbers" (defArgs (top 16)) (defBody (top 16)) (defScope (top 16)) .none kV11 dc11 pm11 an11 cd11 ct11), sl11⟩) (c11 : PySem.W.codeIn K cd11 "_law_numbers" = true) (k11 : PySem.W.keepIn K (.ref F11) = true)
    (a12 : PySem.W.nsIn K mainGlobals "_law_alike" = some (some (.ref F12))) (l12 : K.lookup F12 = some ⟨oc12, od12, .func (PySem.W.fnOf "_law_alike" "_law_alike" (defArgs (top 17)) (defBody (top 17)) (defScope (top 17)) .none kV12 dc12 pm12 an12 cd12 ct12), sl12⟩) (c12 : PySem.W.codeIn K cd12 "_law_alike" = true) (k12 : PySem.W.keepIn K (.ref F12) = true)
    (a13 : PySem.W.nsIn K mainGlobals "law" = some (some (.ref F13))) (l13 : K.lookup F13 = some ⟨oc13, od13, .func (PySem.W.fnOf "law" "law" (defArgs (top 18)) (defBody (top 18)) (defScope (top 18)) .none kV13 dc13 pm13 an13 cd13 ct13), sl13⟩) (c13 : PySem.W.codeIn K cd13 "law" = true) (k13 : PySem.W.keepIn K (.ref F13) = true)
    (z0 : PySem.W.nsIn K mainGlobals "len" = some none) (z1 : PySem.W.nsIn K mainGlobals "range" = some none) (z2 : PySem.W.nsIn K mainGlobals "list" = some none) (z3 : PySem.W.nsIn K mainGlobals "sorted" = some none) (z4 : PySem.W.nsIn K mainGlobals "set" = some none) (z5 : PySem.W.nsIn K mainGlobals "isinstance" = some none) (z6 : PySem.W.nsIn K mainGlobals "int" = some none) (z7 : PySem.W.nsIn K mainGlobals "bool" = some none) (z8 : PySem.W.nsIn K mainGlobals "tuple" = some none) (z9 : PySem.W.nsIn K mainGlobals "str" = some none) (z10 : PySem.W.nsIn K mainGlobals "max" = some none) (z11 : PySem.W.nsIn K mainGlobals "min" = some none) (z12 : PySem.W.nsIn K mainGlobals "zip" = some none) (z13 : PySem.W.nsIn K mainGlobals "ValueError" = some none) :
    ∃ fd : FuncData, (∀ (s : Shared) (v : Value), BindsTo s fd ⟨[v], []⟩ [("script", v)]) ∧ ∀ base : Heap, K.In base → base.Ns mainGlobals mg → FnOk l.prog w K mg base CX0 4 fa fd ["script"] (spLaw K) := by
  have e := hfa.symm.trans (PySem.W.mg_of X G a13)
  cases e
  exact ⟨(PySem.W.fnOf "law" "law" (defArgs (top 18)) (defBody (top 18)) (defScope (top 18)) .none kV13 dc13 pm13 an13 cd13 ct13), fun s v => .of_eq rfl, fun base _ _ => ok_law (mg := mg) (K := K) ⟨⟨PySem.W.mg_none_of X G z0, PySem.W.mg_none_of X G z1, PySem.W.mg_none_of X G z2, PySem.W.mg_none_of X G z3, PySem.W.mg_none_of X G z4, PySem.W.mg_none_of X G z5, PySem.W.mg_none_of X G z6, PySem.W.mg_none_of X G z7, PySem.W.mg_none_of X G z8, PySem.W.mg_none_of X G z9, PySem.W.mg_none_of X G z10, PySem.W.mg_none_of X G z11, PySem.W.mg_none_of X G z12, PySem.W.mg_none_of X G z13⟩,
    ⟨F0, (PySem.W.fnOf "refuse_strangers" "refuse_strangers" (defArgs (top 4)) (defBody (top 4)) (defScope (top 4)) .none kV0 dc0 pm0 an0 cd0 ct0), ⟨fun_mk (st := top 4) l0 c0 k0, PySem.W.mg_of X G a0⟩⟩,
    ⟨F1, (PySem.W.fnOf "table_of" "table_of" (defArgs (top 5)) (defBody (top 5)) (defScope (top 5)) .none kV1 dc1 pm1 an1 cd1 ct1), ⟨fun_mk (st := top 5) l1 c1 k1, PySem.W.mg_of X G a1⟩⟩,
    ⟨F2, (PySem.W.fnOf "alike" "alike" (defArgs (top 6)) (defBody (top 6)) (defScope (top 6)) .none kV2 dc2 pm2 an2 cd2 ct2), ⟨fun_mk (st := top 6) l2 c2 k2, PySem.W.mg_of X G a2⟩⟩,
    ⟨F3, (PySem.W.fnOf "_law_cell_at" "_law_cell_at" (defArgs (top 8)) (defBody (top 8)) (defScope (top 8)) .none kV3 dc3 pm3 an3 cd3 ct3), ⟨fun_mk (st := top 8) l3 c3 k3, PySem.W.mg_of X G a3⟩⟩,
    ⟨F4, (PySem.W.fnOf "_law_whole" "_law_whole" (defArgs (top 9)) (defBody (top 9)) (defScope (top 9)) .none kV4 dc4 pm4 an4 cd4 ct4), ⟨fun_mk (st := top 9) l4 c4 k4, PySem.W.mg_of X G a4⟩⟩,
    ⟨F5, (PySem.W.fnOf "_law_marked" "_law_marked" (defArgs (top 10)) (defBody (top 10)) (defScope (top 10)) .none kV5 dc5 pm5 an5 cd5 ct5), ⟨fun_mk (st := top 10) l5 c5 k5, PySem.W.mg_of X G a5⟩⟩,
    ⟨F6, (PySem.W.fnOf "_law_spanned" "_law_spanned" (defArgs (top 11)) (defBody (top 11)) (defScope (top 11)) .none kV6 dc6 pm6 an6 cd6 ct6), ⟨fun_mk (st := top 11) l6 c6 k6, PySem.W.mg_of X G a6⟩⟩,
    ⟨F7, (PySem.W.fnOf "_law_any" "_law_any" (defArgs (top 12)) (defBody (top 12)) (defScope (top 12)) .none kV7 dc7 pm7 an7 cd7 ct7), ⟨fun_mk (st := top 12) l7 c7 k7, PySem.W.mg_of X G a7⟩⟩,
    ⟨F8, (PySem.W.fnOf "_law_turned" "_law_turned" (defArgs (top 13)) (defBody (top 13)) (defScope (top 13)) .none kV8 dc8 pm8 an8 cd8 ct8), ⟨fun_mk (st := top 13) l8 c8 k8, PySem.W.mg_of X G a8⟩⟩,
    ⟨F9, (PySem.W.fnOf "_law_ringed" "_law_ringed" (defArgs (top 14)) (defBody (top 14)) (defScope (top 14)) .none kV9 dc9 pm9 an9 cd9 ct9), ⟨fun_mk (st := top 14) l9 c9 k9, PySem.W.mg_of X G a9⟩⟩,
    ⟨F10, (PySem.W.fnOf "_law_sayings" "_law_sayings" (defArgs (top 15)) (defBody (top 15)) (defScope (top 15)) .none kV10 dc10 pm10 an10 cd10 ct10), ⟨fun_mk (st := top 15) l10 c10 k10, PySem.W.mg_of X G a10⟩⟩,
    ⟨F11, (PySem.W.fnOf "_law_numbers" "_law_numbers" (defArgs (top 16)) (defBody (top 16)) (defScope (top 16)) .none kV11 dc11 pm11 an11 cd11 ct11), ⟨fun_mk (st := top 16) l11 c11 k11, PySem.W.mg_of X G a11⟩⟩,
    ⟨F12, (PySem.W.fnOf "_law_alike" "_law_alike" (defArgs (top 17)) (defBody (top 17)) (defScope (top 17)) .none kV12 dc12 pm12 an12 cd12 ct12), ⟨fun_mk (st := top 17) l12 c12 k12, PySem.W.mg_of X G a12⟩⟩,
    ⟨fa, (PySem.W.fnOf "law" "law" (defArgs (top 18)) (defBody (top 18)) (defScope (top 18)) .none kV13 dc13 pm13 an13 cd13 ct13), ⟨fun_mk (st := top 18) l13 c13 k13, PySem.W.mg_of X G a13⟩⟩⟩⟩
theorem walk {l : PySem.W.OpenLaw} {q : Program} {loose : List Str} {XP : (Str → Option Value) → Heap → Prop} {YP : World → Heap → Prop} {d : DefRec} {K : Params → PySem.W.Frag} (hn : l.most = some 63) (hdf : d.params.defaults = [])
    (hY : ∀ (w : World) (h : Heap), YP w h → (K w.params).In h)
    (F : ∀ (w : World) (mg : Str → Option Value) (fa : Addr) (h : Heap), (K w.params).In h → h.Ns mainGlobals mg → mg d.name = some (.ref fa) →
      ∃ fd : FuncData, (∀ (s : Shared) (u : Value), BindsTo s fd ⟨[u], []⟩ [("script", u)]) ∧ ∀ base : Heap, (K w.params).In base → base.Ns mainGlobals mg → FnOk l.prog w (K w.params) mg base CX0 4 fa fd ["script"] (spLaw (K w.params))) :
    PySem.W.WalkO q loose XP YP l.row.toRowW d [] (fun f vs => PySem.call f vs) :=
  L2.walk_of (n := 63) (k := 4) (x := "script") (CX := fun _ => CX0) (sp := fun w => spLaw (K w.params)) hn (by decide) hdf ⟨rfl, by decide, by decide⟩ hY F (fun _ _ a ns hl _ hS => ⟨a, ns, rfl, hS, hl, fun _ => rfl⟩) fun _ _ _ _ _ z => z
end KS
open PySem PySem.W PyProof.Rows
set_option maxRecDepth 100000 in
set_option maxHeartbeats 0 in
theorem PySem.Challenge.cw_keenscale_k02_things_alike_holds : PySem.Challenge.rw_keenscale_k02_things_alike.Holds := by
  w_on; o_law; k_head; (case hw => w_witness2)
  k_fill
  refine KS.walk (l := PySem.Challenge.rw_keenscale_k02_things_alike) rfl rfl (fun w h Y => PySem.W.kIn_of Y) ?F
  case F =>
    intro w mg fa h KX G hmg
    refine' KS.all_mk KX G hmg ?a0 ?l0 ?c0 ?k0 ?a1 ?l1 ?c1 ?k1 ?a2 ?l2 ?c2 ?k2 ?a3 ?l3 ?c3 ?k3 ?a4 ?l4 ?c4 ?k4 ?a5 ?l5 ?c5 ?k5 ?a6 ?l6 ?c6 ?k6 ?a7 ?l7 ?c7 ?k7 ?a8 ?l8 ?c8 ?k8 ?a9 ?l9 ?c9 ?k9 ?a10 ?l10 ?c10 ?k10 ?a11 ?l11 ?c11 ?k11 ?a12 ?l12 ?c12 ?k12 ?a13 ?l13 ?c13 ?k13 ?z0 ?z1 ?z2 ?z3 ?z4 ?z5 ?z6 ?z7 ?z8 ?z9 ?z10 ?z11 ?z12 ?z13
    (case a0 => k_is)
    (case l0 => k_is)
    (case c0 => k_is)
    (case k0 => k_is)
    (case a1 => k_is)
    (case l1 => k_is)
    (case c1 => k_is)
    (case k1 => k_is)
    (case a2 => k_is)
    (case l2 => k_is)
    (case c2 => k_is)
    (case k2 => k_is)
    (case a3 => k_is)
    (case l3 => k_is)
    (case c3 => k_is)
    (case k3 => k_is)
    (case a4 => k_is)
    (case l4 => k_is)
    (case c4 => k_is)
    (case k4 => k_is)
    (case a5 => k_is)
    (case l5 => k_is)
    (case c5 => k_is)
    (case k5 => k_is)
    (case a6 => k_is)
    (case l6 => k_is)
    (case c6 => k_is)
    (case k6 => k_is)
    (case a7 => k_is)
    (case l7 => k_is)
    (case c7 => k_is)
    (case k7 => k_is)
    (case a8 => k_is)
    (case l8 => k_is)
    (case c8 => k_is)
    (case k8 => k_is)
    (case a9 => k_is)
    (case l9 => k_is)
    (case c9 => k_is)
    (case k9 => k_is)
    (case a10 => k_is)
    (case l10 => k_is)
    (case c10 => k_is)
    (case k10 => k_is)
    (case a11 => k_is)
    (case l11 => k_is)
    (case c11 => k_is)
    (case k11 => k_is)
    (case a12 => k_is)
    (case l12 => k_is)
    (case c12 => k_is)
    (case k12 => k_is)
    (case a13 => k_is)
    (case l13 => k_is)
    (case c13 => k_is)
    (case k13 => k_is)
    (case z0 => k_is)
    (case z1 => k_is)
    (case z2 => k_is)
    (case z3 => k_is)
    (case z4 => k_is)
    (case z5 => k_is)
    (case z6 => k_is)
    (case z7 => k_is)
    (case z8 => k_is)
    (case z9 => k_is)
    (case z10 => k_is)
    (case z11 => k_is)
    (case z12 => k_is)
    (case z13 => k_is)
