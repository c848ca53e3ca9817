import PyProof.Rows.All
import Wide.All
import OpenK.AllK
import Wide.FinOn
import Lean
import PyProof.EqAt
import PyProof.EqKinds
import PyProof.TupleCall
import PySem.SetOps
import PyProof.TupleKey
import PyProof.DictKinds
import PyProof.SetKind
import PyProof.ListRange
import PyProof.Rows.SetFrom
import PyProof.CollectWalk
import PyProof.Rows.SortShell
import KE.KSortTup
import PyProof.NeKinds
import PyProof.StrLawsIn
import PyProof.StrLawsChain
import PyProof.StrBlockI
import PyProof.StrLawsRepr
import PyProof.ReprStr
import PyProof.StrWalks
import PyProof.StrOps2
import KE.KIntText
import PyProof.PureStr
import PyProof.DictFindH
import PyProof.FactsAll.bool
import KE.KDictList
import PyProof.Rows.SortWalk
import PyProof.ZipIter
import KE.KItemsList
import PyProof.RaisesMany
import PyProof.PassesOwn
import PyProof.ExcClass2
import PyProof.RulesAs
import PyProof.NsDelKeeps
import KE.KTryMore
import KE.KIsNot
import PyProof.ExcArgsOwn
import PyProof.ExcAttrAll.ValueError
import OpenK.KOwn
import PySem.Challenge.RW_keenscale_k13_texts_refused
set_option Elab.async false
set_option linter.all false
set_option maxRecDepth 100000
section
set_option Elab.async false
set_option linter.all false
set_option maxRecDepth 100000
namespace L2
open PySem PySem.Spec PyProof.Rows
/-- a key: an int or a str -/
noncomputable abbrev Key := Sum Int Str
noncomputable def keyIs : Key → Value → Bool
  | .inl k, v => Value.isInt k v
  | .inr x, v => Value.isStrOf x v
noncomputable def keyH (w : World) : Key → Int
  | .inl k => hashInt k
  | .inr x => hashStr w x
theorem keyIs_shape : ∀ {k : Key} {v : Value}, keyIs k v = true → (∃ i t, k = Sum.inl i ∧ v = Value.int i t) ∨ (∃ x t, k = Sum.inr x ∧ v = Value.str x t)
  | .inl i, v, h => by
    obtain ⟨t, e⟩ := Value.isInt_shape (k := i) (v := v) h
    exact .inl ⟨i, t, rfl, e⟩
  | .inr x, v, h => by
    obtain ⟨t, e⟩ := Value.isStrOf_shape (x := x) (v := v) h
    exact .inr ⟨x, t, rfl, e⟩
theorem key_ll (a b : Int) : decide ((Sum.inl a : Key) = Sum.inl b) = (a == b) := by
  by_cases e : a = b
  · subst e; simp
  · have h : ¬ (Sum.inl a : Key) = Sum.inl b := fun q => e (Sum.inl.inj q)
    rw [decide_eq_false h]
    exact (beq_eq_false_iff_ne.mpr e).symm
theorem key_rr (a b : Str) : decide ((Sum.inr a : Key) = Sum.inr b) = decide (a = b) := by
  by_cases e : a = b
  · subst e; simp
  · have h : ¬ (Sum.inr a : Key) = Sum.inr b := fun q => e (Sum.inr.inj q)
    rw [decide_eq_false h, decide_eq_false e]
theorem key_lr (a : Int) (b : Str) : decide ((Sum.inl a : Key) = Sum.inr b) = false := decide_eq_false (fun q => nomatch q)
theorem key_rl (a : Str) (b : Int) : decide ((Sum.inr a : Key) = Sum.inl b) = false := decide_eq_false (fun q => nomatch q)
noncomputable def mixKind (prog : Program) (w : World) : PySem.KeyKind prog w Key where
  is := keyIs
  hash := keyH w
  inj := fun v a b ha hb => by
    rcases keyIs_shape ha with ⟨i, t, rfl, rfl⟩ | ⟨x, t, rfl, rfl⟩
    · rcases keyIs_shape hb with ⟨j, u, rfl, e⟩ | ⟨y, u, rfl, e⟩
      · injection e with e1 _; rw [e1]
      · exact nomatch e
    · rcases keyIs_shape hb with ⟨j, u, rfl, e⟩ | ⟨y, u, rfl, e⟩
      · exact nomatch e
      · injection e with e1 _; rw [e1]
  byValue := fun k v h => by
    rcases keyIs_shape h with ⟨i, t, rfl, rfl⟩ | ⟨x, t, rfl, rfl⟩ <;> rfl
  pyHash := fun hv h => by
    rcases keyIs_shape hv with ⟨i, t, rfl, rfl⟩ | ⟨x, t, rfl, rfl⟩
    · exact wpAny_pyHash_int h
    · exact wpAny_pyHash_str h
  eqBool := fun hu hv h => by
    rcases keyIs_shape hu with ⟨i, t, rfl, rfl⟩ | ⟨x, t, rfl, rfl⟩
    · rcases keyIs_shape hv with ⟨j, u, rfl, rfl⟩ | ⟨y, u, rfl, rfl⟩
      · rw [key_ll] at h; exact wpAny_eqBool_int h
      · rw [key_lr] at h; exact SeqAt.EqAt.int_str i t y u _ _ _ _ h
    · rcases keyIs_shape hv with ⟨j, u, rfl, rfl⟩ | ⟨y, u, rfl, rfl⟩
      · rw [key_rl] at h; exact SeqAt.EqAt.str_int x t j u _ _ _ _ h
      · rw [key_rr] at h; exact wpAny_eqBool_str h
  «strs» := fun k x t v h => by
    rcases keyIs_shape h with ⟨i, u, rfl, e⟩ | ⟨y, u, rfl, e⟩
    · exact nomatch e
    · injection e with e1 _
      subst e1
      cases v <;> rfl
end L2
namespace L2
open PySem PySem.Spec PyProof.Rows
/-- a value, without the heap -/
inductive V where
  | non | bl (b : Bool) | int (i : Int) | str (x : Str) | byt (b : Array UInt8) | flt (b : UInt64) | ref (a : Addr) | ty (n : String)
  deriving DecidableEq
noncomputable def RelV : V → Value → Prop
  | .non, u => u = Value.none
  | .bl b, u => u = Value.bool b
  | .int i, u => ∃ t, u = Value.int i t
  | .str x, u => ∃ t, u = Value.str x t
  | .byt b, u => ∃ t, u = Value.bytes b t
  | .flt b, u => ∃ t, u = Value.float b t
  | .ref a, u => u = Value.ref a
  | .ty n, u => u = Value.type n
noncomputable abbrev Vals : List V → List Value → Prop := Paired RelV
theorem Vals.length {xs : List V} {us : List Value} (r : Vals xs us) : xs.length = us.length := Paired.length r
theorem Vals.get : ∀ {xs : List V} {us : List Value} {i : Nat} {x : V}, Vals xs us → xs[i]? = some x → ∃ u, us[i]? = some u ∧ RelV x u
  | _, _, _, _, .nil, e => by simp at e
  | _, _, 0, _, .cons r _, e => by simp at e; subst e; exact ⟨_, rfl, r⟩
  | _, _, i + 1, x, .cons _ t, e => by
    obtain ⟨u, h1, h2⟩ := Vals.get (i := i) (x := x) t (by simpa using e)
    exact ⟨u, by simpa using h1, h2⟩
theorem Vals.append : ∀ {xs ys : List V} {us ws : List Value}, Vals xs us → Vals ys ws → Vals (xs ++ ys) (us ++ ws)
  | _, _, _, _, .nil, s => s
  | _, _, _, _, .cons r t, s => .cons r (Vals.append t s)
theorem Vals.take : ∀ {xs : List V} {us : List Value} (n : Nat), Vals xs us → Vals (xs.take n) (us.take n)
  | _, _, 0, _ => .nil
  | _, _, _ + 1, .nil => .nil
  | _, _, n + 1, .cons r t => .cons r (Vals.take n t)
theorem Vals.drop : ∀ {xs : List V} {us : List Value} (n : Nat), Vals xs us → Vals (xs.drop n) (us.drop n)
  | _, _, 0, r => r
  | _, _, _ + 1, .nil => .nil
  | _, _, n + 1, .cons _ t => Vals.drop n t
noncomputable def RelO : Option V → Option Value → Prop
  | some v, some u => RelV v u
  | none, none => True
  | _, _ => False
noncomputable def KV {κ : Type} : List (κ × V) → List (κ × Value) → Prop := Paired fun (p : κ × V) (q : κ × Value) => p.1 = q.1 ∧ RelV p.2 q.2
/-- a key of a dict (00_mix): an int or a text -/
noncomputable def kV : Key → V
  | .inl i => .int i
  | .inr x => .str x
/-- what stands at a tracked address -/
inductive HO where
  /-- a list -/
  | lst (xs : List V)
  /-- a tuple (never changes) -/
  | tup (xs : List V)
  /-- a dict whose keys are ints and texts; one whose keys are tuples of ints and texts (the empty one is both) -/
  | dK (kvs : List (Key × V)) | dT (kvs : List (List Key × V))
  /-- a set of ints: its members, its size -/
  | set (S : Int → Bool) (n : Nat)
  /-- an instance of the class at C, its dict at dx, its attributes -/
  | ins (C dx : Addr) (fs : List (Str × V))
  /-- the dict of the instance at x -/
  | own (x : Addr)
  /-- the dict of an exception -/
  | xd (fs : List (Str × V))
  /-- a bound method, f of x -/
  | met (f x : Addr)
  /-- a range object lo, lo + 1, .. below hi -/
  | rng (lo hi : Int)
  /-- a thing that is known to the object (the script; a dict while a loop walks it): read, never written while it is so -/
  | frz (o : Obj) (u : HO)
  /-- a code object's table -/
  | tbl (ps : Array Value)
  /-- any other thing, by what is true of its one object (a def of one's own: SetO a S n := HO.ext fun h => ..) -/
  | ext (φ : Heap → Prop)
noncomputable abbrev Hp := Addr → Option HO
noncomputable def upd (H : Hp) (a : Addr) (o : HO) : Hp := fun b => if b = a then some o else H b
theorem upd_same {H : Hp} {a : Addr} {o : HO} : upd H a o a = some o := by unfold upd; rw [if_pos rfl]
theorem upd_ne {H : Hp} {a b : Addr} {o : HO} (h : b ≠ a) : upd H a o b = H b := by unfold upd; rw [if_neg h]
/-- two objects of different content stand apart -/
theorem ne_of {H : Hp} {a b : Addr} {o u : HO} (h : H a = some o) (h' : H b = some u) (d : o ≠ u) : a ≠ b := by
  intro e; subst e; rw [h] at h'; exact d (Option.some.inj h')
theorem ne_of_none {H : Hp} {a b : Addr} {o : HO} (h : H a = some o) (h' : H b = none) : a ≠ b := by
  intro e; subst e; rw [h] at h'; cases h'
section
variable (P : Program) (w : World)
noncomputable def ObjOk (H : Hp) (h : Heap) (a : Addr) : HO → Prop
  | .lst xs => xs.length ≤ sizeLine ∧ ∃ (its : List Value) (n : Nat), Vals xs its ∧ h.get? a = some { cls := .type "list", data := .seq its.toArray n }
  | .tup xs => xs.length ≤ sizeLine ∧ ∃ its : List Value, Vals xs its ∧ IsTup h a its.toArray
  | .dK kvs => kvs.length ≤ sizeLine ∧ (a == sysModules) = false ∧ ∃ vs, KV kvs vs ∧ h.DictOf (mixKind P w) a vs
  | .dT kvs => kvs.length ≤ sizeLine ∧ (a == sysModules) = false ∧ ∃ xs : List (List Key × Addr × Value),
      Paired (fun (p : List Key × V) (q : List Key × Addr × Value) => p.1 = q.1 ∧ H q.2.1 = some (.tup (p.1.map kV)) ∧ RelV p.2 q.2.2) kvs xs ∧
      ∃ o es ep, h.get? a = some o ∧ o.ExactDict ∧ o.data = .dict es ep ∧ es.toList = xs.map (entryOfKey (tupleKind (mixKind P w))) ∧ (xs.map (·.1)).Nodup
  | .set S n => h.SetOf (intKind P w) a S n
  | .ins C dx fs => H dx = some (.own a) ∧ fs.length ≤ 1000 ∧ dx ≠ a ∧ h.get? a = some (PySem.W.instObj C dx) ∧
      ∃ mA, h.Ns1 dx mA ∧ (∀ f, RelO (fs.lookup f) (mA f)) ∧ PySem.Within mA (fs.map (·.1))
  | .own _ => ∃ o, h.get? a = some o
  | .xd fs => ∃ mA, h.Ns1 a mA ∧ ∀ f, RelO (fs.lookup f) (mA f)
  | .rng lo hi => ∃ t u v, h.get? a = some { cls := .type "range", data := .fields #[.int lo t, .int hi u, .int 1 v] }
  | .frz o u => h.get? a = some o ∧ ObjOk H h a u
  | .tbl ps => h.get? a = some { cls := .none, data := .fields ps }
  | .met f x => h.get? a = some (PySem.W.methodObj (.ref f) (.ref x))
  | .ext φ => φ h ∧ (∃ o, h.get? a = some o) ∧ ∀ h1 h2 : Heap, φ h1 → (∀ o, h1.get? a = some o → h2.get? a = some o) → φ h2
/-- the abstract heap is held -/
noncomputable def HOk (H : Hp) (h : Heap) : Prop := ∀ a o, H a = some o → ObjOk P w H h a o
end
section
variable {P : Program} {w : World} {H H' : Hp} {h h' : Heap} {a : Addr} {o : HO}
theorem ObjOk.lt (x : ObjOk P w H h a o) : a < h.objs.size := by
  cases o with
  | lst xs => obtain ⟨_, _, _, _, e⟩ := x; exact Heap.lt_size e
  | tup xs => obtain ⟨_, _, _, p⟩ := x; exact p.lt
  | dK kvs => obtain ⟨_, _, _, _, o, _, _, e, _⟩ := x; exact Heap.lt_size e
  | dT kvs => obtain ⟨_, _, _, _, o, _, _, e, _⟩ := x; exact Heap.lt_size e
  | set S n => obtain ⟨o, _, _, _, e, _⟩ := x; exact Heap.lt_size e
  | ins C dx fs => obtain ⟨_, _, _, e, _⟩ := x; exact Heap.lt_size e
  | own y => obtain ⟨_, e⟩ := x; exact Heap.lt_size e
  | xd fs => obtain ⟨_, ⟨_, _, _, e, _⟩, _⟩ := x; exact Heap.lt_size e
  | rng lo hi => obtain ⟨_, _, _, e⟩ := x; exact Heap.lt_size e
  | frz ob u => obtain ⟨e, _⟩ := x; exact Heap.lt_size e
  | tbl ps => exact Heap.lt_size (show h.get? a = some _ from x)
  | met f y => exact Heap.lt_size (show h.get? a = some _ from x)
  | ext φ => obtain ⟨_, ⟨_, e⟩, _⟩ := x; exact Heap.lt_size e
theorem Paired.mapP {α β : Type} {F G : α → β → Prop} : ∀ {l₁ : List α} {l₂ : List β}, Paired F l₁ l₂ → (∀ a b, F a b → G a b) → Paired G l₁ l₂
  | _, _, .nil, _ => .nil
  | _, _, .cons r t, f => .cons (f _ _ r) (Paired.mapP t f)
/-- what an object's description leans on: its own object, its own dict, the tuples -/
theorem ObjOk.stay (x : ObjOk P w H h a o) (k : ∀ b u, (b = a ∨ H b = some (.own a)) → h.get? b = some u → h'.get? b = some u)
    (ho : ∀ b, H b = some (.own a) → H' b = some (.own a)) (ht : ∀ b xs, H b = some (.tup xs) → H' b = some (.tup xs)) : ObjOk P w H' h' a o := by
  induction o with
  | lst xs => obtain ⟨z, its, n, r, e⟩ := x; exact ⟨z, its, n, r, k _ _ (.inl rfl) e⟩
  | tup xs => obtain ⟨z, its, r, ob, e, c⟩ := x; exact ⟨z, its, r, ob, k _ _ (.inl rfl) e, c⟩
  | dK kvs => obtain ⟨z, y, vs, r, ob, es, ep, e, c⟩ := x; exact ⟨z, y, vs, r, ob, es, ep, k _ _ (.inl rfl) e, c⟩
  | dT kvs =>
    obtain ⟨z, y, xs, r, ob, es, ep, e, c⟩ := x
    exact ⟨z, y, xs, Paired.mapP r fun p q z => ⟨z.1, ht _ _ z.2.1, z.2.2⟩, ob, es, ep, k _ _ (.inl rfl) e, c⟩
  | set S n => obtain ⟨ob, es, ep, t, e, c⟩ := x; exact ⟨ob, es, ep, t, k _ _ (.inl rfl) e, c⟩
  | ins C dx fs =>
    obtain ⟨d, z, ne, e, mA, ⟨od, es, ep, e2, c⟩, r⟩ := x
    exact ⟨ho _ d, z, ne, k _ _ (.inl rfl) e, mA, ⟨od, es, ep, k _ _ (.inr d) e2, c⟩, r⟩
  | own y => obtain ⟨ob, e⟩ := x; exact ⟨ob, k _ _ (.inl rfl) e⟩
  | xd fs => obtain ⟨mA, ⟨od, es, ep, e, c⟩, r⟩ := x; exact ⟨mA, ⟨od, es, ep, k _ _ (.inl rfl) e, c⟩, r⟩
  | rng lo hi => obtain ⟨t, u, v, e⟩ := x; exact ⟨t, u, v, k _ _ (.inl rfl) e⟩
  | frz ob u ih => obtain ⟨e, q⟩ := x; exact ⟨k _ _ (.inl rfl) e, ih q⟩
  | tbl ps =>
    have e : h.get? a = some { cls := .none, data := .fields ps } := x
    show h'.get? a = some { cls := .none, data := .fields ps }
    exact k a _ (.inl rfl) e
  | met f y =>
    have e : h.get? a = some (PySem.W.methodObj (.ref f) (.ref y)) := x
    show h'.get? a = some (PySem.W.methodObj (.ref f) (.ref y))
    exact k a _ (.inl rfl) e
  | ext φ => obtain ⟨p, ⟨o, e⟩, st⟩ := x; exact ⟨st _ _ p fun o q => k _ _ (.inl rfl) q, ⟨o, k _ _ (.inl rfl) e⟩, st⟩
theorem HOk.lt (x : HOk P w H h) (e : H a = some o) : a < h.objs.size := (x a o e).lt
theorem HOk.fresh (x : HOk P w H h) (e : h.objs.size ≤ a) : H a = none := by
  cases q : H a with
  | none => rfl
  | some u => exact absurd (Nat.lt_of_lt_of_le (x.lt q) e) (Nat.lt_irrefl _)
/-- every object of the heap is kept -/
theorem HOk.kept (x : HOk P w H h) (k : ∀ b u, h.get? b = some u → h'.get? b = some u) : HOk P w H h' := fun a o e =>
  (x a o e).stay (fun b u _ q => k b u q) (fun _ q => q) fun _ _ q => q
/-- a new object is laid and tracked -/
theorem HOk.laid (x : HOk P w H h) (k : ∀ b u, h.get? b = some u → h'.get? b = some u) (hp : h.objs.size ≤ a) (new : ObjOk P w (upd H a o) h' a o) : HOk P w (upd H a o) h' := fun b u e => by
  have hn := x.fresh hp
  by_cases hb : b = a
  · subst hb; rw [upd_same] at e; cases e; exact new
  · rw [upd_ne hb] at e
    exact (x b u e).stay (fun c v _ q => k c v q) (fun c q => by rw [upd_ne (ne_of_none q hn)]; exact q) fun c xs q => by rw [upd_ne (ne_of_none q hn)]; exact q
end
/-- what may be read as u: it is u, or a known u -/
noncomputable def Rd (H : Hp) (a : Addr) (u : HO) : Prop := H a = some u ∨ ∃ o, H a = some (.frz o u)
theorem Rd.ok {P : Program} {w : World} {H : Hp} {h : Heap} {a : Addr} {u : HO} (r : Rd H a u) (x : HOk P w H h) : ObjOk P w H h a u := by
  rcases r with r | ⟨o, r⟩
  · exact x a u r
  · obtain ⟨_, q⟩ := x a _ r
    exact q
/-- what may be written -/
noncomputable def Mut : Option HO → Prop
  | some (.lst _) => True
  | some (.dK _) => True
  | some (.dT _) => True
  | some (.set _ _) => True
  | some (.ins _ _ _) => True
  | some (.ext _) => True
  | _ => False
section
variable {P : Program} {w : World} {H : Hp} {h h' : Heap} {x e : Addr} {o' : HO}
/-- the object at e is changed: x itself, or the dict of the instance x -/
theorem HOk.write (ok : HOk P w H h) (mu : Mut (H x)) (he : e = x ∨ H e = some (.own x)) (k : ∀ b u, b ≠ e → h.get? b = some u → h'.get? b = some u) (heo : ∃ u, h'.get? e = some u)
    (new : ObjOk P w (upd H x o') h' x o') : HOk P w (upd H x o') h' := fun b u q => by
  have nown : ∀ c y, H c = some (.own y) → c ≠ x := fun c y r z => by subst z; rw [r] at mu; exact mu
  have ntup : ∀ c xs, H c = some (.tup xs) → c ≠ x := fun c xs r z => by subst z; rw [r] at mu; exact mu
  by_cases hb : b = x
  · subst hb; rw [upd_same] at q; cases q; exact new
  · rw [upd_ne hb] at q
    by_cases hbe : b = e
    · have q' : H b = some (.own x) := by
        rcases he with z | z
        · exact absurd (hbe.trans z) hb
        · rw [hbe]; exact z
      rw [q] at q'; cases q'
      obtain ⟨v, hv⟩ := heo
      exact ⟨v, by rw [hbe]; exact hv⟩
    · refine (ok b u q).stay (fun c v hc r => k c v ?_ r) (fun c r => by rw [upd_ne (nown c b r)]; exact r) fun c xs r => by rw [upd_ne (ntup c xs r)]; exact r
      rcases hc with rfl | hc
      · exact hbe
      · rintro rfl
        rcases he with z | z
        · exact nown c b hc z
        · rw [hc] at z; cases z; exact hb rfl
end
structure Un (fs ex : List Addr) (H H' : Hp) (h h' : Heap) : Prop where
  keep : ∀ b o, h.get? b = some o → H b = none → b ∉ fs → b ∉ ex → h'.get? b = some o
  slot : ∀ b o, h.get? b = some o → H b = none → b ∈ fs → b ∉ ex → ∃ sl, h'.get? b = some { o with slots := sl }
  free : ∀ b o, h.get? b = some o → H b = none → b ∉ ex → H' b = none
  there : ∀ b o, h.get? b = some o → b ∉ ex → ∃ o', h'.get? b = some o'
  tups : ∀ b xs, H b = some (.tup xs) → H' b = some (.tup xs)
  frzs : ∀ b o u, H b = some (.frz o u) → H' b = some (.frz o u)
  tbls : ∀ b ps, H b = some (.tbl ps) → ∃ more, H' b = some (.tbl (ps ++ more))
section
variable {fs fs' ex ex' : List Addr} {H H1 H2 : Hp} {h h1 h2 h' : Heap} {a x e : Addr} {o : HO}
theorem Un.any (u : Un fs ex H H1 h h1) {b : Addr} {ob : Obj} (q : h.get? b = some ob) (n : H b = none) (hx : b ∉ ex) : ∃ sl, h1.get? b = some { ob with slots := sl } := by
  by_cases hb : b ∈ fs
  · exact u.slot b ob q n hb hx
  · exact ⟨ob.slots, u.keep b ob q n hb hx⟩
theorem Un.kept (k : ∀ b u, h.get? b = some u → h'.get? b = some u) : Un fs ex H H h h' :=
  ⟨fun b ob q _ _ _ => k b ob q, fun b ob q _ _ _ => ⟨ob.slots, k b ob q⟩, fun _ _ _ n _ => n, fun b ob q _ => ⟨ob, k b ob q⟩, fun _ _ q => q, fun _ _ _ q => q, fun _ ps q => ⟨#[], by rw [q]; simp⟩⟩
theorem Un.refl : Un fs ex H H h h := Un.kept fun _ _ q => q
theorem Un.laid (k : ∀ b u, h.get? b = some u → h'.get? b = some u) (hp : h.objs.size ≤ a) (hn : H a = none) : Un fs ex H (upd H a o) h h' where
  keep := fun b u q _ _ _ => k b u q
  slot := fun b u q _ _ _ => ⟨u.slots, k b u q⟩
  free := fun b u q n _ => by rw [upd_ne (Nat.ne_of_lt (Nat.lt_of_lt_of_le (Heap.lt_size q) hp))]; exact n
  there := fun b u q _ => ⟨u, k b u q⟩
  tups := fun b xs q => by rw [upd_ne (ne_of_none q hn)]; exact q
  frzs := fun b u xs q => by rw [upd_ne (ne_of_none q hn)]; exact q
  tbls := fun b ps q => ⟨#[], by rw [upd_ne (ne_of_none q hn), q]; simp⟩
theorem Un.write (mu : Mut (H x)) (he : e = x ∨ H e = some (.own x)) (k : ∀ b u, b ≠ e → h.get? b = some u → h'.get? b = some u) (heo : ∃ u, h'.get? e = some u) : Un fs ex H (upd H x o) h h' := by
  have hx : ∀ b, H b = none → b ≠ x := fun b n z => by subst z; rw [n] at mu; exact mu
  have hb : ∀ b, H b = none → b ≠ e := fun b n z => by
    subst z
    rcases he with r | r
    · exact hx b n r
    · rw [n] at r; cases r
  have hm : ∀ b u, H b = some u → ¬ Mut (some u) → b ≠ x := fun b u q nm z => by subst z; rw [q] at mu; exact nm mu
  refine ⟨fun b u q n _ _ => k b u (hb b n) q, fun b u q n _ _ => ⟨u.slots, k b u (hb b n) q⟩, fun b u q n _ => by rw [upd_ne (hx b n)]; exact n, fun b u q _ => ?_,
    fun b xs q => by rw [upd_ne (hm b _ q fun z => z)]; exact q, fun b u xs q => by rw [upd_ne (hm b _ q fun z => z)]; exact q, fun b ps q => ⟨#[], by rw [upd_ne (hm b _ q fun z => z), q]; simp⟩⟩
  by_cases hbe : b = e
  · subst hbe; exact heo
  · exact ⟨u, k b u hbe q⟩
end
noncomputable def trk (h : Heap) (H : Hp) : List Addr := (List.range h.objs.size).filter fun a => (H a).isSome
noncomputable def hidT (h : Heap) (H : Hp) : Heap := PySem.W.hideAll h (trk h H)
theorem hidT_size (h : Heap) (H : Hp) : (hidT h H).objs.size = h.objs.size := PySem.W.hideAll_size _ _
theorem hidT_get {h : Heap} {H : Hp} {b : Addr} {o : Obj} (e : h.get? b = some o) (n : H b = none) : (hidT h H).get? b = some o :=
  PySem.W.hideAll_get _ e fun hm => by
    have q : (H b).isSome = true := (List.mem_filter.mp hm).2
    rw [n] at q; simp at q
theorem of_hidT {h : Heap} {H : Hp} {b : Addr} {o : Obj} (e : (hidT h H).get? b = some o) : h.get? b = some o ∧ H b = none := by
  have e' : h.get? b = some o := PySem.W.of_hideAll (trk h H) e
  refine ⟨e', ?_⟩
  cases q : H b with
  | none => rfl
  | some x =>
    have hm : b ∈ trk h H := List.mem_filter.mpr ⟨List.mem_range.mpr (Heap.lt_size e'), by simp [q]⟩
    have z : (hidT h H).get? b = none := PySem.W.hideAll_none (trk h H) hm
    rw [z] at e; cases e
end L2
namespace L2
open PySem PySem.Spec PyProof.Rows
/-- the module's facts, over the base: the heap at the law's entry without what is tracked there -/
structure Mod (K : PySem.W.Frag) (mg : Str → Option Value) (base : Heap) : Prop where
  kin : K.In base
  glob : base.Ns mainGlobals mg
  blt : ∃ mb, base.Ns builtinsNs mb ∧ ∀ x : Str, x ≠ "__name__" → mb x = bootBuiltins x
  nolimit : base.NoLimit
/-- the context: a def's body (or a comprehension's block) running. base: fixed through the whole law; s₀, H₀: the entry; outer: the frames whose slots others may change (a def's callers); stack: all frames that run;
   ex: iterators that were made ahead of the entry and are walked here (a comprehension's); fn: the names whose cells were made at the entry (a def: all; a comprehension's block: its own); calm: not within an except suite; pn: pins that every state bears; xe: what is wanted of an exception that leaves the code -/
structure Cx where
  prog : Program
  w : World
  K : PySem.W.Frag
  mg : Str → Option Value
  base : Heap
  A : Around
  N : List Str
  s₀ : Shared
  H₀ : Hp
  env : Env
  outer : List Env
  stack : List Env
  ex : List Addr
  fn : Str → Bool
  calm : Bool
  pn : List (Addr × Obj)
  xe : Value → Shared → Prop
/-- the callers' frames -/
noncomputable def frs (l : List Env) : List Addr := l.filterMap (·.frame)
noncomputable abbrev Cx.fs (X : Cx) : List Addr := frs X.outer
noncomputable def Vis (sc : Scope) (x : Str) : Prop := sc.names.lookup x = some .local ∨ sc.names.lookup x = some .cell ∨ sc.names.lookup x = some .free
noncomputable def Loc (sc : Scope) (x : Str) : Prop := sc.names.lookup x = some .local ∨ sc.names.lookup x = some .cell
noncomputable def Look (env : Env) (h : Heap) (m : Str → Option Value) (x : Str) (u : Value) : Prop :=
  (env.kindOf x = some .local ∧ m x = some u) ∨ ((env.kindOf x = some .cell ∨ env.kindOf x = some .free) ∧ ∃ c, env.cells.lookup x = some c ∧ h.IsCell c (some u))
structure Cx.Ok (X : Cx) : Prop where
  mod : Mod X.K X.mg X.base
  kind : X.env.scope.kind = .function
  glob : X.env.globals = mainGlobals
  blt : X.env.builtins = builtinsNs
  above : X.s₀.heap.objs.size ≤ X.env.locals
  inj : ∀ x y c, X.env.cells.lookup x = some c → X.env.cells.lookup y = some c → x = y
  has : ∀ x, (X.env.kindOf x = some .cell ∨ X.env.kindOf x = some .free) → ∃ c, X.env.cells.lookup x = some c
  cab : ∀ x c, X.fn x = true → X.env.cells.lookup x = some c → X.s₀.heap.objs.size ≤ c
  hd : X.calm = true → X.A.handled = none
  frames : X.A.frames = some X.stack
  stk : X.stack = X.outer ∨ (X.stack = X.env :: X.outer ∧ X.env.frame = some X.env.locals)
  exf : ∀ b ∈ X.ex, b ≠ X.env.locals ∧ ∀ x c, X.env.cells.lookup x = some c → c ≠ b
  bs : ∀ b o, X.base.get? b = some o → X.s₀.heap.get? b = some o ∧ X.H₀ b = none
  bsz : X.base.objs.size ≤ X.s₀.heap.objs.size
  noex : ∀ b o, X.base.get? b = some o → b ∉ X.ex
  exfs : ∀ b ∈ X.ex, b ∉ X.fs
  funs : X.s₀.heap.FunFrames X.base X.outer
  frf : ∀ b ∈ X.fs, X.H₀ b = none
structure Inv (X : Cx) (pins : List (Addr × Obj)) (σ : List (Option V)) (H : Hp) (s : Shared) : Prop where
  ok : X.Ok
  os : s.os = X.s₀.os
  bare : AllBare s.gens
  base : Un X.fs X.ex X.H₀ H X.s₀.heap s.heap
  loc : ∃ m, s.heap.Ns X.env.locals m ∧ ∀ (i : Nat) (x : Str) (v : V), X.N[i]? = some x → σ[i]? = some (some v) → Vis X.env.scope x → ∃ u, RelV v u ∧ Look X.env s.heap m x u
  cell : ∀ x c, X.env.cells.lookup x = some c → ∃ v, s.heap.IsCell c v
  free : H X.env.locals = none
  freeC : ∀ x c, X.env.cells.lookup x = some c → H c = none
  pin : ∀ p ∈ X.pn ++ pins, s.heap.get? p.1 = some p.2 ∧ H p.1 = none ∧ p.1 ≠ X.env.locals ∧ p.1 ∉ X.fs ∧ ∀ v, p.2.data ≠ .cell v
  hok : HOk X.prog X.w H s.heap
  len : σ.length = X.N.length
section
variable {X : Cx} {pins : List (Addr × Obj)} {σ : List (Option V)} {H H' : Hp} {s : Shared} {h' : Heap}
theorem Cx.Ok.nofr (ok : X.Ok) {b : Addr} {o : Obj} (e : X.base.get? b = some o) : b ∉ X.fs := fun hb => by
  have := (ok.funs.mem hb).1
  rw [e] at this; cases this
theorem Inv.bs (I : Inv X pins σ H s) : ∀ b o, X.base.get? b = some o → s.heap.get? b = some o ∧ H b = none := fun b o e =>
  ⟨I.base.keep b o (I.ok.bs b o e).1 (I.ok.bs b o e).2 (I.ok.nofr e) (I.ok.noex b o e), I.base.free b o (I.ok.bs b o e).1 (I.ok.bs b o e).2 (I.ok.noex b o e)⟩
theorem Inv.bk (I : Inv X pins σ H s) : ∀ b o, X.base.get? b = some o → s.heap.get? b = some o := fun b o e => (I.bs b o e).1
theorem Inv.mod (I : Inv X pins σ H s) : Mod X.K X.mg X.base := I.ok.mod
theorem Inv.kIn (I : Inv X pins σ H s) : X.K.In s.heap := I.ok.mod.kin.keeps I.bk
theorem Inv.lt (I : Inv X pins σ H s) : X.env.locals < s.heap.objs.size := let ⟨_, hn, _⟩ := I.loc; hn.lt
theorem Inv.sz (I : Inv X pins σ H s) : X.s₀.heap.objs.size ≤ s.heap.objs.size := Nat.le_trans I.ok.above (Nat.le_of_lt I.lt)
theorem Inv.nofs (I : Inv X pins σ H s) {a : Addr} (h : s.heap.objs.size ≤ a) : a ∉ X.fs := fun hb => by
  obtain ⟨_, o, ho, _⟩ := I.ok.funs.mem hb
  exact absurd (Nat.lt_of_lt_of_le (Heap.lt_size ho) (Nat.le_trans I.sz h)) (Nat.lt_irrefl _)
theorem Inv.cne (I : Inv X pins σ H s) : ∀ x c, X.env.cells.lookup x = some c → c ≠ X.env.locals := fun x c e z => by
  obtain ⟨v, o, ho, hd⟩ := I.cell x c e
  obtain ⟨m, ⟨o', es, ep, ho', hd', _⟩, _⟩ := I.loc
  rw [z, ho'] at ho; cases ho; rw [hd'] at hd; cases hd
theorem Inv.funs (I : Inv X pins σ H s) : s.heap.FunFrames X.base X.outer := by
  have all : ∀ (l : List Env), (∀ b ∈ frs l, b ∈ X.fs) → X.s₀.heap.FunFrames X.base l → s.heap.FunFrames X.base l := by
    intro l
    induction l with
    | nil => intro _ _; trivial
    | cons env r ih =>
      intro hs hl
      obtain ⟨hk, ⟨L, o, hf, hn, ho, hd⟩, hr⟩ := hl
      have hL : L ∈ X.fs := hs L (by unfold frs; rw [List.filterMap_cons, hf]; exact List.mem_cons_self)
      obtain ⟨sl, e⟩ := I.base.slot L o ho (I.ok.frf L hL) hL fun z => I.ok.exfs L z hL
      exact ⟨hk, ⟨L, _, hf, hn, e, hd⟩, ih (fun b hb => hs b (by unfold frs; rw [List.filterMap_cons, hf]; exact List.mem_cons_of_mem _ hb)) hr⟩
  exact all X.outer (fun _ hb => hb) I.ok.funs
/-- the frames that run, for a call -/
theorem Inv.stack (I : Inv X pins σ H s) : s.heap.FunFrames X.base X.stack := by
  rcases I.ok.stk with e | ⟨e, hf⟩
  · rw [e]; exact I.funs
  · rw [e]
    obtain ⟨m, hn, _⟩ := I.loc
    refine .cons (by rw [I.ok.kind]; decide) hf hn ?_ I.funs
    exact Heap.get?_none_of_le (Nat.le_trans I.ok.bsz I.ok.above)
theorem Inv.stkSub (I : Inv X pins σ H s) : ∀ b ∈ frs X.stack, b ∈ X.env.locals :: X.fs := fun b hb => by
  rcases I.ok.stk with e | ⟨e, hf⟩
  · rw [e] at hb; exact List.mem_cons_of_mem _ hb
  · rw [e] at hb
    unfold frs at hb
    rw [List.filterMap_cons, hf] at hb
    exact hb
theorem Inv.stkFree (I : Inv X pins σ H s) : ∀ b ∈ frs X.stack, H b = none := fun b hb => by
  rcases List.mem_cons.mp (I.stkSub b hb) with e | hb
  · rw [e]; exact I.free
  · obtain ⟨_, o, ho, _⟩ := I.ok.funs.mem hb
    exact I.base.free b o ho (I.ok.frf b hb) fun z => I.ok.exfs b z hb
/-- THE STEP: the untracked objects but the frame and the records at ch are kept (the callers' frames up to slots), the frame's map is kept, the new abstract heap is held -/
theorem Inv.step {g' : Array GenState} {t' : Nat} {d' : Drawn} {ch : List Addr} (I : Inv X pins σ H s)
    (hch : ∀ b ∈ ch, (b ∈ X.ex ∨ X.s₀.heap.objs.size ≤ b) ∧ b ≠ X.env.locals ∧ (∀ x c, X.env.cells.lookup x = some c → c ≠ b) ∧ ∀ p ∈ X.pn ++ pins, p.1 ≠ b)
    (keep : ∀ b o, b ≠ X.env.locals → b ∉ X.fs → b ∉ ch → s.heap.get? b = some o → H b = none → h'.get? b = some o)
    (slot : ∀ b o, b ≠ X.env.locals → b ∈ X.fs → b ∉ ch → s.heap.get? b = some o → H b = none → ∃ sl, h'.get? b = some { o with slots := sl }) (free : ∀ b o, b ∉ ch → s.heap.get? b = some o → H b = none → H' b = none)
    (there : ∀ b o, b ∉ ch → s.heap.get? b = some o → ∃ o', h'.get? b = some o')
    (tups : ∀ b xs, H b = some (.tup xs) → H' b = some (.tup xs)) (frzs : ∀ b o u, H b = some (.frz o u) → H' b = some (.frz o u)) (tbls : ∀ b ps, H b = some (.tbl ps) → ∃ more, H' b = some (.tbl (ps ++ more)))
    (ns : ∀ m, s.heap.Ns X.env.locals m → h'.Ns X.env.locals m) (hok : HOk X.prog X.w H' h') (hg : AllBare g') :
    Inv X pins σ H' { s with heap := h', gens := g', drawn := d', toks := t' } := by
  have neL : ∀ b o, X.s₀.heap.get? b = some o → b ≠ X.env.locals := fun b o e => Nat.ne_of_lt (Nat.lt_of_lt_of_le (Heap.lt_size e) I.ok.above)
  have neC : ∀ b o, X.s₀.heap.get? b = some o → b ∉ X.ex → b ∉ ch := fun b o e hx hb => by
    rcases (hch b hb).1 with z | z
    · exact hx z
    · exact absurd (Nat.lt_of_lt_of_le (Heap.lt_size e) z) (Nat.lt_irrefl _)
  have cellK : ∀ x c, X.env.cells.lookup x = some c → ∀ v, s.heap.IsCell c v → h'.IsCell c v := fun x c e v ⟨o, ho, hd⟩ => by
    have nch : c ∉ ch := fun z => (hch c z).2.2.1 x c e rfl
    by_cases hc : c ∈ X.fs
    · obtain ⟨sl, q⟩ := slot c o (I.cne x c e) hc nch ho (I.freeC x c e)
      exact ⟨_, q, hd⟩
    · exact ⟨o, keep c o (I.cne x c e) hc nch ho (I.freeC x c e), hd⟩
  refine ⟨I.ok, I.os, hg, ⟨fun b o e n hb hx => ?_, fun b o e n hb hx => ?_, fun b o e n hx => ?_, fun b o e hx => ?_, fun b xs e => tups b xs (I.base.tups b xs e), fun b o xs e => frzs b o xs (I.base.frzs b o xs e), fun b ps e => ?_⟩, ?_, fun x c e => ?_, ?_, fun x c e => ?_, fun p hp => ?_, hok, I.len⟩
  · exact keep b o (neL b o e) hb (neC b o e hx) (I.base.keep b o e n hb hx) (I.base.free b o e n hx)
  · obtain ⟨sl, e1⟩ := I.base.slot b o e n hb hx
    obtain ⟨sl', e2⟩ := slot b _ (neL b o e) hb (neC b o e hx) e1 (I.base.free b o e n hx)
    exact ⟨sl', e2⟩
  · obtain ⟨o', e1⟩ := I.base.there b o e hx
    exact free b o' (neC b o e hx) e1 (I.base.free b o e n hx)
  · obtain ⟨o', e1⟩ := I.base.there b o e hx
    exact there b o' (neC b o e hx) e1
  · obtain ⟨m1, e1⟩ := I.base.tbls b ps e
    obtain ⟨m2, e2⟩ := tbls b _ e1
    exact ⟨m1 ++ m2, by rw [e2, Array.append_assoc]⟩
  · obtain ⟨m, hn, hl⟩ := I.loc
    refine ⟨m, ns m hn, fun i x v e1 e2 e3 => ?_⟩
    obtain ⟨u, r, l⟩ := hl i x v e1 e2 e3
    refine ⟨u, r, ?_⟩
    rcases l with l | ⟨k, c, e, z⟩
    · exact .inl l
    · exact .inr ⟨k, c, e, cellK x c e _ z⟩
  · obtain ⟨v, z⟩ := I.cell x c e
    exact ⟨v, cellK x c e v z⟩
  · obtain ⟨m, ⟨o, _, _, ho, _⟩, _⟩ := I.loc
    exact free _ o (fun z => (hch _ z).2.1 rfl) ho I.free
  · obtain ⟨v, o, ho, hd⟩ := I.cell x c e
    exact free c o (fun z => (hch c z).2.2.1 x c e rfl) ho (I.freeC x c e)
  · obtain ⟨e, n, ne, nf, d⟩ := I.pin p hp
    have nch : p.1 ∉ ch := fun z => (hch p.1 z).2.2.2 p hp rfl
    exact ⟨keep p.1 p.2 ne nf nch e n, free p.1 p.2 nch e n, ne, nf, d⟩
/-- .. where the frame's own object is kept too -/
theorem Inv.un {t' : Nat} (I : Inv X pins σ H s) (u : Un X.fs [] H H' s.heap h') (hok : HOk X.prog X.w H' h') : Inv X pins σ H' { s with heap := h', toks := t' } := by
  obtain ⟨m, ⟨o, es, ep, ho, r⟩, _⟩ := id I.loc
  obtain ⟨sl, hL⟩ := u.any ho I.free (by simp)
  exact I.step (g' := s.gens) (d' := s.drawn) (ch := []) (fun _ z => nomatch z) (fun b o _ hb _ e n => u.keep b o e n hb (by simp)) (fun b o _ hb _ e n => u.slot b o e n hb (by simp)) (fun b o _ e n => u.free b o e n (by simp)) (fun b o _ e => u.there b o e (by simp)) u.tups u.frzs u.tbls (fun m' hm => by
    obtain ⟨o', es', ep', ho', r'⟩ := hm
    rw [ho] at ho'; cases ho'
    exact ⟨_, es', ep', hL, r'⟩) hok I.bare
/-- behind a call (or a comprehension's block): the slots of this frame may have changed too, the records at ch may have turned -/
theorem Inv.call {g' : Array GenState} {t' : Nat} {d' : Drawn} {ch : List Addr} (I : Inv X pins σ H s) (u : Un (frs X.stack) ch H H' s.heap h') (hok : HOk X.prog X.w H' h') (hg : AllBare g')
    (hch : ∀ b ∈ ch, (b ∈ X.ex ∨ X.s₀.heap.objs.size ≤ b) ∧ b ≠ X.env.locals ∧ (∀ x c, X.env.cells.lookup x = some c → c ≠ b) ∧ ∀ p ∈ X.pn ++ pins, p.1 ≠ b) :
    Inv X pins σ H' { s with heap := h', gens := g', drawn := d', toks := t' } := by
  obtain ⟨m, ⟨o, es, ep, ho, r⟩, _⟩ := id I.loc
  obtain ⟨sl, hL⟩ := u.any ho I.free fun z => (hch _ z).2.1 rfl
  exact I.step (ch := ch) hch (fun b o hL hb hc e n => u.keep b o e n (fun z => (List.mem_cons.mp (I.stkSub b z)).elim hL hb) hc) (fun b o _ _ hc e n => u.any e n hc) (fun b o hc e n => u.free b o e n hc) (fun b o hc e => u.there b o e hc) u.tups u.frzs u.tbls (fun m' hm => by
    obtain ⟨o', es', ep', ho', r'⟩ := hm
    rw [ho] at ho'; cases ho'
    exact ⟨_, es', ep', hL, r'⟩) hok hg
/-- an untracked record of ours (an iterator) has turned -/
theorem Inv.turned {t' : Nat} {it : Addr} (I : Inv X pins σ H s) (k : ∀ b o, b ≠ it → s.heap.get? b = some o → h'.get? b = some o) (hn : H it = none) (hL : it ≠ X.env.locals)
    (h1 : it ∈ X.ex ∨ X.s₀.heap.objs.size ≤ it) (h2 : ∀ x c, X.env.cells.lookup x = some c → c ≠ it) (h3 : ∀ p ∈ X.pn ++ pins, p.1 ≠ it) : Inv X pins σ H { s with heap := h', toks := t' } := by
  have nit : ∀ b u, H b = some u → b ≠ it := fun b u e z => by rw [z, hn] at e; cases e
  refine I.step (g' := s.gens) (d' := s.drawn) (ch := [it]) (fun b hb => ?_) (fun b o _ _ hc e _ => k b o (fun z => hc (by simp [z])) e) (fun b o _ _ hc e _ => ⟨o.slots, k b o (fun z => hc (by simp [z])) e⟩) (fun _ _ _ _ n => n)
    (fun b o hc e => ⟨o, k b o (fun z => hc (by simp [z])) e⟩) (fun _ _ e => e) (fun _ _ _ e => e) (fun b ps e => ⟨#[], by rw [e]; simp⟩) (fun m hm => ?_) (fun b u e => ?_) I.bare
  · have e : b = it := by simpa using hb
    subst e
    exact ⟨h1, hL, h2, h3⟩
  · obtain ⟨o, es, ep, ho, r⟩ := hm
    exact ⟨o, es, ep, k _ o (Ne.symm hL) ho, r⟩
  · refine (I.hok b u e).stay (fun c v hc q => k c v ?_ q) (fun _ q => q) fun _ _ q => q
    rcases hc with z | z
    · rw [z]; exact nit b u e
    · exact nit c _ z
theorem Inv.tok (I : Inv X pins σ H s) (t : Nat) : Inv X pins σ H { s with toks := t } := I.un (h' := s.heap) (t' := t) Un.refl I.hok
/-- all objects kept -/
theorem Inv.kept {t' : Nat} (I : Inv X pins σ H s) (k : ∀ b u, s.heap.get? b = some u → h'.get? b = some u) : Inv X pins σ H { s with heap := h', toks := t' } := I.un (Un.kept k) (I.hok.kept k)
/-- a new object laid and tracked -/
theorem Inv.laid {a : Addr} {o : HO} {t' : Nat} (I : Inv X pins σ H s) (k : ∀ b u, s.heap.get? b = some u → h'.get? b = some u) (hp : s.heap.objs.size ≤ a) (new : ObjOk X.prog X.w (upd H a o) h' a o) :
    Inv X pins σ (upd H a o) { s with heap := h', toks := t' } := I.un (Un.laid k hp (I.hok.fresh hp)) (I.hok.laid k hp new)
/-- an object written -/
theorem Inv.write {x e : Addr} {o : HO} {t' : Nat} (I : Inv X pins σ H s) (mu : Mut (H x)) (he : e = x ∨ H e = some (.own x)) (k : ∀ b u, b ≠ e → s.heap.get? b = some u → h'.get? b = some u) (heo : ∃ u, h'.get? e = some u)
    (new : ObjOk X.prog X.w (upd H x o) h' x o) : Inv X pins σ (upd H x o) { s with heap := h', toks := t' } := I.un (Un.write mu he k heo) (I.hok.write mu he k heo new)
/-- forgetting slots, pins -/
theorem Inv.weak {σ' : List (Option V)} (I : Inv X pins σ H s) (hl : σ'.length = σ.length) (w : ∀ (i : Nat) v, σ'[i]? = some (some v) → σ[i]? = some (some v)) : Inv X pins σ' H s :=
  ⟨I.ok, I.os, I.bare, I.base, let ⟨m, hn, hl'⟩ := I.loc; ⟨m, hn, fun i x v e1 e2 e3 => hl' i x v e1 (w i v e2) e3⟩, I.cell, I.free, I.freeC, I.pin, I.hok, hl.trans I.len⟩
theorem Inv.pins_of {pins' : List (Addr × Obj)} (I : Inv X pins σ H s) (h : ∀ p ∈ pins', s.heap.get? p.1 = some p.2 ∧ H p.1 = none ∧ p.1 ≠ X.env.locals ∧ p.1 ∉ X.fs ∧ ∀ v, p.2.data ≠ .cell v) : Inv X pins' σ H s :=
  ⟨I.ok, I.os, I.bare, I.base, I.loc, I.cell, I.free, I.freeC, fun p hp => (List.mem_append.mp hp).elim (fun z => I.pin p (List.mem_append_left _ z)) (h p), I.hok, I.len⟩
theorem nodup_ix {N : List Str} (hN : N.Nodup) {i j : Nat} {x : Str} (a : N[i]? = some x) (b : N[j]? = some x) : i = j := by
  obtain ⟨h1, e1⟩ := List.getElem?_eq_some_iff.mp a
  obtain ⟨h2, e2⟩ := List.getElem?_eq_some_iff.mp b
  exact (List.getElem_inj hN).mp (e1.trans e2.symm)
/-- a name is stored; what changed -/
theorem store_ok2 {M : Model} {A : Around} {E : Value → Shared → Prop} {i : Nat} {x : Str} {v : V} {u : Value} {Q : Unit → Shared → Prop} (I : Inv X pins σ H s) (hN : X.N.Nodup) (hi : X.N[i]? = some x) (hx : Loc X.env.scope x) (r : RelV v u)
    (h : ∀ s', Inv X pins (σ.set i (some v)) H s' → (∃ a, Heap.SameBut a s.heap s'.heap ∧ (a = X.env.locals ∨ X.env.cells.lookup x = some a)) → Q () s') (hf : X.fn x = true ∨ X.env.scope.names.lookup x = some .local := by first | exact .inl rfl | exact .inr rfl | assumption) : wpAny M A (storeName X.env x u) Q E s := by
  obtain ⟨m, hn, hl⟩ := id I.loc
  have hcls : (X.env.scope.kind == .class || (X.env.scope.kind == .module && X.env.locals != X.env.globals)) = false := by rw [I.ok.kind]; rfl
  have hiσ : i < σ.length := by rw [I.len]; exact (List.getElem?_eq_some_iff.mp hi).1
  have cne := I.cne
  have tracked : ∀ {a : Addr} {h' : Heap}, (∃ o, s.heap.get? a = some o ∧ H a = none) → Heap.SameBut a s.heap h' → HOk X.prog X.w H h' := fun {a h'} ha hs b ob e => by
    obtain ⟨_, _, hfree⟩ := ha
    refine (I.hok b ob e).stay (fun c w' hc q => (hs.2 c ?_).trans q) (fun _ q => q) fun _ _ q => q
    rintro rfl
    rcases hc with rfl | hc
    · rw [hfree] at e; cases e
    · rw [hfree] at hc; cases hc
  rcases hx with hk | hk
  · refine wpAny_storeName_local hk hn (fun h' hn' hs => ?_) hcls
    obtain ⟨oL, _, _, hoL, _⟩ := id hn
    refine h _ ⟨I.ok, I.os, I.bare, ⟨fun b o e n hb hx => ?_, fun b o e n hb hx => ?_, I.base.free, fun b o e hx => ?_, I.base.tups, I.base.frzs, I.base.tbls⟩, ⟨_, hn', fun j y v' e1 e2 e3 => ?_⟩, fun y c e => ?_, I.free, I.freeC, fun p hp => ?_, tracked ⟨oL, hoL, I.free⟩ hs, by simpa using I.len⟩ ⟨_, hs, .inl rfl⟩
    · exact (hs.2 b (Nat.ne_of_lt (Nat.lt_of_lt_of_le (Heap.lt_size e) I.ok.above))).trans (I.base.keep b o e n hb hx)
    · obtain ⟨sl, e1⟩ := I.base.slot b o e n hb hx
      exact ⟨sl, (hs.2 b (Nat.ne_of_lt (Nat.lt_of_lt_of_le (Heap.lt_size e) I.ok.above))).trans e1⟩
    · obtain ⟨o', e1⟩ := I.base.there b o e hx
      exact ⟨o', (hs.2 b (Nat.ne_of_lt (Nat.lt_of_lt_of_le (Heap.lt_size e) I.ok.above))).trans e1⟩
    · by_cases hj : j = i
      · subst hj
        rw [hi] at e1; cases e1
        rw [List.getElem?_set_self hiσ] at e2
        cases e2
        exact ⟨u, r, .inl ⟨hk, by simp⟩⟩
      · rw [List.getElem?_set_ne (Ne.symm hj)] at e2
        obtain ⟨u', r', q⟩ := hl j y v' e1 e2 e3
        refine ⟨u', r', ?_⟩
        rcases q with ⟨k, e⟩ | ⟨k, c, e, z⟩
        · refine .inl ⟨k, ?_⟩
          have : y ≠ x := fun e => hj (nodup_ix hN e1 (e ▸ hi))
          simp [this, e]
        · exact .inr ⟨k, c, e, z.sameBut hs (cne y c e)⟩
    · obtain ⟨w', z⟩ := I.cell y c e
      exact ⟨w', z.sameBut hs (cne y c e)⟩
    · obtain ⟨e, n, ne, nf, d⟩ := I.pin p hp
      exact ⟨(hs.2 p.1 ne).trans e, n, ne, nf, d⟩
  · have hfn : X.fn x = true := by
      rcases hf with z | z
      · exact z
      · rw [z] at hk; cases hk
    obtain ⟨c, hc⟩ := I.ok.has x (.inl hk)
    obtain ⟨w', z⟩ := I.cell x c hc
    refine wpAny_storeName_cell I.ok.kind hk hc z (fun h' hc' hs => ?_)
    obtain ⟨oc, hoc, hocd⟩ := id z
    refine h { s with heap := h' } ⟨I.ok, I.os, I.bare, ⟨fun b o e n hb hx => ?_, fun b o e n hb hx => ?_, I.base.free, fun b o e hx => ?_, I.base.tups, I.base.frzs, I.base.tbls⟩, ⟨m, hn.sameBut hs (Ne.symm (cne x c hc)), fun j y v' e1 e2 e3 => ?_⟩, fun y c' e => ?_, I.free, I.freeC, fun p hp => ?_, tracked ⟨oc, hoc, I.freeC x c hc⟩ hs, by simpa using I.len⟩ ⟨c, hs, .inr hc⟩
    · exact (hs.2 b (Nat.ne_of_lt (Nat.lt_of_lt_of_le (Heap.lt_size e) (I.ok.cab x c hfn hc)))).trans (I.base.keep b o e n hb hx)
    · obtain ⟨sl, e1⟩ := I.base.slot b o e n hb hx
      exact ⟨sl, (hs.2 b (Nat.ne_of_lt (Nat.lt_of_lt_of_le (Heap.lt_size e) (I.ok.cab x c hfn hc)))).trans e1⟩
    · obtain ⟨o', e1⟩ := I.base.there b o e hx
      exact ⟨o', (hs.2 b (Nat.ne_of_lt (Nat.lt_of_lt_of_le (Heap.lt_size e) (I.ok.cab x c hfn hc)))).trans e1⟩
    · by_cases hj : j = i
      · subst hj
        rw [hi] at e1; cases e1
        rw [List.getElem?_set_self hiσ] at e2
        cases e2
        exact ⟨u, r, .inr ⟨.inl hk, c, hc, hc'⟩⟩
      · rw [List.getElem?_set_ne (Ne.symm hj)] at e2
        obtain ⟨u', r', q⟩ := hl j y v' e1 e2 e3
        refine ⟨u', r', ?_⟩
        rcases q with q | ⟨k, c', e, z'⟩
        · exact .inl q
        · refine .inr ⟨k, c', e, z'.sameBut hs ?_⟩
          rintro rfl
          exact hj (nodup_ix hN e1 (I.ok.inj _ _ _ e hc ▸ hi))
    · by_cases hcc : c' = c
      · subst hcc; exact ⟨_, hc'⟩
      · obtain ⟨w2, z2⟩ := I.cell y c' e
        exact ⟨w2, z2.sameBut hs hcc⟩
    · obtain ⟨e, n, ne, nf, d⟩ := I.pin p hp
      refine ⟨(hs.2 p.1 ?_).trans e, n, ne, nf, d⟩
      intro q
      rw [q, hoc] at e
      have q' : oc = p.2 := Option.some.inj e
      exact d w' (by rw [← q']; exact hocd)
theorem store_ok {M : Model} {A : Around} {E : Value → Shared → Prop} {i : Nat} {x : Str} {v : V} {u : Value} {Q : Unit → Shared → Prop} (I : Inv X pins σ H s) (hN : X.N.Nodup) (hi : X.N[i]? = some x) (hx : Loc X.env.scope x) (r : RelV v u)
    (h : ∀ s', Inv X pins (σ.set i (some v)) H s' → Q () s') (hf : X.fn x = true ∨ X.env.scope.names.lookup x = some .local := by first | exact .inl rfl | exact .inr rfl | assumption) : wpAny M A (storeName X.env x u) Q E s :=
  store_ok2 I hN hi hx r (fun s' I' _ => h s' I') hf
/-- behind a call or a block, the state as it is -/
theorem Inv.call' {s' : Shared} {ch : List Addr} (I : Inv X pins σ H s) (ho : s'.os = s.os) (u : Un (frs X.stack) ch H H' s.heap s'.heap) (hok : HOk X.prog X.w H' s'.heap) (hg : AllBare s'.gens)
    (hch : ∀ b ∈ ch, (b ∈ X.ex ∨ X.s₀.heap.objs.size ≤ b) ∧ b ≠ X.env.locals ∧ (∀ x c, X.env.cells.lookup x = some c → c ≠ b) ∧ ∀ p ∈ X.pn ++ pins, p.1 ≠ b) : Inv X pins σ H' s' := by
  obtain ⟨h', g', d', t', o'⟩ := s'
  have e : o' = s.os := ho
  subst e
  exact I.call (g' := g') (t' := t') (d' := d') u hok hg hch
end
/-- an exception: its class, its own dict's address (where it has one), the abstract heap behind it -/
noncomputable abbrev XK := Value → Option Addr → Hp → Prop
noncomputable abbrev St := List (Option V)
noncomputable abbrev VK := V → Hp → Prop
/-- an expression's reading; a test's; an argument list's -/
noncomputable abbrev TE := St → Hp → VK → Prop
noncomputable abbrev TT := St → Hp → (Bool → Hp → Prop) → Prop
noncomputable abbrev TA := St → Hp → (List V → Hp → Prop) → Prop
/-- what is wanted behind a statement -/
structure Ends where
  nx : St → Hp → Prop
  rt : VK
  bk : St → Hp → Prop := fun _ _ => False
  ct : St → Hp → Prop := fun _ _ => False
noncomputable abbrev TS := Ends → St → Hp → Prop
noncomputable def EP (X : Cx) (pins : List (Addr × Obj)) (σ : St) (Q : VK) (u : Value) (s' : Shared) : Prop := ∃ v H', Inv X pins σ H' s' ∧ RelV v u ∧ Q v H'
noncomputable def TP (X : Cx) (pins : List (Addr × Obj)) (σ : St) (Q : Bool → Hp → Prop) (b : Bool) (s' : Shared) : Prop := ∃ H', Inv X pins σ H' s' ∧ Q b H'
noncomputable def AP (X : Cx) (pins : List (Addr × Obj)) (σ : St) (Q : List V → Hp → Prop) (us : List Value) (s' : Shared) : Prop := ∃ vs H', Inv X pins σ H' s' ∧ Vals vs us ∧ Q vs H'
noncomputable def SP (X : Cx) (pins : List (Addr × Obj)) (D : Ends) (f : Flow) (s' : Shared) : Prop :=
  match f with
  | .next => ∃ σ' H', Inv X pins σ' H' s' ∧ D.nx σ' H'
  | .brk => ∃ σ' H', Inv X pins σ' H' s' ∧ D.bk σ' H'
  | .cont => ∃ σ' H', Inv X pins σ' H' s' ∧ D.ct σ' H'
  | .ret u => ∃ v σ' H', Inv X pins σ' H' s' ∧ RelV v u ∧ D.rt v H'
noncomputable def PE (X : Cx) (e : Expr) (t : TE) : Prop :=
  ∀ (pins : List (Addr × Obj)) (s : Shared) (σ : St) (H : Hp) (Q : VK), Inv X pins σ H s → t σ H Q → wpAny (model X.prog X.w) X.A (eval e X.env) (EP X pins σ Q) X.xe s
noncomputable def PT (X : Cx) (e : Expr) (t : TT) : Prop :=
  ∀ (pins : List (Addr × Obj)) (s : Shared) (σ : St) (H : Hp) (Q : Bool → Hp → Prop), Inv X pins σ H s → t σ H Q → wpAny (model X.prog X.w) X.A (isTrue e X.env (eval e X.env)) (TP X pins σ Q) X.xe s
/-- a test whatever its 'whole' is (and, or) -/
noncomputable def PW (X : Cx) (e : Expr) (t : TT) : Prop :=
  ∀ (whole : Sem Value) (pins : List (Addr × Obj)) (s : Shared) (σ : St) (H : Hp) (Q : Bool → Hp → Prop), Inv X pins σ H s → t σ H Q → wpAny (model X.prog X.w) X.A (isTrue e X.env whole) (TP X pins σ Q) X.xe s
theorem PW.pt {X : Cx} {e : Expr} {t : TT} (h : PW X e t) : PT X e t := h _
/-- an argument list (no star), from the left -/
noncomputable def PA (X : Cx) (es : List Expr) (t : TA) : Prop :=
  ∀ (pos : Pos) (pins : List (Addr × Obj)) (s : Shared) (σ : St) (H : Hp) (Q : List V → Hp → Prop), Inv X pins σ H s → t σ H Q → wpAny (model X.prog X.w) X.A (spliced (backTo pos (starEach es X.env))) (AP X pins σ Q) X.xe s
noncomputable def PS (X : Cx) (st : Stmt) (t : TS) : Prop :=
  ∀ (pins : List (Addr × Obj)) (s : Shared) (σ : St) (H : Hp) (D : Ends), Inv X pins σ H s → t D σ H → wpAny (model X.prog X.w) X.A (exec st X.env) (SP X pins D) X.xe s
noncomputable def PSs (X : Cx) (st : List Stmt) (t : TS) : Prop :=
  ∀ (pins : List (Addr × Obj)) (s : Shared) (σ : St) (H : Hp) (D : Ends), Inv X pins σ H s → t D σ H → wpAny (model X.prog X.w) X.A (execs st X.env) (SP X pins D) X.xe s
/-- weaken the end -/
theorem thn {α : Type} {t : Sem α} {Q Q' : α → Shared → Prop} {M : Model} {A : Around} {E : Value → Shared → Prop} {s : Shared} (h : wpAny M A t Q E s) (hQ : ∀ a s, Q a s → Q' a s) : wpAny M A t Q' E s := wpAny_mono h hQ fun _ _ x => x
end L2
namespace L2
open PySem PySem.Spec PyProof.Rows
section
variable {X : Cx}
noncomputable def tVar (i : Nat) : TE := fun σ H Q => ∃ v, σ[i]? = some (some v) ∧ Q v H
noncomputable def tC (v : V) : TE := fun _ H Q => Q v H
theorem pe_var {i : Nat} {x : Str} {pos : Pos} (hN : X.N[i]? = some x) (hv : Vis X.env.scope x) (hd : (x == ("__debug__" : Str)) = false := by decide) (hcd : (x == ("__classdict__" : Str)) = false := by decide) : PE X (.Name x pos) (tVar i) := by
  intro pins s σ H Q I h
  obtain ⟨v, e, h⟩ := h
  obtain ⟨m, hn, hl⟩ := I.loc
  obtain ⟨u, r, l⟩ := hl i x v hN e hv
  have fin : EP X pins σ Q u s := ⟨v, H, I, r, h⟩
  rcases l with ⟨hk, hm⟩ | ⟨hk, c, hc, hcell⟩
  · exact wpAny_Name (wpAny_loadName_local I.ok.kind hk hn hm fin) hd
  · rcases hk with hk | hk
    · exact wpAny_Name (wpAny_loadName_cell I.ok.kind hk hc hcell fin) hd
    · exact wpAny_Name (wpAny_loadName_free I.ok.kind hk hc hcell fin hcd) hd
theorem pe_int {i j pos} : PE X (.Constant (.int i) j pos) (tC (.int i)) := fun _ _ _ H _ I h => wpAny_Constant_int ⟨.int i, H, I.tok _, ⟨_, rfl⟩, h⟩
theorem pe_bl {b j pos} : PE X (.Constant (.bool b) j pos) (tC (.bl b)) := fun _ _ _ H _ I h => Constant_bool ⟨.bl b, H, I, rfl, h⟩
theorem pe_non {j pos} : PE X (.Constant .none j pos) (tC .non) := fun _ _ _ H _ I h => Constant_none ⟨.non, H, I, rfl, h⟩
theorem pe_str {x j pos} : PE X (.Constant (.str x) j pos) (tC (.str x)) := fun _ _ _ H _ I h => Calls.Constant_str ⟨.str x, H, I.tok _, ⟨_, rfl⟩, h⟩
/-- a global name of the def -/
noncomputable def Gl (X : Cx) (x : Str) : Prop := X.env.kindOf x = some .globalImplicit
theorem ld_glob {E : Value → Shared → Prop} {pins : List (Addr × Obj)} {s : Shared} {σ : St} {H : Hp} {x : Str} {u : Value} {pos : Pos} {Q : Value → Shared → Prop} (I : Inv X pins σ H s) (hg : Gl X x) (hm : X.mg x = some u) (h : Q u s)
    (hd : (x == ("__debug__" : Str)) = false := by decide) : wpAny (model X.prog X.w) X.A (eval (.Name x pos) X.env) Q E s :=
  Calls.Name_function_global I.ok.kind hg (Calls.loadGlobal_global (by rw [I.ok.glob]; exact I.mod.glob.keeps I.bk) hm h) hd
theorem ld_blt {E : Value → Shared → Prop} {pins : List (Addr × Obj)} {s : Shared} {σ : St} {H : Hp} {x : Str} {u : Value} {pos : Pos} {Q : Value → Shared → Prop} (I : Inv X pins σ H s) (hg : Gl X x) (hm : X.mg x = none) (hv : bootBuiltins x = some u) (h : Q u s)
    (hn : x ≠ "__name__" := by decide) (hd : (x == ("__debug__" : Str)) = false := by decide) : wpAny (model X.prog X.w) X.A (eval (.Name x pos) X.env) Q E s := by
  obtain ⟨mb, h1, h2⟩ := I.mod.blt
  exact Calls.Name_function_global I.ok.kind hg (Calls.loadGlobal_builtin (by rw [I.ok.glob]; exact I.mod.glob.keeps I.bk) hm (by rw [I.ok.blt]; exact h1.keeps I.bk) ((h2 x hn).trans hv) h) hd
/-- a module's constant, a class, a function, as a value -/
theorem pe_glob {x : Str} {v : V} {u : Value} {pos : Pos} (hg : Gl X x) (hm : X.mg x = some u) (r : RelV v u) (hd : (x == ("__debug__" : Str)) = false := by decide) : PE X (.Name x pos) (tC v) :=
  fun _ _ _ H _ I h => ld_glob I hg hm ⟨v, H, I, r, h⟩ hd
theorem pe_bltn {x : Str} {v : V} {u : Value} {pos : Pos} (hg : Gl X x) (hm : X.mg x = none) (hv : bootBuiltins x = some u) (r : RelV v u) (hn : x ≠ "__name__" := by decide) (hd : (x == ("__debug__" : Str)) = false := by decide) : PE X (.Name x pos) (tC v) :=
  fun _ _ _ H _ I h => ld_blt I hg hm hv ⟨v, H, I, r, h⟩ hn hd
variable {a b : Expr} {ta tb : TE} {pos : Pos}
/-- a comparison as a value, as a test -/
noncomputable def tB (t : TE) : TT := fun σ H Q => t σ H fun x H1 => ∃ c, x = .bl c ∧ Q c H1
/-- an expression whose value is a bool, as a test -/
theorem pt_val {e : Expr} {t : TE} (h : PE X e t) (he : ∀ whole, isTrue e X.env whole = (do let v ← whole; standAt e.pos; holding [v] (truthy v)) := by intro _; rfl) : PT X e (tB t) := by
  intro pins s σ H Q I hw
  refine isTrue_plain (thn (h pins s σ H _ I hw) fun v s1 ⟨x, H1, I1, r1, q1⟩ => ?_) (he _)
  obtain ⟨d, rfl, q⟩ := q1
  cases r1
  exact wpAny_truthy_bool ⟨H1, I1, q⟩
variable {tA tB' : TT} {rest : List Expr}
noncomputable def tAnd (t u : TT) : TT := fun σ H Q => t σ H fun c H1 => if c = true then u σ H1 Q else Q false H1
noncomputable def tOr (t u : TT) : TT := fun σ H Q => t σ H fun c H1 => if c = true then Q true H1 else u σ H1 Q
noncomputable def tNot (t : TT) : TT := fun σ H Q => t σ H fun c H1 => Q (!c) H1
theorem pw_and1 (ha : PT X a tA) : PW X (.BoolOp .And [a] pos) tA := by
  intro wh pins s σ H Q I h
  refine isTrue_and (thn (ha pins s σ H Q I h) fun c s1 e => ?_)
  cases c with
  | true => exact isTrue_and_nil e
  | false => exact e
theorem pw_or1 (ha : PT X a tA) : PW X (.BoolOp .Or [a] pos) tA := by
  intro wh pins s σ H Q I h
  refine isTrue_or (thn (ha pins s σ H Q I h) fun c s1 e => ?_)
  cases c with
  | false => exact isTrue_or_nil e
  | true => exact e
theorem pw_and (ha : PT X a tA) (hb : PW X (.BoolOp .And (b :: rest) pos) tB') : PW X (.BoolOp .And (a :: b :: rest) pos) (tAnd tA tB') := by
  intro wh pins s σ H Q I h
  refine isTrue_and (thn (ha pins s σ H _ I h) fun c s1 ⟨H1, I1, q1⟩ => ?_)
  cases c with
  | true => exact hb wh pins s1 σ H1 Q I1 q1
  | false => exact ⟨H1, I1, q1⟩
theorem pw_or (ha : PT X a tA) (hb : PW X (.BoolOp .Or (b :: rest) pos) tB') : PW X (.BoolOp .Or (a :: b :: rest) pos) (tOr tA tB') := by
  intro wh pins s σ H Q I h
  refine isTrue_or (thn (ha pins s σ H _ I h) fun c s1 ⟨H1, I1, q1⟩ => ?_)
  cases c with
  | true => exact ⟨H1, I1, q1⟩
  | false => exact hb wh pins s1 σ H1 Q I1 q1
theorem pt_not (ha : PT X a tA) : PT X (.UnaryOp .Not a pos) (tNot tA) := by
  intro pins s σ H Q I h
  exact isTrue_not (ha pins s σ H (fun c H1 => Q (!c) H1) I h)
/-- .. as values (bools) -/
noncomputable def tAndV (ta tb : TE) : TE := fun σ H Q => ta σ H fun x H1 => ∃ c, x = .bl c ∧ if c = true then tb σ H1 Q else Q (.bl false) H1
noncomputable def tNotV (ta : TE) : TE := fun σ H Q => ta σ H fun x H1 => ∃ c, x = .bl c ∧ Q (.bl (!c)) H1
theorem pe_one {op} {t : TE} (h : PE X a t) : PE X (.BoolOp op [a] pos) t := fun pins s σ H Q I hw => BoolOp_one (h pins s σ H Q I hw)
theorem pe_and (ha : PE X a ta) (hb : PE X (.BoolOp .And (b :: rest) pos) tb) : PE X (.BoolOp .And (a :: b :: rest) pos) (tAndV ta tb) := by
  intro pins s σ H Q I h
  refine BoolOp_and (thn (ha pins s σ H _ I h) fun v s1 ⟨x, H1, I1, r1, q1⟩ => ?_)
  obtain ⟨c, rfl, q1⟩ := q1
  cases r1
  refine wpAny_truthy_bool ?_
  cases c with
  | true => exact hb pins s1 σ H1 Q I1 q1
  | false => exact ⟨.bl false, H1, I1, rfl, q1⟩
theorem pe_not (ha : PE X a ta) : PE X (.UnaryOp .Not a pos) (tNotV ta) := by
  intro pins s σ H Q I h
  refine UnaryOp_ (thn (ha pins s σ H _ I h) fun v s1 ⟨x, H1, I1, r1, q1⟩ => ?_)
  obtain ⟨c, rfl, q1⟩ := q1
  cases r1
  exact not_of (wpAny_truthy_bool ⟨.bl (!c), H1, I1, rfl, q1⟩)
end
end L2
namespace L2
open PySem PySem.Spec PyProof.Rows
noncomputable def SqL (K : PySem.W.Frag) (H : Hp) (a : Addr) (xs : List V) : Prop :=
  Rd H a (.lst xs) ∨
    ∃ (o : Obj) (its : Array Value) (n : Nat), K.lookup a = some o ∧ o.cls = .type "list" ∧ o.dict = none ∧ o.data = .seq its n ∧ its.size ≤ sizeLine ∧ Vals xs its.toList
noncomputable def SqT (K : PySem.W.Frag) (H : Hp) (a : Addr) (xs : List V) : Prop :=
  Rd H a (.tup xs) ∨
    ∃ (o : Obj) (its : Array Value) (n : Nat), K.lookup a = some o ∧ o.cls = .type "tuple" ∧ o.data = .seq its n ∧ its.size ≤ sizeLine ∧ Vals xs its.toList
noncomputable def absV : Value → Option V
  | .none => some .non
  | .bool b => some (.bl b)
  | .int i _ => some (.int i)
  | .str x _ => some (.str x)
  | .bytes b _ => some (.byt b)
  | .float b _ => some (.flt b)
  | .ref a => some (.ref a)
  | .type n => some (.ty n)
  | _ => none
theorem RelV.abs {x : V} {u : Value} (r : RelV x u) : absV u = some x := by
  cases x with
  | non => cases r; rfl
  | bl _ => cases r; rfl
  | int _ => obtain ⟨t, rfl⟩ := r; rfl
  | str _ => obtain ⟨t, rfl⟩ := r; rfl
  | byt _ => obtain ⟨t, rfl⟩ := r; rfl
  | flt _ => obtain ⟨t, rfl⟩ := r; rfl
  | ref _ => cases r; rfl
  | ty _ => cases r; rfl
theorem RelV.inj {x y : V} {u : Value} (r : RelV x u) (q : RelV y u) : x = y := Option.some.inj (r.abs.symm.trans q.abs)
theorem Vals.inj : ∀ {xs ys : List V} {us : List Value}, Vals xs us → Vals ys us → xs = ys
  | _, _, _, .nil, .nil => rfl
  | _, _, _, .cons r t, .cons r' t' => by rw [r.inj r', Vals.inj t t']
section
variable {X : Cx} {pins : List (Addr × Obj)} {σ : St} {H : Hp} {s : Shared} {a : Addr} {xs ys : List V}
theorem SqL.of {K : PySem.W.Frag} (h : H a = some (.lst xs)) : SqL K H a xs := .inl (.inl h)
theorem SqT.of {K : PySem.W.Frag} (h : H a = some (.tup xs)) : SqT K H a xs := .inl (.inl h)
theorem Inv.list (I : Inv X pins σ H s) (h : SqL X.K H a xs) : ∃ its : List Value, Vals xs its ∧ PlainL s.heap a its.toArray ∧ xs.length ≤ sizeLine := by
  rcases h with h | ⟨o, its, n, hk, hc, hd, hs, hz, r⟩
  · obtain ⟨z, its, n, r, e⟩ := h.ok I.hok
    exact ⟨its, r, ⟨_, n, e, rfl, rfl, rfl⟩, z⟩
  · refine ⟨its.toList, r, ⟨o, n, I.kIn a o hk, hc, hd, by simpa using hs⟩, ?_⟩
    have e := r.length
    simp only [Array.length_toList] at e
    omega
theorem Inv.tuple (I : Inv X pins σ H s) (h : SqT X.K H a xs) : ∃ its : List Value, Vals xs its ∧ IsTup s.heap a its.toArray ∧ xs.length ≤ sizeLine := by
  rcases h with h | ⟨o, its, n, hk, hc, hs, hz, r⟩
  · obtain ⟨z, its, r, p⟩ := h.ok I.hok
    exact ⟨its, r, p, z⟩
  · refine ⟨its.toList, r, ⟨o, I.kIn a o hk, hc, n, by simpa using hs⟩, ?_⟩
    have e := r.length
    simp only [Array.length_toList] at e
    omega
theorem Inv.list_inj (I : Inv X pins σ H s) (h : SqL X.K H a xs) (h' : SqL X.K H a ys) : xs = ys := by
  obtain ⟨its, r, ⟨o, n, e, _, _, d⟩, _⟩ := I.list h
  obtain ⟨its', r', ⟨o', n', e', _, _, d'⟩, _⟩ := I.list h'
  rw [e] at e'; cases e'
  rw [d] at d'
  injection d' with d1 _
  have : its = its' := by simpa using congrArg Array.toList d1
  subst this
  exact r.inj r'
end
noncomputable abbrev Cx.wish (X : Cx) (E : Value → Shared → Prop) : Cx := { X with xe := E }
/-- no exception leaves -/
noncomputable abbrev Cx.nox (X : Cx) : Cx := X.wish fun _ _ => False
theorem Cx.Ok.wish {X : Cx} (ok : X.Ok) (E : Value → Shared → Prop) : (X.wish E).Ok :=
  ⟨ok.mod, ok.kind, ok.glob, ok.blt, ok.above, ok.inj, ok.has, ok.cab, ok.hd, ok.frames, ok.stk, ok.exf, ok.bs, ok.bsz, ok.noex, ok.exfs, ok.funs, ok.frf⟩
theorem Cx.Ok.unwish {X : Cx} {E : Value → Shared → Prop} (ok : (X.wish E).Ok) : X.Ok :=
  ⟨ok.mod, ok.kind, ok.glob, ok.blt, ok.above, ok.inj, ok.has, ok.cab, ok.hd, ok.frames, ok.stk, ok.exf, ok.bs, ok.bsz, ok.noex, ok.exfs, ok.funs, ok.frf⟩
section
variable {X : Cx} {pins : List (Addr × Obj)} {σ : St} {H : Hp} {s : Shared} {E : Value → Shared → Prop}
theorem Inv.wish (I : Inv X pins σ H s) (E : Value → Shared → Prop) : Inv (X.wish E) pins σ H s := ⟨I.ok.wish E, I.os, I.bare, I.base, I.loc, I.cell, I.free, I.freeC, I.pin, I.hok, I.len⟩
theorem Inv.unwish (I : Inv (X.wish E) pins σ H s) : Inv X pins σ H s := ⟨I.ok.unwish, I.os, I.bare, I.base, I.loc, I.cell, I.free, I.freeC, I.pin, I.hok, I.len⟩
theorem SP.unwish {D : Ends} {f : Flow} {s' : Shared} (h : SP (X.wish E) pins D f s') : SP X pins D f s' := by
  cases f with
  | next => obtain ⟨σ', H', I, q⟩ := h; exact ⟨σ', H', I.unwish, q⟩
  | brk => obtain ⟨σ', H', I, q⟩ := h; exact ⟨σ', H', I.unwish, q⟩
  | cont => obtain ⟨σ', H', I, q⟩ := h; exact ⟨σ', H', I.unwish, q⟩
  | ret u => obtain ⟨v, σ', H', I, r, q⟩ := h; exact ⟨v, σ', H', I.unwish, r, q⟩
theorem PSs.nox {st : List Stmt} {t : TS} (h : PSs X.nox st t) : PSs X st t := fun pins s σ H D I hw =>
  wpAny_mono (h pins s σ H D (I.wish _) hw) (fun _ _ q => q.unwish) fun _ _ z => False.elim z
end
section
variable {X : Cx} {st : Stmt} {rest : List Stmt} {t u : TS} {e : Expr} {te : TE} {pos : Pos}
noncomputable def tNext : TS := fun D σ H => D.nx σ H
noncomputable def tSeq (t u : TS) : TS := fun D σ H => t { D with nx := u D } σ H
theorem pss_nil : PSs X [] tNext := fun _ _ σ H _ I h => wpAny_execs_nil ⟨σ, H, I, h⟩
theorem pss_cons (h1 : PS X st t) (h2 : PSs X rest u) : PSs X (st :: rest) (tSeq t u) := by
  intro pins s σ H D I h
  refine wpAny_execs_cons (thn (h1 pins s σ H { D with nx := u D } I h) fun f s1 q => ?_)
  cases f with
  | next =>
    obtain ⟨σ', H', I', q⟩ := q
    exact h2 pins s1 σ' H' D I' q
  | ret v => exact q
  | brk => exact q
  | cont => exact q
theorem pss_one (h1 : PS X st t) : PSs X [st] t := by
  intro pins s σ H D I h
  refine wpAny_execs_cons (thn (h1 pins s σ H D I h) fun f s1 q => ?_)
  cases f with
  | next => exact wpAny_execs_nil q
  | ret v => exact q
  | brk => exact q
  | cont => exact q
/-- in a def's body nothing is shown -/
theorem Inv.quiet {pins : List (Addr × Obj)} {σ : St} {H : Hp} {s : Shared} (I : Inv X pins σ H s) : interactive X.env = false := by simp [interactive, I.ok.kind]
/-- an expression whose value is dropped -/
noncomputable def tDrop (te : TE) : TS := fun D σ H => te σ H fun _ H1 => D.nx σ H1
theorem ps_expr (he : PE X e te) (hs : swapsWith e none pos.line X.env = pure false := by rfl) : PS X (.Expr e pos) (tDrop te) := by
  intro pins s σ H D I h
  exact wpAny_Expr_any (thn (he pins s σ H _ I h) fun v s1 ⟨x, H1, I1, r1, q1⟩ => ⟨σ, H1, I1, q1⟩) I.quiet hs
noncomputable def tRet (te : TE) : TS := fun D σ H => te σ H D.rt
theorem ps_ret (he : PE X e te) : PS X (.Return (some e) pos) (tRet te) := by
  intro pins s σ H D I h
  exact wpAny_Return_some (thn (he pins s σ H _ I h) fun v s1 ⟨x, H1, I1, r1, q1⟩ => ⟨x, σ, H1, I1, r1, q1⟩)
noncomputable def tIfS (c : TT) (t u : TS) : TS := fun D σ H => c σ H fun b H1 => if b = true then t D σ H1 else u D σ H1
theorem ps_if {c : Expr} {a b : List Stmt} {tc : TT} (hc : PT X c tc) (ha : PSs X a t) (hb : PSs X b u) : PS X (.If c a b pos) (tIfS tc t u) := by
  intro pins s σ H D I h
  refine wpAny_If (thn (hc pins s σ H _ I h) fun d s1 ⟨H1, I1, q1⟩ => ?_)
  cases d with
  | true => exact ha pins s1 σ H1 D I1 q1
  | false => exact hb pins s1 σ H1 D I1 q1
end
noncomputable abbrev TG := V → St → Hp → (St → Hp → Prop) → Prop
noncomputable def PG (X : Cx) (target : Expr) (t : TG) : Prop :=
  ∀ (pins : List (Addr × Obj)) (s : Shared) (σ : St) (H : Hp) (v : V) (u : Value) (Q : St → Hp → Prop), Inv X pins σ H s → RelV v u → t v σ H Q →
    wpAny (model X.prog X.w) X.A (assign target X.env u) (fun _ s' => ∃ σ' H', Inv X pins σ' H' s' ∧ Q σ' H') X.xe s
section
variable {X : Cx} {pos : Pos}
noncomputable def gName (i : Nat) : TG := fun v σ H Q => Q (σ.set i (some v)) H
theorem pg_name {i : Nat} {x : Str} (hN : X.N.Nodup) (hi : X.N[i]? = some x) (hx : Loc X.env.scope x) (hf : X.fn x = true ∨ X.env.scope.names.lookup x = some .local := by first | exact .inl rfl | exact .inr rfl | assumption) : PG X (.Name x pos) (gName i) := by
  intro pins s σ H v u Q I r h
  exact wpAny_assign_Name (store_ok I hN hi hx r (fun s' I' => ⟨_, H, I', h⟩) hf)
/-- target = value -/
noncomputable def tAsg (te : TE) (g : TG) : TS := fun D σ H => te σ H fun x H1 => g x σ H1 D.nx
/-- name = value -/
theorem ps_set {i : Nat} {x : Str} {e : Expr} {te : TE} {pos' : Pos} (hN : X.N.Nodup) (hi : X.N[i]? = some x) (hx : Loc X.env.scope x) (he : PE X e te) (hs : swapsWith e (some (.Name x pos')) pos.line X.env = pure false := by rfl) (hf : X.fn x = true ∨ X.env.scope.names.lookup x = some .local := by first | exact .inl rfl | exact .inr rfl | assumption) :
    PS X (.Assign [.Name x pos'] e pos) (tAsg te (gName i)) := by
  intro pins s σ H D I h
  refine wpAny_Assign_Name (thn (he pins s σ H _ I h) fun v s1 ⟨y, H1, I1, r1, q1⟩ => ?_) hs
  exact store_ok I1 hN hi hx r1 (fun s2 I2 => ⟨_, H1, I2, q1⟩) hf
end
section
variable {X : Cx} {pos : Pos}
end
/-- at turn i: it yields x (the heap may grow), or it stops -/
structure It where
  go : Nat → Hp → Prop
  yld : Nat → Hp → V → Hp → Prop
  stop : Nat → Hp → Prop
/-- the iterator's own objects may turn: they are not the frame's, not pinned, younger than the entry (or a comprehension's own) -/
noncomputable def FpOk (X : Cx) (pins : List (Addr × Obj)) (H : Hp) (b : Addr) : Prop :=
  H b = none ∧ b ≠ X.env.locals ∧ b ∉ X.fs ∧ (b ∈ X.ex ∨ X.s₀.heap.objs.size ≤ b) ∧ (∀ x c, X.env.cells.lookup x = some c → c ≠ b) ∧ ∀ p ∈ X.pn ++ pins, p.1 ≠ b
theorem Inv.fpOk {X : Cx} {pins : List (Addr × Obj)} {σ : St} {H H' : Hp} {s : Shared} {b : Addr} (I : Inv X pins σ H s) (hb : s.heap.objs.size ≤ b) (hn : H' b = none) : FpOk X pins H' b := by
  refine ⟨hn, Nat.ne_of_gt (Nat.lt_of_lt_of_le I.lt hb), I.nofs hb, .inr (Nat.le_trans I.sz hb), fun x c e z => ?_, fun p hp z => ?_⟩
  · obtain ⟨v, q⟩ := I.cell x c e
    exact absurd (Nat.lt_of_lt_of_le q.lt (by rw [z]; exact hb)) (Nat.lt_irrefl _)
  · exact absurd (Nat.lt_of_lt_of_le (Heap.lt_size (I.pin p hp).1) (by rw [z]; exact hb)) (Nat.lt_irrefl _)
structure Turn (P : Program) (w : World) (K : PySem.W.Frag) (tg : Expr) (J : It) (fp : List Addr) (it : Addr) (tn : Nat → Heap → Prop) : Prop where
  mem : it ∈ fp
  obj : ∀ i h, tn i h → ∀ b ∈ fp, ∃ o, h.get? b = some o ∧ ∀ v, o.data ≠ .cell v
  keep : ∀ i h h', tn i h → (∀ b ∈ fp, ∀ o, h.get? b = some o → h'.get? b = some o) → tn i h'
  item : ∀ (X : Cx), X.prog = P → X.w = w → X.K = K → X.calm = true → ∀ (i : Nat) (pins : List (Addr × Obj)) (s : Shared) (σ : St) (H : Hp) (E : Value → Shared → Prop), Inv X pins σ H s → (∀ b ∈ fp, FpOk X pins H b) → tn i s.heap → J.go i H →
    wpAny (model P w) X.A (pyNext (.ref it)) (fun r s1 => ∃ u, r = some u ∧
      wpAny (model P w) X.A (letOwnedTupleGo tg (.ref it) u) (fun _ s2 => ∃ x H', Inv X pins σ H' s2 ∧ RelV x u ∧ J.yld i H x H' ∧ tn (i + 1) s2.heap ∧ ∀ b ∈ fp, H' b = none) E s1) E s
  done : ∀ (X : Cx), X.prog = P → X.w = w → X.K = K → X.calm = true → ∀ (i : Nat) (pins : List (Addr × Obj)) (s : Shared) (σ : St) (H : Hp) (E : Value → Shared → Prop), Inv X pins σ H s → (∀ b ∈ fp, FpOk X pins H b) → tn i s.heap → J.stop i H →
    wpAny (model P w) X.A (pyNext (.ref it)) (fun r s1 => r = none ∧ Inv X pins σ H s1) E s
  self : ∀ (A : Around) (i : Nat) (s : Shared) (Q : Value → Shared → Prop) (E : Value → Shared → Prop), tn i s.heap → Q (.ref it) s → wpAny (model P w) A (pyIter (.ref it)) Q E s
noncomputable abbrev TI := St → Hp → (It → Hp → Prop) → Prop
/-- an iterator has come -/
noncomputable def PIE (X : Cx) (pins : List (Addr × Obj)) (σ : St) (tg : Expr) (R : It → Hp → Prop) (itv : Value) (s2 : Shared) : Prop :=
  ∃ (it : Addr) (fp : List Addr) (tn : Nat → Heap → Prop) (J : It) (H' : Hp), itv = .ref it ∧ Inv X pins σ H' s2 ∧ Turn X.prog X.w X.K tg J fp it tn ∧ tn 0 s2.heap ∧ (∀ b ∈ fp, FpOk X pins H' b) ∧ R J H'
noncomputable def PI (X : Cx) (tg iter : Expr) (wi : TI) : Prop :=
  ∀ (pins : List (Addr × Obj)) (s : Shared) (σ : St) (H : Hp) (R : It → Hp → Prop), Inv X pins σ H s → wi σ H R →
    wpAny (model X.prog X.w) X.A (eval iter X.env) (fun v s1 => wpAny (model X.prog X.w) X.A (pyIter v) (PIE X pins σ tg R) X.xe s1) X.xe s
/-- the step ahead of the store is nothing for an iterator that keeps no tuple -/
theorem go_of {M : Model} {A : Around} {E : Value → Shared → Prop} {s : Shared} {tg : Expr} {it : Addr} {u : Value} {o : Obj} {n : String} {vs : Array Value} {Q : Unit → Shared → Prop} (ho : s.heap.get? it = some o) (hc : o.cls = .type n) (hd : o.data = .fields vs)
    (hn : ["enumerate", "zip", "dict_itemiterator", "dict_reverseitemiterator", "odict_iterator", "itertools.zip_longest", "itertools.pairwise"].contains n = false) (hQ : Q () s) : wpAny M A (letOwnedTupleGo tg (.ref it) u) Q E s := by
  unfold letOwnedTupleGo
  cases tg <;> first
    | exact wpAny_pure hQ
    | (cases u <;> first
        | exact wpAny_pure hQ
        | (refine wpAny_bind (wpAny_load ho ?_)
           rw [hc, hd]
           show wpAny M A (if (["enumerate", "zip", "dict_itemiterator", "dict_reverseitemiterator", "odict_iterator", "itertools.zip_longest", "itertools.pairwise"].contains n && vs[0]? == some (rawInt _)) = true then _ else _) Q E s
           rw [if_neg (by intro h; rw [hn, Bool.false_and] at h; cases h)]
           exact wpAny_pure hQ))
/-- the list at a, as it stands at each turn (a loop may append to it) -/
noncomputable def Itl (K : PySem.W.Frag) (a : Addr) : It :=
  ⟨fun i H => ∃ xs x, SqL K H a xs ∧ xs[i]? = some x, fun i H x H' => H' = H ∧ ∀ xs, SqL K H a xs → xs[i]? = some x, fun i H => ∃ xs, SqL K H a xs ∧ xs.length ≤ i⟩
/-- lo, lo + 1, .. (n of them) -/
noncomputable def Itr (lo : Int) (n : Nat) : It := ⟨fun i _ => i < n, fun i H x H' => H' = H ∧ x = .int (lo + i), fun i _ => n ≤ i⟩
theorem turn_list {P : Program} {w : World} {K : PySem.W.Frag} {tg : Expr} (a it : Addr) : Turn P w K tg (Itl K a) [it] it (fun i h => h.IsListIter it a i) where
  mem := by simp
  obj := fun i h st b hb => by
    have e : b = it := by simpa using hb
    subst e
    obtain ⟨o, e, c, d⟩ := st
    exact ⟨o, e, fun v z => by rw [d] at z; cases z⟩
  keep := fun i h h' st k => st.at fun o e => k it (by simp) o e
  item := by
    intro X hP hw hK hc i pins s σ H E I hf st hg
    subst hP hw hK
    obtain ⟨xs, x, hq, hx⟩ := hg
    obtain ⟨its, rv, p, hz⟩ := I.list hq
    obtain ⟨u, hu, ru⟩ := rv.get hx
    obtain ⟨f0, f1, f2, f3, f4, f5⟩ := hf it (by simp)
    refine wpAny_pyNext_list_item st p.isList (x := u) (by simpa using hu) fun h' st' sb => ?_
    have I1 : Inv X pins σ H { s with heap := h' } := I.turned (t' := s.toks) (fun b o hb e => (sb.2 b hb).trans e) f0 f1 f3 f4 f5
    obtain ⟨o, e, c, d⟩ := id st'
    exact ⟨u, rfl, go_of (s := { s with heap := h' }) e c d (by decide) ⟨x, H, I1, ru, ⟨rfl, fun ys hy => by rw [I.list_inj hy hq]; exact hx⟩, st', fun b hb => (hf b hb).1⟩⟩
  done := by
    intro X hP hw hK hc i pins s σ H E I hf st hg
    subst hP hw hK
    obtain ⟨xs, hq, hx⟩ := hg
    obtain ⟨its, rv, p, hz⟩ := I.list hq
    obtain ⟨f0, f1, f2, f3, f4, f5⟩ := hf it (by simp)
    have hl := rv.length
    exact wpAny_pyNext_list_end (I.ok.hd hc) st p.isList (by simp; omega) fun h' eb => ⟨rfl, I.turned (t' := s.toks) (fun b o hb e => eb b o hb e) f0 f1 f3 f4 f5⟩
  self := fun _ _ _ _ _ st h => wpAny_pyIter_listiter st h
theorem turn_range {P : Program} {w : World} {K : PySem.W.Frag} {tg : Expr} (it : Addr) (lo : Int) (n : Nat) : Turn P w K tg (Itr lo n) [it] it (fun i h => IsRangeIter h it (lo + (i : Nat) * 1) ((n : Int) - (i : Nat)) 1) where
  mem := by simp
  obj := fun i h st b hb => by
    have e : b = it := by simpa using hb
    subst e
    exact ⟨_, st, fun v z => by
      have z' : Data.fields _ = Data.cell v := z
      cases z'⟩
  keep := fun i h h' st k => k it (by simp) _ st
  item := by
    intro X hP hw hK hc i pins s σ H E I hf st hg
    subst hP hw hK
    obtain ⟨f0, f1, f2, f3, f4, f5⟩ := hf it (by simp)
    have W := Walks.range (prog := X.prog) (w := X.w) (I.ok.hd hc) it lo 1 n
    refine W.item i s _ _ hg st fun v h' tk hv st' kk => ?_
    obtain ⟨t, rfl⟩ := hv
    have I1 : Inv X pins σ H { s with heap := h', toks := tk } := I.turned (fun b o hb e => kk b o (by simpa using hb) e) f0 f1 f3 f4 f5
    refine ⟨_, rfl, go_of (s := { s with heap := h', toks := tk }) (n := "range_iterator") st' rfl rfl (by decide) ⟨.int (lo + i), H, I1, ⟨t, ?_⟩, ⟨rfl, rfl⟩, st', fun b hb => (hf b hb).1⟩⟩
    rw [Int.mul_one]
  done := by
    intro X hP hw hK hc i pins s σ H E I hf st hg
    subst hP hw hK
    obtain ⟨f0, f1, f2, f3, f4, f5⟩ := hf it (by simp)
    exact wpAny_pyNext_range_end (I.ok.hd hc) st (by have : n ≤ i := hg; omega) fun h' eb => ⟨rfl, I.turned (t' := s.toks) (fun b o hb e => eb b o hb e) f0 f1 f3 f4 f5⟩
  self := fun _ _ _ _ _ st h => wpAny_pyIter_rangeiter st h
end L2
namespace L2
open PySem PySem.Spec PyProof.Rows
section
variable {X : Cx} {tg : Expr}
noncomputable def iList (K : PySem.W.Frag) (tl : TE) : TI := fun σ H R => tl σ H fun x H1 => ∃ a, x = .ref a ∧ (∃ xs, SqL K H1 a xs) ∧ R (Itl K a) H1
theorem pi_list {l : Expr} {tl : TE} (hl : PE X l tl) : PI X tg l (iList X.K tl) := by
  intro pins s σ H R I h
  refine thn (hl pins s σ H _ I h) fun v s1 ⟨x, H1, I1, r1, q1⟩ => ?_
  obtain ⟨a, e, ⟨xs, hq⟩, q⟩ := q1
  subst e
  cases r1
  obtain ⟨its, rv, p, hz⟩ := I1.list hq
  refine wpAny_pyIter_list p.isList ?_
  refine ⟨s1.heap.objs.size, [s1.heap.objs.size], _, _, H1, rfl, I1.kept (t' := s1.toks) fun b o e => Heap.get?_push_of_some _ e, turn_list a _, ⟨_, Heap.get?_push_size _ rfl, rfl, rfl⟩, fun b hb => ?_, q⟩
  have e : b = s1.heap.objs.size := by simpa using hb
  subst e
  exact I1.fpOk (Nat.le_refl _) (I1.hok.fresh (Nat.le_refl _))
/-- a range object just made, walked -/
theorem range_it {pins : List (Addr × Obj)} {σ : St} {H : Hp} {s : Shared} {R : It → Hp → Prop} {E : Value → Shared → Prop} {lo hi : Int} {t u v : Tok} {tk : Nat} (I : Inv X pins σ H s) (h1 : -(2 ^ 62) ≤ lo) (h2 : lo < 2 ^ 62) (h3 : -(2 ^ 62) ≤ hi) (h4 : hi < 2 ^ 62)
    (q : R (Itr lo (hi - lo).toNat) H) : wpAny (model X.prog X.w) X.A (pyIter (.ref s.heap.objs.size)) (PIE X pins σ tg R) E { s with heap := s.heap.push { cls := .type "range", data := .fields #[.int lo t, .int hi u, .int 1 v] }, toks := tk } := by
  refine wpAny_pyIter_range (IsRange.new ..) (small_one h1 h2 h3 h4) ?_
  have I1 : Inv X pins σ H { s with heap := s.heap.push { cls := .type "range", data := .fields #[.int lo t, .int hi u, .int 1 v] }, toks := tk } := I.kept fun b o e => Heap.get?_push_of_some _ e
  refine ⟨(s.heap.push { cls := .type "range", data := .fields #[.int lo t, .int hi u, .int 1 v] }).objs.size, [(s.heap.push { cls := .type "range", data := .fields #[.int lo t, .int hi u, .int 1 v] }).objs.size], _, _, H, rfl,
    I1.kept (t' := tk) fun b o e => Heap.get?_push_of_some _ e, turn_range _ lo (hi - lo).toNat, ?_, fun b hb => ?_, q⟩
  · have e1 : lo + ((0 : Nat) : Int) * 1 = lo := by simp
    have e2 : (((hi - lo).toNat : Nat) : Int) - ((0 : Nat) : Int) = Builtin.Range.rangeSize lo hi 1 := by rw [rangeSize_one]; split <;> omega
    show IsRangeIter _ _ (lo + ((0 : Nat) : Int) * 1) ((((hi - lo).toNat : Nat) : Int) - ((0 : Nat) : Int)) 1
    rw [e1, e2]
    exact Heap.get?_push_size _ rfl
  · have e : b = (s.heap.push { cls := .type "range", data := .fields #[.int lo t, .int hi u, .int 1 v] }).objs.size := by simpa using hb
    subst e
    exact I1.fpOk (Nat.le_refl _) (I1.hok.fresh (Nat.le_refl _))
noncomputable def iRng1 (ta : TA) : TI := fun σ H R => ta σ H fun vs H1 => ∃ j : Int, vs = [.int j] ∧ -(2 ^ 62) ≤ j ∧ j < 2 ^ 62 ∧ R (Itr 0 j.toNat) H1
noncomputable def iRng2 (ta : TA) : TI := fun σ H R => ta σ H fun vs H1 => ∃ i j : Int, vs = [.int i, .int j] ∧ (-(2 ^ 62) ≤ i ∧ i < 2 ^ 62 ∧ -(2 ^ 62) ≤ j ∧ j < 2 ^ 62) ∧ R (Itr i (j - i).toNat) H1
theorem pi_range1 {a : Expr} {ta : TA} {p pos : Pos} (hg : Gl X "range") (hm : X.mg "range" = none) (ha : PA X [a] ta) (hs : starEach [a] X.env = [(false, eval a X.env)] := by rfl) : PI X tg (.Call (.Name "range" p) [a] [] pos) (iRng1 ta) := by
  intro pins s σ H R I h
  refine Call_ (ld_blt I hg hm boot_range (PyProof.Rows.callWith_type1 (thn (ha pos pins s σ H _ I h) fun us s1 ⟨vs, H1, I1, r1, q1⟩ => ?_) hs rfl))
  obtain ⟨j, e, q1, q2, q⟩ := q1
  subst e
  cases r1 with
  | cons r rr =>
    cases rr
    obtain ⟨t, rfl⟩ := r
    exact call_range_1 (range_it I1 (by omega) (by omega) q1 q2 (by simpa using q))
theorem pi_range2 {a b : Expr} {ta : TA} {p pos : Pos} (hg : Gl X "range") (hm : X.mg "range" = none) (ha : PA X [a, b] ta) (hs : starEach [a, b] X.env = [(false, eval a X.env), (false, eval b X.env)] := by rfl) (hs2 : starEach [b] X.env = [(false, eval b X.env)] := by rfl) :
    PI X tg (.Call (.Name "range" p) [a, b] [] pos) (iRng2 ta) := by
  intro pins s σ H R I h
  refine Call_ (ld_blt I hg hm boot_range (PyProof.Rows.callWith_type1 (thn (ha pos pins s σ H _ I h) fun us s1 ⟨vs, H1, I1, r1, q1⟩ => ?_) (by rw [hs, hs2]) (by rw [hs2]; rfl)))
  obtain ⟨i, j, e, ⟨q1, q2, q3, q4⟩, q⟩ := q1
  subst e
  cases r1 with
  | cons r rr =>
    cases rr with
    | cons r' rr =>
      cases rr
      obtain ⟨t, rfl⟩ := r
      obtain ⟨t', rfl⟩ := r'
      exact call_range_2 (range_it I1 q1 q2 q3 q4 q)
/-- W: the invariant by the turn and a measure; N: what the body is to reach -/
noncomputable def tFor (wi : TI) (g : TG) (tb : TS) : TS := fun D σ H => wi σ H fun J H1 => ∃ W : Nat → Nat → St → Hp → Prop, (∃ m, W 0 m σ H1) ∧ ∀ i m σ H, W i m σ H →
  (J.stop i H ∧ D.nx σ H) ∨ (J.go i H ∧ ∃ N : St → Hp → Prop, (∀ σ' H', N σ' H' → ∃ m', m' < m ∧ W (i + 1) m' σ' H') ∧ ∀ x H', J.yld i H x H' → g x σ H' fun σ2 H2 => tb { D with nx := N, ct := N, bk := D.nx } σ2 H2)
/-- the records at fp as they stand -/
noncomputable def pinsAt (fp : List Addr) (h : Heap) : List (Addr × Obj) := fp.filterMap fun b => (h.get? b).map fun o => (b, o)
theorem mem_pinsAt {fp : List Addr} {h : Heap} {b : Addr} {o : Obj} (hb : b ∈ fp) (e : h.get? b = some o) : (b, o) ∈ pinsAt fp h := List.mem_filterMap.mpr ⟨b, hb, by rw [e]; rfl⟩
theorem of_pinsAt {fp : List Addr} {h : Heap} {p : Addr × Obj} (hp : p ∈ pinsAt fp h) : p.1 ∈ fp ∧ h.get? p.1 = some p.2 := by
  obtain ⟨b, hb, e⟩ := List.mem_filterMap.mp hp
  cases q : h.get? b with
  | none => rw [q] at e; cases e
  | some o =>
    rw [q] at e
    have e' : (b, o) = p := Option.some.inj e
    subst e'
    exact ⟨hb, q⟩
theorem Inv.pinned {pins : List (Addr × Obj)} {σ : St} {H : Hp} {s : Shared} {fp : List Addr} (I : Inv X pins σ H s) (hf : ∀ b ∈ fp, FpOk X pins H b) (ho : ∀ b ∈ fp, ∃ o, s.heap.get? b = some o ∧ ∀ v, o.data ≠ .cell v) : Inv X (pins ++ pinsAt fp s.heap) σ H s :=
  I.pins_of fun p hp => (List.mem_append.mp hp).elim (fun z => I.pin p (List.mem_append_right _ z)) fun z => by
    obtain ⟨hb, e⟩ := of_pinsAt z
    obtain ⟨f0, f1, f2, _⟩ := hf p.1 hb
    obtain ⟨o, e', d⟩ := ho p.1 hb
    rw [e] at e'; cases e'
    exact ⟨e, f0, f1, f2, d⟩
theorem Inv.unpinned {pins pl : List (Addr × Obj)} {σ : St} {H : Hp} {s : Shared} (I : Inv X (pins ++ pl) σ H s) : Inv X pins σ H s := I.pins_of fun p hp => I.pin p (List.mem_append_right _ (List.mem_append_left _ hp))
theorem ps_for {iter : Expr} {body : List Stmt} {wi : TI} {g : TG} {tb : TS} {pos : Pos} (hp : PassesOwn (model X.prog X.w) X.A X.env X.xe) (hc : X.calm = true) (hi : PI X tg iter wi) (hg : PG X tg g) (hb : PSs X body tb)
    (hs : ∀ x, foldedSetIterable iter X.env x = pure x := by intro _; rfl) : PS X (.For tg iter body [] pos) (tFor wi g tb) := by
  intro pins s σ H D I h
  refine wpAny_For (thn (hi pins s σ H _ I h) fun v s1 h1 => thn h1 fun itv s2 h2 => ?_) hs
  obtain ⟨it, fp, tn, J, H2, e, I2, T, st2, f2, W, ⟨m0, w0⟩, turn⟩ := h2
  subst e
  -- what stays true of the iterator's objects through the loop
  have stat : ∀ {H' : Hp}, (∀ b ∈ fp, H' b = none) → ∀ b ∈ fp, FpOk X pins H' b := fun hn b hb => ⟨hn b hb, (f2 b hb).2⟩
  refine codeAny_forLoop_any (fun n s' => ∃ i σ' H', Inv X pins σ' H' s' ∧ tn i s'.heap ∧ (∀ b ∈ fp, H' b = none) ∧ W i n σ' H') ?_ m0 ⟨0, σ, H2, I2, st2, fun b hb => (f2 b hb).1, w0⟩
  rintro n s3 ⟨i, σ3, H3, I3, st3, fr3, w3⟩
  rcases turn i n σ3 H3 w3 with ⟨stop, qn⟩ | ⟨go, N, hN, step⟩
  · refine wpAny_passesOwn hp (thn (T.done X rfl rfl rfl hc i pins s3 σ3 H3 X.xe I3 (stat fr3) st3 stop) fun r s4 ⟨hr, I4⟩ => ?_)
    subst hr
    exact wpAny_execs_nil ⟨σ3, H3, I4, qn⟩
  · refine wpAny_passesOwn hp (thn (T.item X rfl rfl rfl hc i pins s3 σ3 H3 X.xe I3 (stat fr3) st3 go) fun r s4 ⟨u, hr, h4⟩ => ?_)
    subst hr
    refine wpAny_passesOwn hp (thn h4 fun _ s5 ⟨x, H5, I5, r5, y5, st5, fr5⟩ => ?_)
    have I5' := I5.pinned (stat fr5) (T.obj _ _ st5)
    refine wpAny_passesOwn hp (thn (hg _ s5 σ3 H5 x u _ I5' r5 (step x H5 y5)) fun _ s6 ⟨σ6, H6, I6, q6⟩ => ?_)
    refine wpAny_passesOwn hp (thn (hb _ s6 σ6 H6 _ I6 q6) fun f s7 q7 => ?_)
    have again : ∀ {σ7 : St} {H7 : Hp}, Inv X (pins ++ pinsAt fp s5.heap) σ7 H7 s7 → N σ7 H7 → ∃ m, m < n ∧ ∃ i σ' H', Inv X pins σ' H' s7 ∧ tn i s7.heap ∧ (∀ b ∈ fp, H' b = none) ∧ W i m σ' H' := fun {σ7 H7} I7 n7 => by
      obtain ⟨m', hm, w7⟩ := hN σ7 H7 n7
      refine ⟨m', hm, i + 1, σ7, H7, I7.unpinned, T.keep _ _ _ st5 fun b hb o e => (I7.pin (b, o) (List.mem_append_right _ (List.mem_append_right _ (mem_pinsAt hb e)))).1, fun b hb => ?_, w7⟩
      obtain ⟨o, e, d⟩ := T.obj _ _ st5 b hb
      exact (I7.pin (b, o) (List.mem_append_right _ (List.mem_append_right _ (mem_pinsAt hb e)))).2.1
    cases f with
    | next => obtain ⟨σ7, H7, I7, n7⟩ := q7; exact again I7 n7
    | cont => obtain ⟨σ7, H7, I7, n7⟩ := q7; exact again I7 n7
    | brk => obtain ⟨σ7, H7, I7, q7⟩ := q7; exact ⟨σ7, H7, I7.unpinned, q7⟩
    | ret v => obtain ⟨x7, σ7, H7, I7, r7, q7⟩ := q7; exact ⟨x7, σ7, H7, I7.unpinned, r7, q7⟩
end
/-- over a list that the body leaves as it is -/
theorem for_list {K : PySem.W.Frag} {a : Addr} {xs : List V} {g : TG} {tb : TS} {D : Ends} {σ : St} {H : Hp} (Pv : Nat → St → Hp → Prop) (h0 : Pv 0 σ H) (hl : ∀ i σ H, i ≤ xs.length → Pv i σ H → SqL K H a xs)
    (hs : ∀ i x σ H, xs[i]? = some x → Pv i σ H → g x σ H fun σ2 H2 => tb { D with nx := Pv (i + 1), ct := Pv (i + 1), bk := D.nx } σ2 H2) (hd : ∀ σ H, Pv xs.length σ H → D.nx σ H) :
    ∃ W : Nat → Nat → St → Hp → Prop, (∃ m, W 0 m σ H) ∧ ∀ i m σ H, W i m σ H →
      ((Itl K a).stop i H ∧ D.nx σ H) ∨ ((Itl K a).go i H ∧ ∃ N : St → Hp → Prop, (∀ σ' H', N σ' H' → ∃ m', m' < m ∧ W (i + 1) m' σ' H') ∧ ∀ x H', (Itl K a).yld i H x H' → g x σ H' fun σ2 H2 => tb { D with nx := N, ct := N, bk := D.nx } σ2 H2) := by
  refine ⟨fun i m σ H => m = xs.length - i ∧ i ≤ xs.length ∧ Pv i σ H, ⟨xs.length, by simp, Nat.zero_le _, h0⟩, ?_⟩
  rintro i m σ H ⟨rfl, hi, p⟩
  have q := hl i σ H hi p
  by_cases hlt : i < xs.length
  · refine .inr ⟨⟨xs, xs[i], q, by simp [hlt]⟩, Pv (i + 1), fun σ' H' p' => ⟨xs.length - (i + 1), by omega, rfl, hlt, p'⟩, fun x H' y => ?_⟩
    obtain ⟨e, y⟩ := y
    subst e
    exact hs i x σ _ (y xs q) p
  · have e : i = xs.length := by omega
    subst e
    exact .inl ⟨⟨xs, q, Nat.le_refl _⟩, hd σ H p⟩
theorem for_range {lo : Int} {n : Nat} {g : TG} {tb : TS} {D : Ends} {σ : St} {H : Hp} (Pv : Nat → St → Hp → Prop) (h0 : Pv 0 σ H)
    (hs : ∀ i σ H, i < n → Pv i σ H → g (.int (lo + i)) σ H fun σ2 H2 => tb { D with nx := Pv (i + 1), ct := Pv (i + 1), bk := D.nx } σ2 H2) (hd : ∀ σ H, Pv n σ H → D.nx σ H) :
    ∃ W : Nat → Nat → St → Hp → Prop, (∃ m, W 0 m σ H) ∧ ∀ i m σ H, W i m σ H →
      ((Itr lo n).stop i H ∧ D.nx σ H) ∨ ((Itr lo n).go i H ∧ ∃ N : St → Hp → Prop, (∀ σ' H', N σ' H' → ∃ m', m' < m ∧ W (i + 1) m' σ' H') ∧ ∀ x H', (Itr lo n).yld i H x H' → g x σ H' fun σ2 H2 => tb { D with nx := N, ct := N, bk := D.nx } σ2 H2) := by
  refine ⟨fun i m σ H => m = n - i ∧ i ≤ n ∧ Pv i σ H, ⟨n, by simp, Nat.zero_le _, h0⟩, ?_⟩
  rintro i m σ H ⟨rfl, hi, p⟩
  by_cases hlt : i < n
  · refine .inr ⟨hlt, Pv (i + 1), fun σ' H' p' => ⟨n - (i + 1), by omega, rfl, hlt, p'⟩, fun x H' y => ?_⟩
    obtain ⟨e, y⟩ := y
    subst e y
    exact hs i σ _ hlt p
  · have e : i = n := by omega
    subst e
    exact .inl ⟨Nat.le_refl _, hd σ H p⟩
end L2
namespace L2
open PySem PySem.Spec PyProof.Rows
noncomputable abbrev R2 := V → V → Hp → VK → Prop
/-- a two-place operation on values: f is binaryOp op, inplaceOp op or compareOp op -/
noncomputable def OpR (X : Cx) (f : Value → Value → Sem Value) (r : R2) : Prop :=
  ∀ (pins : List (Addr × Obj)) (s : Shared) (σ : St) (H : Hp) (x y : V) (v u : Value) (Q : VK), Inv X pins σ H s → RelV x v → RelV y u → r x y H Q →
    wpAny (model X.prog X.w) X.A (f v u) (EP X pins σ Q) X.xe s
/-- a one-place operation -/
noncomputable def UnR (X : Cx) (f : Value → Sem Value) (r : V → Hp → VK → Prop) : Prop :=
  ∀ (pins : List (Addr × Obj)) (s : Shared) (σ : St) (H : Hp) (x : V) (v : Value) (Q : VK), Inv X pins σ H s → RelV x v → r x H Q →
    wpAny (model X.prog X.w) X.A (f v) (EP X pins σ Q) X.xe s
/-- a call of a value that is known (a builtin, a type) with values -/
noncomputable def CallR (X : Cx) (f : Value) (r : List V → Hp → VK → Prop) : Prop :=
  ∀ (pins : List (Addr × Obj)) (s : Shared) (σ : St) (H : Hp) (xs : List V) (us : List Value) (Q : VK), Inv X pins σ H s → Vals xs us → r xs H Q →
    wpAny (model X.prog X.w) X.A (call f us) (EP X pins σ Q) X.xe s
noncomputable def tOp (r : R2) (ta tb : TE) : TE := fun σ H Q => ta σ H fun x H1 => tb σ H1 fun y H2 => r x y H2 Q
noncomputable def tUn (r : V → Hp → VK → Prop) (ta : TE) : TE := fun σ H Q => ta σ H fun x H1 => r x H1 Q
/-- ints in, under C, and a value out -/
noncomputable def rI (C : Int → Int → Prop) (g : Int → Int → V) : R2 := fun x y H Q => ∃ i j, x = .int i ∧ y = .int j ∧ C i j ∧ Q (g i j) H
noncomputable def rI0 (g : Int → Int → V) : R2 := fun x y H Q => ∃ i j, x = .int i ∧ y = .int j ∧ Q (g i j) H
noncomputable def rU (g : Int → V) : V → Hp → VK → Prop := fun x H Q => ∃ i, x = .int i ∧ Q (g i) H
section
variable {X : Cx} {a b c : Expr} {ta tb tc : TE} {pos : Pos}
theorem binT (ha : PE X a ta) (hb : PE X b tb) {pins : List (Addr × Obj)} {s : Shared} {σ : St} {H : Hp} {R : V → V → Hp → Prop} (I : Inv X pins σ H s)
    (h : ta σ H fun x H1 => tb σ H1 fun y H2 => R x y H2) {Q : Value → Shared → Prop} {f : Value → Value → Sem Value}
    (hf : ∀ v u s2 x y H2, Inv X pins σ H2 s2 → RelV x v → RelV y u → R x y H2 → wpAny (model X.prog X.w) X.A (f v u) Q X.xe s2) :
    wpAny (model X.prog X.w) X.A (eval a X.env) (fun v s₁ => wpAny (model X.prog X.w) X.A (eval b X.env) (fun u s₂ => wpAny (model X.prog X.w) X.A (f v u) Q X.xe s₂) X.xe s₁) X.xe s := by
  refine thn (ha pins s σ H _ I h) fun v s1 ⟨x, H1, I1, r1, q1⟩ => ?_
  refine thn (hb pins s1 σ H1 _ I1 q1) fun u s2 ⟨y, H2, I2, r2, q2⟩ => ?_
  exact hf v u s2 x y H2 I2 r1 r2 q2
theorem pe_op {op : Operator} {r : R2} (ho : OpR X (binaryOp op) r) (ha : PE X a ta) (hb : PE X b tb) : PE X (.BinOp a op b pos) (tOp r ta tb) := by
  intro pins s σ H Q I h
  exact wpAny_BinOp (binT ha hb I h fun v u s2 x y H2 I2 rx ry q => ho pins s2 σ H2 x y v u Q I2 rx ry q)
theorem pe_un {op : UnaryOp} {r : V → Hp → VK → Prop} (ho : UnR X (unaryOp op) r) (ha : PE X a ta) : PE X (.UnaryOp op a pos) (tUn r ta) := by
  intro pins s σ H Q I h
  exact UnaryOp_ (thn (ha pins s σ H _ I h) fun v s1 ⟨x, H1, I1, r1, q1⟩ => ho pins s1 σ H1 x v Q I1 r1 q1)
theorem opI {f : Value → Value → Sem Value} {C : Int → Int → Prop} {g : Int → Int → Int}
    (rule : ∀ (i j : Int) (t u : Tok) (s : Shared) (Q : Value → Shared → Prop) (E : Value → Shared → Prop), C i j → Q (.int (g i j) s.toks) { s with toks := s.toks + 1 } → wpAny (model X.prog X.w) X.A (f (.int i t) (.int j u)) Q E s) :
    OpR X f (rI C fun i j => .int (g i j)) := by
  intro pins s σ H x y v u Q I rx ry h
  obtain ⟨i, j, rfl, rfl, hc, q⟩ := h
  obtain ⟨t, rfl⟩ := rx
  obtain ⟨t', rfl⟩ := ry
  exact rule i j t t' s _ _ hc ⟨.int (g i j), H, I.tok _, ⟨_, rfl⟩, q⟩
theorem opI0 {f : Value → Value → Sem Value} {g : Int → Int → Int}
    (rule : ∀ (i j : Int) (t u : Tok) (s : Shared) (Q : Value → Shared → Prop) (E : Value → Shared → Prop), Q (.int (g i j) s.toks) { s with toks := s.toks + 1 } → wpAny (model X.prog X.w) X.A (f (.int i t) (.int j u)) Q E s) :
    OpR X f (rI0 fun i j => .int (g i j)) := by
  intro pins s σ H x y v u Q I rx ry h
  obtain ⟨i, j, rfl, rfl, q⟩ := h
  obtain ⟨t, rfl⟩ := rx
  obtain ⟨t', rfl⟩ := ry
  exact rule i j t t' s _ _ ⟨.int (g i j), H, I.tok _, ⟨_, rfl⟩, q⟩
theorem opB0 {f : Value → Value → Sem Value} {g : Int → Int → Bool}
    (rule : ∀ (i j : Int) (t u : Tok) (s : Shared) (Q : Value → Shared → Prop) (E : Value → Shared → Prop), Q (.bool (g i j)) s → wpAny (model X.prog X.w) X.A (f (.int i t) (.int j u)) Q E s) :
    OpR X f (rI0 fun i j => .bl (g i j)) := by
  intro pins s σ H x y v u Q I rx ry h
  obtain ⟨i, j, rfl, rfl, q⟩ := h
  obtain ⟨t, rfl⟩ := rx
  obtain ⟨t', rfl⟩ := ry
  exact rule i j t t' s _ _ ⟨.bl (g i j), H, I, rfl, q⟩
noncomputable def CDiv (i j : Int) : Prop := 0 < j ∧ j < 1073741824
theorem op_add : OpR X (binaryOp .Add) (rI0 fun i j => .int (i + j)) := opI0 fun _ _ _ _ _ _ _ q => add_int q
theorem op_sub : OpR X (binaryOp .Sub) (rI0 fun i j => .int (i - j)) := opI0 fun _ _ _ _ _ _ _ q => sub_int q
/-- // by a positive divisor -/
theorem op_fdiv : OpR X (binaryOp .FloorDiv) (rI CDiv fun i j => .int (i / j)) := opI fun i j _ _ _ _ _ hc q => by
  have h1 : (0 : Int) < j := hc.1
  have h2 : j < 1073741824 := hc.2
  exact floordiv_int (by omega) (by rw [Int.fdiv_eq_ediv_of_nonneg i (by omega)]; exact q) (.inl (PyProof.noPylong_small (by omega)))
/-- % by a positive divisor of any size -/
theorem op_mod : OpR X (binaryOp .Mod) (rI (fun _ j => 0 < j) fun i j => .int (i % j)) := opI fun i j _ _ _ _ _ hc q => by
  have h1 : (0 : Int) < j := hc
  exact mod_int' (by omega) (by rw [Int.fmod_eq_emod_of_nonneg i (by omega)]; exact q)
theorem unI {f : Value → Sem Value} {g : Int → Int}
    (rule : ∀ (i : Int) (t : Tok) (s : Shared) (Q : Value → Shared → Prop) (E : Value → Shared → Prop), Q (.int (g i) s.toks) { s with toks := s.toks + 1 } → wpAny (model X.prog X.w) X.A (f (.int i t)) Q E s) :
    UnR X f (rU fun i => .int (g i)) := by
  intro pins s σ H x v Q I rx h
  obtain ⟨i, rfl, q⟩ := h
  obtain ⟨t, rfl⟩ := rx
  exact rule i t s _ _ ⟨.int (g i), H, I.tok _, ⟨_, rfl⟩, q⟩
theorem un_neg : UnR X (unaryOp .USub) (rU fun i => .int (-i)) := unI fun _ _ _ _ _ q => neg_int q
end
/-- the scalars that == tells apart as data does -/
noncomputable def scal : V → V → Bool
  | .non, .non => true | .non, .int _ => true | .int _, .non => true | .non, .bl _ => true | .bl _, .non => true | .non, .str _ => true | .str _, .non => true
  | .int _, .int _ => true | .bl _, .bl _ => true | .str _, .str _ => true | .byt _, .byt _ => true
  | .int _, .str _ => true | .str _, .int _ => true | .bl _, .str _ => true | .str _, .bl _ => true
  | _, _ => false
noncomputable def rEq : R2 := fun x y H Q => scal x y = true ∧ Q (.bl (decide (x = y))) H
noncomputable def rNe : R2 := fun x y H Q => scal x y = true ∧ Q (.bl (!decide (x = y))) H
theorem dec_int {i j : Int} : decide (V.int i = V.int j) = (i == j) := by
  rw [Bool.eq_iff_iff]
  simp
theorem dec_bl {i j : Bool} : decide (V.bl i = V.bl j) = (i == j) := by
  rw [Bool.eq_iff_iff]
  simp
theorem dec_str {i j : Str} : decide (V.str i = V.str j) = (i == j) := by
  rw [Bool.eq_iff_iff]
  simp
theorem dec_byt {i j : Array UInt8} : decide (V.byt i = V.byt j) = (i.toList == j.toList) := by
  rw [Bool.eq_iff_iff]
  cases i
  cases j
  simp
section
variable {X : Cx} {a b c : Expr} {ta tb tc : TE} {pos : Pos}
theorem fin_bl {pins : List (Addr × Obj)} {σ : St} {H : Hp} {s : Shared} {Q : VK} {k k' : Bool} (I : Inv X pins σ H s) (q : Q (.bl k) H) (e : k = k') : EP X pins σ Q (.bool k') s := by
  subst e
  exact ⟨.bl k, H, I, rfl, q⟩
theorem op_eq : OpR X (compareOp .Eq) rEq := by
  intro pins s σ H x y v u Q I rx ry h
  obtain ⟨hs, q⟩ := h
  cases x with
  | non =>
    cases rx
    cases y with
    | non => cases ry; exact PySem.EqNone.eq_none_none (fin_bl I q (by simp))
    | bl j => cases ry; exact PySem.EqNone.eq_none_bool (fin_bl I q (by simp))
    | int j => obtain ⟨t', rfl⟩ := ry; exact PySem.EqNone.eq_none_int (fin_bl I q (by simp))
    | str j => obtain ⟨t', rfl⟩ := ry; exact PySem.EqNone.eq_none_str (fin_bl I q (by simp))
    | _ => exact absurd (show false = true from hs) Bool.false_ne_true
  | bl i =>
    cases rx
    cases y with
    | non => cases ry; exact PySem.EqNone.eq_bool_none (fin_bl I q (by simp))
    | bl j => cases ry; exact eq_bool (fin_bl I q dec_bl)
    | str j => obtain ⟨t', rfl⟩ := ry; exact PySem.EqMixed.eq_bool_str (fin_bl I q (by simp))
    | _ => exact absurd (show false = true from hs) Bool.false_ne_true
  | int i =>
    obtain ⟨t, rfl⟩ := rx
    cases y with
    | non => cases ry; exact PySem.EqNone.eq_int_none (fin_bl I q (by simp))
    | int j => obtain ⟨t', rfl⟩ := ry; exact eq_int (fin_bl I q dec_int)
    | str j => obtain ⟨t', rfl⟩ := ry; exact PySem.EqMixed.eq_int_str (fin_bl I q (by simp))
    | _ => exact absurd (show false = true from hs) Bool.false_ne_true
  | str i =>
    obtain ⟨t, rfl⟩ := rx
    cases y with
    | non => cases ry; exact PySem.EqNone.eq_str_none (fin_bl I q (by simp))
    | bl j => cases ry; exact PySem.EqMixed.eq_str_bool (fin_bl I q (by simp))
    | int j => obtain ⟨t', rfl⟩ := ry; exact PySem.EqMixed.eq_str_int (fin_bl I q (by simp))
    | str j => obtain ⟨t', rfl⟩ := ry; exact eq_str (fin_bl I q dec_str)
    | _ => exact absurd (show false = true from hs) Bool.false_ne_true
  | byt i =>
    obtain ⟨t, rfl⟩ := rx
    cases y with
    | byt j => obtain ⟨t', rfl⟩ := ry; exact PySem.W.eq_bytes (fin_bl I q dec_byt)
    | _ => exact absurd (show false = true from hs) Bool.false_ne_true
  | _ => cases y <;> exact absurd (show false = true from hs) Bool.false_ne_true
theorem op_ne : OpR X (compareOp .NotEq) rNe := by
  intro pins s σ H x y v u Q I rx ry h
  obtain ⟨hs, q⟩ := h
  cases x with
  | non =>
    cases rx
    cases y with
    | non => cases ry; exact PySem.EqNone.ne_none_none (fin_bl I q (by simp))
    | bl j => cases ry; exact PySem.EqNone.ne_none_bool (fin_bl I q (by simp))
    | int j => obtain ⟨t', rfl⟩ := ry; exact PySem.EqNone.ne_none_int (fin_bl I q (by simp))
    | str j => obtain ⟨t', rfl⟩ := ry; exact PySem.EqNone.ne_none_str (fin_bl I q (by simp))
    | _ => exact absurd (show false = true from hs) Bool.false_ne_true
  | bl i =>
    cases rx
    cases y with
    | non => cases ry; exact PySem.EqNone.ne_bool_none (fin_bl I q (by simp))
    | bl j => cases ry; exact ne_bool (fin_bl I q (congrArg not dec_bl))
    | str j => obtain ⟨t', rfl⟩ := ry; exact PySem.EqMixed.ne_bool_str (fin_bl I q (by simp))
    | _ => exact absurd (show false = true from hs) Bool.false_ne_true
  | int i =>
    obtain ⟨t, rfl⟩ := rx
    cases y with
    | non => cases ry; exact PySem.EqNone.ne_int_none (fin_bl I q (by simp))
    | int j => obtain ⟨t', rfl⟩ := ry; exact ne_int (fin_bl I q (congrArg not dec_int))
    | str j => obtain ⟨t', rfl⟩ := ry; exact PySem.EqMixed.ne_int_str (fin_bl I q (by simp))
    | _ => exact absurd (show false = true from hs) Bool.false_ne_true
  | str i =>
    obtain ⟨t, rfl⟩ := rx
    cases y with
    | non => cases ry; exact PySem.EqNone.ne_str_none (fin_bl I q (by simp))
    | bl j => cases ry; exact PySem.EqMixed.ne_str_bool (fin_bl I q (by simp))
    | int j => obtain ⟨t', rfl⟩ := ry; exact PySem.EqMixed.ne_str_int (fin_bl I q (by simp))
    | str j => obtain ⟨t', rfl⟩ := ry; exact ne_str (fin_bl I q (congrArg not dec_str))
    | _ => exact absurd (show false = true from hs) Bool.false_ne_true
  | byt i =>
    obtain ⟨t, rfl⟩ := rx
    cases y with
    | byt j => obtain ⟨t', rfl⟩ := ry; exact PySem.W.ne_bytes (fin_bl I q (congrArg not dec_byt))
    | _ => exact absurd (show false = true from hs) Bool.false_ne_true
  | _ => cases y <;> exact absurd (show false = true from hs) Bool.false_ne_true
theorem op_lt : OpR X (compareOp .Lt) (rI0 fun i j => .bl (decide (i < j))) := opB0 fun _ _ _ _ _ _ _ q => lt_int q
theorem op_gt : OpR X (compareOp .Gt) (rI0 fun i j => .bl (decide (j < i))) := opB0 fun _ _ _ _ _ _ _ q => gt_int q
/-- is None, is not None: the right side a value none -/
theorem op_isN : OpR X (compareOp .Is) (fun x y H Q => y = .non ∧ Q (.bl (decide (x = .non))) H) := by
  intro pins s σ H x y v u Q I rx ry h
  obtain ⟨rfl, q⟩ := h
  cases ry
  refine is_none_gen (fin_bl I q ?_)
  cases x <;> first
    | (cases rx; rfl)
    | (obtain ⟨t, rfl⟩ := rx; rfl)
theorem op_notin_str : OpR X (compareOp .NotIn) (fun x y H Q => ∃ i j, x = .str i ∧ y = .str j ∧ Q (.bl (!(!(Builtin.Str.occurrences j i 0 j.length 1).isEmpty))) H) := by
  intro pins s σ H x y v u Q I rx ry h
  obtain ⟨i, j, rfl, rfl, q⟩ := h
  obtain ⟨t, rfl⟩ := rx
  obtain ⟨t', rfl⟩ := ry
  exact notIn_str (fin_bl I q rfl)
theorem nomark (b : Expr) {op : CmpOp} (h : op ≠ .In := by decide) (h2 : op ≠ .NotIn := by decide) : behindInMarks op b = false := by
  have e1 : (op == CmpOp.In) = false := by cases op <;> first | rfl | exact absurd rfl h
  have e2 : (op == CmpOp.NotIn) = false := by cases op <;> first | rfl | exact absurd rfl h2
  cases b <;> simp [behindInMarks, e1, e2]
/-- a comparison as a value; hm: nomark b, or (for in, not in) by with_unfolding_all rfl -/
theorem pe_cmpR {op : CmpOp} {r : R2} (ho : OpR X (compareOp op) r) (ha : PE X a ta) (hb : PE X b tb) (hm : behindInMarks op b = false) : PE X (.Compare a [op] [b] pos) (tOp r ta tb) := by
  intro pins s σ H Q I h
  exact wpAny_Compare1 (binT ha hb I h fun v u s2 x y H2 I2 rx ry q => ho pins s2 σ H2 x y v u Q I2 rx ry q) hm
/-- a reading of a value as a test -/
noncomputable def tTest (t : TE) : TT := fun σ H Q => t σ H fun x H' => ∃ k, x = .bl k ∧ Q k H'
theorem pt_cmpR {op : CmpOp} {r : R2} (ho : OpR X (compareOp op) r) (ha : PE X a ta) (hb : PE X b tb) (hm : behindInMarks op b = false) : PT X (.Compare a [op] [b] pos) (tTest (tOp r ta tb)) := by
  intro pins s σ H Q I h
  refine wpAny_isTrue_Compare1 (thn (ha pins s σ H _ I h) fun v s1 ⟨x, H1, I1, r1, q1⟩ => thn (hb pins s1 σ H1 _ I1 q1) fun u s2 ⟨y, H2, I2, r2, q2⟩ =>
    thn (ho pins s2 σ H2 x y v u _ I2 r1 r2 q2) fun c s3 ⟨z, H3, I3, r3, k, e, q3⟩ => ?_) hm
  subst e
  cases r3
  exact wpAny_truthy_bool ⟨H3, I3, q3⟩
theorem line63 : (sizeLine : Nat) < 2 ^ 63 := by rw [sizeLine_eq]; decide
theorem vals1 {x : V} {us : List Value} (r : Vals [x] us) : ∃ u, us = [u] ∧ RelV x u := by
  cases r with
  | cons r1 r2 => cases r2; exact ⟨_, rfl, r1⟩
theorem vals2 {x y : V} {us : List Value} (r : Vals [x, y] us) : ∃ u w', us = [u, w'] ∧ RelV x u ∧ RelV y w' := by
  cases r with
  | cons r1 r2 =>
    cases r2 with
    | cons r3 r4 => cases r4; exact ⟨_, _, rfl, r1, r3⟩
theorem call_max2 (hc : X.calm = true) : CallR X (.builtin "max") (fun xs H Q => ∃ i j, xs = [.int i, .int j] ∧ Q (.int (if j > i then j else i)) H) := by
  intro pins s σ H xs us Q I r h
  obtain ⟨i, j, rfl, q⟩ := h
  obtain ⟨u, w', rfl, ⟨t, rfl⟩, ⟨t', rfl⟩⟩ := vals2 r
  refine max_two_ints (I.ok.hd hc) fun h' tk k => ⟨_, H, I.kept k, ?_, q⟩
  by_cases hj : j > i
  · rw [if_pos hj, if_pos hj]; exact ⟨_, rfl⟩
  · rw [if_neg hj, if_neg hj]; exact ⟨_, rfl⟩
end
end L2
namespace L2
open PySem PySem.Spec PyProof.Rows
structure ObjM (h : Heap) (x dx C : Addr) (mA : Str → Option Value) : Prop where
  obj : h.get? x = some (PySem.W.instObj C dx)
  ns : h.Ns1 dx mA
  ne : dx ≠ x
theorem lookIn_ns {h : Heap} {dx : Addr} {mA : Str → Option Value} (n : h.Ns1 dx mA) : ∃ od, h.get? dx = some od ∧ ∀ name, PySem.W.lookIn name od = some (mA name) := by
  obtain ⟨o, es, ep, ho, hd, hk, _, hm⟩ := n
  refine ⟨o, ho, fun name => ?_⟩
  have e := hm name
  unfold nsFind findBy at e
  rw [← Array.find?_toList] at e
  unfold PySem.W.lookIn
  rw [hd]
  dsimp only
  split
  · rename_i y q
    rw [q] at e
    exact congrArg some e
  · rename_i q
    rw [q] at e
    have a : es.toList.any (·.refKey) = false := by
      rw [List.any_eq_false]
      intro y hy
      obtain ⟨z, t, hkey⟩ := hk y (Array.mem_toList_iff.mp hy)
      simp [DictEntry.refKey, hkey]
    have a' : ¬ es.toList.any (·.refKey) = true := by rw [a]; exact Bool.false_ne_true
    rw [if_neg a']
    exact congrArg some e
theorem ObjM.look {h : Heap} {x dx C : Addr} {mA : Str → Option Value} (I : ObjM h x dx C mA) : ∃ od, PySem.W.InstAt h x (PySem.W.instObj C dx) C (some od) ∧ ∀ name, PySem.W.lookIn name od = some (mA name) :=
  let ⟨od, ho, hl⟩ := lookIn_ns I.ns
  ⟨od, ⟨I.obj, rfl, rfl, ho⟩, hl⟩
section
variable {prog : Program} {w : World} {A : Around} {E : Value → Shared → Prop} {s : Shared} {K : PySem.W.Frag} {x dx C f : Addr} {mA : Str → Option Value} {name : Str} {v : Value}
end
section
variable {P : Program} {w : World} {H H' : Hp} {h h' : Heap} {a C dx : Addr} {fs fs' : List (Str × V)}
theorem ins_get (hok : HOk P w H h) (e : H a = some (.ins C dx fs)) : ∃ mA, ObjM h a dx C mA ∧ (∀ f, RelO (fs.lookup f) (mA f)) ∧ PySem.Within mA (fs.map (·.1)) ∧ fs.length ≤ 1000 ∧ H dx = some (.own a) := by
  obtain ⟨d, z, ne, ob, mA, n, r, q⟩ := (show ObjOk P w H h a (.ins C dx fs) from hok a _ e)
  exact ⟨mA, ⟨ob, n, ne⟩, r, q, z, d⟩
end
structure Cls (K : PySem.W.Frag) (C : Addr) : Prop where
  pg : PySem.W.plainGet K C Str.empty = true
  hd : PySem.W.hasDictIn K C = true
  po : PySem.W.plainOver K C = true
  sa : PySem.W.findIn K (.ref C) "__setattr__" = some (some (.builtin "object.__setattr__"))
theorem Cls.get {K : PySem.W.Frag} {C : Addr} (c : Cls K C) (f : Str) : PySem.W.plainGet K C f = true := c.pg
section
variable {X : Cx} {pins : List (Addr × Obj)} {σ : St} {H : Hp} {s : Shared} {a C dx : Addr} {fs : List (Str × V)} {f : Str} {v : V} {A : Around} {E : Value → Shared → Prop}
end
section
variable {X : Cx} {o e value : Expr} {f : Str} {pos pos' tpos : Pos} {ta tv : TE}
end
section
variable {X : Cx} {pins : List (Addr × Obj)} {σ : St} {H : Hp} {s : Shared} {A : Around} {E : Value → Shared → Prop} {Q : Value → Shared → Prop} {c : Value} {b : Bool}
/-- the type of a value, as the fragment's deciders take it; for an instance its class -/
inductive TyOf (K : PySem.W.Frag) (H : Hp) : V → Value → Prop where
  | non : TyOf K H .non (.type "NoneType")
  | bl (x : Bool) : TyOf K H (.bl x) (.type "bool")
  | int (i : Int) : TyOf K H (.int i) (.type "int")
  | str (x : Str) : TyOf K H (.str x) (.type "str")
  | flt (x : UInt64) : TyOf K H (.flt x) (.type "float")
  | lst {a : Addr} {xs : List V} (e : H a = some (.lst xs)) : TyOf K H (.ref a) (.type "list")
  | frz {a : Addr} {o : Obj} {xs : List V} (e : H a = some (.frz o (.lst xs))) : TyOf K H (.ref a) (.type "list")
  | tup {a : Addr} {xs : List V} (e : H a = some (.tup xs)) : TyOf K H (.ref a) (.type "tuple")
  | dK {a : Addr} {kvs : List (Key × V)} (e : H a = some (.dK kvs)) : TyOf K H (.ref a) (.type "dict")
  | dT {a : Addr} {kvs : List (List Key × V)} (e : H a = some (.dT kvs)) : TyOf K H (.ref a) (.type "dict")
  | ins {a C dx : Addr} {fs : List (Str × V)} (e : H a = some (.ins C dx fs)) (cl : Cls K C) (ha : PySem.W.findIn K (.ref C) "__class__" = some (some (.builtin "object.__class__")))
      (hn : PySem.W.specialIn K (.builtin "object.__class__") "__get__" = some (some (.builtin "getset_descriptor.__get__"))) (htk : PySem.W.takesIn K (.builtin "object.__class__") = some true)
      (hm : PySem.W.mroIn K C (.type "object") = some true) : TyOf K H (.ref a) (.ref C)
/-- isinstance(x, c) for one class c, a built-in or an own one: kitOne's answer -/
theorem isinst_ok {x : V} {u t : Value} (I : Inv X pins σ H s) (rx : RelV x u) (ty : TyOf X.K H x t) (e : PySem.W.kitOne X.K t c = some b) (h : ∀ tk, Q (.bool b) { s with toks := tk }) :
    wpAny (model X.prog X.w) A (call (.builtin "isinstance") [u, c]) Q E s := by
  cases ty with
  | non => cases (show u = Value.none from rx); exact PySem.W.kia_one PySem.W.kitx_none I.kIn True.intro e (fun z => nomatch z) h
  | bl y => cases (show u = Value.bool y from rx); exact PySem.W.kia_one PySem.W.kitx_bool I.kIn True.intro e (fun z => nomatch z) h
  | int i => obtain ⟨t, q⟩ := (show ∃ t, u = Value.int i t from rx); cases q; exact PySem.W.kia_one PySem.W.kitx_int I.kIn True.intro e (fun z => nomatch z) h
  | str y => obtain ⟨t, q⟩ := (show ∃ t, u = Value.str y t from rx); cases q; exact PySem.W.kia_one PySem.W.kitx_str I.kIn True.intro e (fun z => nomatch z) h
  | flt y => obtain ⟨t, q⟩ := (show ∃ t, u = Value.float y t from rx); cases q; exact PySem.W.kia_one PySem.W.kitx_float I.kIn True.intro e (fun z => nomatch z) h
  | @lst a xs ea =>
    cases (show u = Value.ref a from rx)
    obtain ⟨_, _, n, _, h1⟩ := (show ObjOk X.prog X.w H s.heap a (.lst xs) from I.hok a _ ea)
    exact PySem.W.kia_one PySem.W.kitx_list I.kIn ⟨_, h1, rfl⟩ e (fun z => nomatch z) h
  | @frz a ob xs ea =>
    cases (show u = Value.ref a from rx)
    obtain ⟨_, _, _, n, _, h1⟩ := (show ObjOk X.prog X.w H s.heap a (.frz ob (.lst xs)) from I.hok a _ ea)
    exact PySem.W.kia_one PySem.W.kitx_list I.kIn ⟨_, h1, rfl⟩ e (fun z => nomatch z) h
  | @tup a xs ea =>
    cases (show u = Value.ref a from rx)
    obtain ⟨_, _, _, p⟩ := (show ObjOk X.prog X.w H s.heap a (.tup xs) from I.hok a _ ea)
    obtain ⟨o, h1, h2, _⟩ := p
    exact PySem.W.kia_one PySem.W.kitx_tuple I.kIn ⟨o, h1, h2⟩ e (fun z => nomatch z) h
  | @dK a kvs ea =>
    cases (show u = Value.ref a from rx)
    obtain ⟨_, _, vs, _, p⟩ := (show ObjOk X.prog X.w H s.heap a (.dK kvs) from I.hok a _ ea)
    obtain ⟨o, es, ep, h1, h2, _⟩ := p
    exact PySem.W.kia_one PySem.W.kitx_dict I.kIn ⟨o, h1, h2.1⟩ e (fun z => nomatch z) h
  | @dT a kvs ea =>
    cases (show u = Value.ref a from rx)
    obtain ⟨_, _, xs, _, o, es, ep, h1, h2, _⟩ := (show ObjOk X.prog X.w H s.heap a (.dT kvs) from I.hok a _ ea)
    exact PySem.W.kia_one PySem.W.kitx_dict I.kIn ⟨o, h1, h2.1⟩ e (fun z => nomatch z) h
  | @ins a C dx fs ea cl ha hn htk hm =>
    cases (show u = Value.ref a from rx)
    obtain ⟨mA, O, _⟩ := ins_get I.hok ea
    obtain ⟨od, J, _⟩ := O.look
    exact PySem.W.kia_one (PySem.W.kitx_own (cl.get _) cl.hd ha hn htk hm) I.kIn J e (fun z => nomatch z) h
end
end L2
namespace L2
open PySem PySem.Spec PyProof.Rows
structure Room (k : Nat) (A : Around) : Prop where
  hd : A.handled = none
  dp : A.depth + 3 * k + 5 < recursionLimit
  un : A.units + 16 * k + 200 < cLine
theorem Room.mono {j k : Nat} {A : Around} (r : Room k A) (h : j ≤ k) : Room j A := ⟨r.hd, by have := r.dp; omega, by have := r.un; omega⟩
theorem Room.deeper {k : Nat} {A : Around} (r : Room (k + 1) A) (env : Env) : Room k (A.deeper env) :=
  ⟨r.hd, by have := r.dp; show A.depth + 1 + 3 * k + 5 < _; omega, by have := r.un; show A.units + 3 + 16 * k + 200 < _; omega⟩
theorem Room.depth {k : Nat} {A : Around} (r : Room k A) : A.depth < recursionLimit := by have := r.dp; omega
theorem Room.units {k : Nat} {A : Around} (r : Room k A) : A.units + 64 < cLine := by have := r.un; omega
noncomputable def tNil : TA := fun _ H Q => Q [] H
noncomputable def tCons (ta : TE) (tr : TA) : TA := fun σ H Q => ta σ H fun x H1 => tr σ H1 fun xs H2 => Q (x :: xs) H2
section
variable {X : Cx} {e : Expr} {es : List Expr} {te : TE} {t : TA} {pos : Pos}
theorem pa_nil : PA X [] tNil := fun _ _ _ _ H Q I h => Calls.spliced_nil ⟨[], H, I, .nil, h⟩
theorem pa_cons (ha : PE X e te) (hr : PA X es t) (hs : starEach (e :: es) X.env = (false, eval e X.env) :: starEach es X.env := by rfl) : PA X (e :: es) (tCons te t) := by
  intro pos pins s σ H Q I h
  rw [hs]
  show wpAny _ _ (spliced ((false, eval e X.env) :: backTo pos (starEach es X.env))) _ _ s
  refine Calls.spliced_cons (thn (ha pins s σ H _ I h) fun u s1 ⟨x, H1, I1, r1, q1⟩ => ?_)
  exact thn (hr pos pins s1 σ H1 _ I1 q1) fun us s2 ⟨xs, H2, I2, r2, q2⟩ => ⟨x :: xs, H2, I2, .cons r1 r2, q2⟩
/-- a tuple, a list of written items -/
noncomputable def tTup (t : TA) : TE := fun σ H Q => t σ H fun xs H1 => xs.length ≤ sizeLine ∧ ∀ p, H1 p = none → Q (.ref p) (upd H1 p (.tup xs))
noncomputable def tLst (t : TA) : TE := fun σ H Q => t σ H fun xs H1 => xs.length ≤ sizeLine ∧ ∀ p, H1 p = none → Q (.ref p) (upd H1 p (.lst xs))
theorem pe_tup {x1} (h : PA X es t) : PE X (.Tuple es x1 pos) (tTup t) := by
  intro pins s σ H Q I hq
  refine wpAny_Tuple_spliced (thn (h pos pins s σ H _ I hq) fun us s1 ⟨xs, H1, I1, r, z, q⟩ => ⟨by rw [← r.length]; exact z, ?_⟩)
  have hf : H1 s1.heap.objs.size = none := I1.hok.fresh (Nat.le_refl _)
  refine ⟨.ref s1.heap.objs.size, upd H1 s1.heap.objs.size (.tup xs), I1.laid (t' := s1.toks) (fun b u e => Heap.get?_push_of_some _ e) (Nat.le_refl _) ?_, rfl, q _ hf⟩
  exact ⟨z, us, r, ⟨_, Heap.get?_push_size _ rfl, rfl, _, rfl⟩⟩
theorem pe_lst (h : PA X es t) : PE X (.List es pos) (tLst t) := by
  intro pins s σ H Q I hq
  refine wpAny_List_spliced (thn (h pos pins s σ H _ I hq) fun us s1 ⟨xs, H1, I1, r, z, q⟩ => ⟨by rw [← r.length]; exact z, ?_⟩)
  have hf : H1 s1.heap.objs.size = none := I1.hok.fresh (Nat.le_refl _)
  refine ⟨.ref s1.heap.objs.size, upd H1 s1.heap.objs.size (.lst xs), I1.laid (t' := s1.toks) (fun b u e => Heap.get?_push_of_some _ e) (Nat.le_refl _) ?_, rfl, q _ hf⟩
  exact ⟨z, us, 0, r, Heap.get?_push_size _ rfl⟩
end
/-- a def's promise: the bound arguments in the parameters' order, the heap, the wanted end, the wanted exception -/
noncomputable abbrev Sp := List V → Hp → VK → XK → Prop
/-- how an exception lies behind a call (file 08 gives it): the callers' frames, abstract heap and state ahead of the call, the wish, the exception, the state -/
noncomputable abbrev CXT := List Env → Hp → Shared → XK → Value → Shared → Prop
/-- the state at a call -/
structure Env0 (P : Program) (w : World) (K : PySem.W.Frag) (mg : Str → Option Value) (base : Heap) (A : Around) (outer : List Env) (s : Shared) (H : Hp) : Prop where
  frames : A.frames = some outer
  mod : Mod K mg base
  bs : ∀ b o, base.get? b = some o → s.heap.get? b = some o ∧ H b = none
  bsz : base.objs.size ≤ s.heap.objs.size
  funs : s.heap.FunFrames base outer
  frf : ∀ b ∈ frs outer, H b = none
  hok : HOk P w H s.heap
  bare : AllBare s.gens
/-- a call's end -/
noncomputable def CE (outer : List Env) (P : Program) (w : World) (H : Hp) (s : Shared) (Q : VK) (u : Value) (s' : Shared) : Prop :=
  ∃ v H', s'.os = s.os ∧ AllBare s'.gens ∧ Un (frs outer) [] H H' s.heap s'.heap ∧ HOk P w H' s'.heap ∧ RelV v u ∧ Q v H'
noncomputable def CR (CX : CXT) (outer : List Env) (P : Program) (w : World) (H : Hp) (s : Shared) (Q : VK) (E : XK) (r : Result) (s' : Shared) : Prop :=
  match r with
  | .ok (.ret u) => CE outer P w H s Q u s'
  | .ok _ => False
  | .error e => CX outer H s E e s'
structure FnOk (P : Program) (w : World) (K : PySem.W.Frag) (mg : Str → Option Value) (base : Heap) (CX : CXT) (k : Nat) (f : Addr) (fd : FuncData) (ps : List Str) (sp : Sp) : Prop where
  len : ∀ vs H Q E, sp vs H Q E → vs.length = ps.length
  run : ∀ (A : Around) (outer : List Env) (s : Shared) (H : Hp) (args : Args) (us : List Value) (vs : List V) (Q : VK) (E : XK), Room k A → Env0 P w K mg base A outer s H → BindsTo s fd args (ps.zip us) → Vals vs us → sp vs H Q E →
    codeAny (model P w) A (.call (.ref f) args) (CR CX outer P w H s Q E) s
section
variable {X : Cx} {pins : List (Addr × Obj)} {σ : St} {H : Hp} {s s' : Shared}
/-- from a body: what a callee wants -/
theorem Inv.env0 (I : Inv X pins σ H s) : Env0 X.prog X.w X.K X.mg X.base X.A X.stack s H :=
  ⟨I.ok.frames, I.ok.mod, I.bs, Nat.le_trans I.ok.bsz I.sz, I.stack, I.stkFree, I.hok, I.bare⟩
/-- behind a call -/
theorem Inv.after {Q : VK} {u : Value} (I : Inv X pins σ H s) (h : CE X.stack X.prog X.w H s Q u s') : EP X pins σ Q u s' := by
  obtain ⟨v, H', os, bare, un, hok, r, q⟩ := h
  obtain ⟨hh, g, d, t, os'⟩ := s'
  obtain rfl : os' = s.os := os
  exact ⟨v, H', I.call (h' := hh) (g' := g) (d' := d) (t' := t) (ch := []) un hok bare (fun b z => absurd z (by simp)), r, q⟩
end
/-- f(..): the written arguments, then the defaults dvs; E: what is wanted of an exception -/
noncomputable def tCall (sp : Sp) (dvs : List V) (E : XK) (t : TA) : TE := fun σ H Q => t σ H fun vs H1 => sp (vs ++ dvs) H1 Q E
/-- how the parameters are bound: us the positional arguments, kw the keywords' values by name, ds the defaults that fill up -/
noncomputable def Binds (K : PySem.W.Frag) (fd : FuncData) (ps : List Str) (ds : List Value) : Prop :=
  ∀ (s : Shared) (us : List Value), K.In s.heap → (us ++ ds).length = ps.length → BindsTo s fd ⟨us, []⟩ (ps.zip (us ++ ds))
/-- every parameter is given -/
theorem Binds.all {K : PySem.W.Frag} {fd : FuncData} {ps : List Str} (h : ∀ us : List Value, us.length = ps.length → bindArgs fd ⟨us, []⟩ = pure (ps.zip us)) : Binds K fd ps [] := fun s us _ hl => by
  rw [List.append_nil] at hl ⊢
  exact .of_eq (h us hl)
/-- an exception of a callee reaches what this body wants of exceptions -/
noncomputable def Passes (CX : CXT) (X : Cx) (E : XK) : Prop := ∀ (pins : List (Addr × Obj)) (σ : St) (H : Hp) (s : Shared) (e : Value) (s' : Shared), Inv X pins σ H s → CX X.stack H s E e s' → X.xe e s'
section
variable {X : Cx} {CX : CXT} {k : Nat} {f C : Addr} {fd : FuncData} {ps : List Str} {sp : Sp} {dvs : List V} {ds : List Value} {E : XK} {x m : Str} {p pos apos : Pos} {e o : Expr} {es : List Expr} {ta : TE} {t : TA}
/-- the callee runs -/
theorem run_fn {pins : List (Addr × Obj)} {σ : St} {H : Hp} {s : Shared} {Q : VK} {us : List Value} {vs : List V} (F : FnOk X.prog X.w X.K X.mg X.base CX k f fd ps sp) (hr : Room k X.A) (hb : Binds X.K fd ps ds) (hd : Vals dvs ds) (hx : Passes CX X E)
    (I : Inv X pins σ H s) (r : Vals vs us) (h : sp (vs ++ dvs) H Q E) : wpAny (model X.prog X.w) X.A (call (.ref f) us) (EP X pins σ Q) X.xe s := by
  have r2 : Vals (vs ++ dvs) (us ++ ds) := r.append hd
  have hl : (us ++ ds).length = ps.length := by rw [← r2.length]; exact F.len _ _ _ _ h
  refine wpAny_call (codeAny_mono (F.run X.A X.stack s H ⟨us, []⟩ (us ++ ds) (vs ++ dvs) Q E hr I.env0 (hb s us I.kIn hl) r2 h) fun r s' hq => ?_)
  cases r with
  | error e => exact hx pins σ H s e s' I hq
  | ok fl =>
    cases fl with
    | ret u => exact I.after hq
    | next => exact False.elim hq
    | brk => exact False.elim hq
    | cont => exact False.elim hq
theorem pe_call (F : FnOk X.prog X.w X.K X.mg X.base CX k f fd ps sp) (hr : Room k X.A) (hg : Gl X x) (hm : X.mg x = some (.ref f)) (hk : PySem.W.keepIn X.K (.ref f) = true) (hb : Binds X.K fd ps ds) (hd : Vals dvs ds) (hx : Passes CX X E)
    (ha : PA X (e :: es) t) (hdb : (x == ("__debug__" : Str)) = false := by decide) (he : starEach (e :: es) X.env = (false, eval e X.env) :: starEach es X.env := by rfl) (hpl : (backTo pos (starEach es X.env)).any (·.1) = false := by rfl) :
    PE X (.Call (.Name x p) (e :: es) [] pos) (tCall sp dvs E t) := by
  intro pins s σ H Q I h
  refine wpAny_Call_Name_kw (ld_glob I hg hm ?_ hdb)
  refine PySem.W.callWith_K (h₀ := X.base) I.ok.mod.kin hk (thn (ha pos pins s σ H _ I h) fun us s1 ⟨vs, H1, I1, r, q⟩ => ⟨I1.kIn, ?_⟩) he hpl
  exact run_fn F hr hb hd hx I1 r q
end
section
variable {X : Cx} {CX : CXT} {k : Nat} {f C : Addr} {fd : FuncData} {ps ks : List Str} {sp : Sp} {E : XK} {x m : Str} {p pos apos kpos : Pos} {e o : Expr} {es : List Expr} {kws : List Keyword} {te ta : TE} {t tk : TA} {nm : Option Str}
variable {g : List Value → List Value → List Value} {gV : List V → List V → List V}
end
/-- names: the parameters first -/
structure FnScope (N P : List Str) (sc : Scope) : Prop where
  kind : sc.kind = .function
  co : sc.isCoroutine = false
  gen : sc.isGenerator = false
  nd : N.Nodup
  pre : N.take P.length = P
  par : ∀ x ∈ P, sc.names.lookup x = some .local ∨ sc.names.lookup x = some .cell
  nofree : ∀ y ∈ sc.names, y.2 ≠ .free
theorem bindL_out {kindOf : Str → Option NameKind} {x : Str} : ∀ {binds : List (Str × Value)} {m : Str → Option Value}, (∀ v, (x, v) ∉ binds) → bindL kindOf binds m x = m x
  | [], _, _ => rfl
  | (n, v) :: r, m, h => by
    unfold bindL
    rw [bindL_out fun w hw => h w (List.mem_cons_of_mem _ hw)]
    split
    · have : x ≠ n := by rintro rfl; exact h v List.mem_cons_self
      simp [this]
    · rfl
theorem bindC_out {kindOf : Str → Option NameKind} {x : Str} : ∀ {binds : List (Str × Value)} {m : Str → Option Value}, (∀ v, (x, v) ∉ binds) → bindC kindOf binds m x = m x
  | [], _, _ => rfl
  | (n, v) :: r, m, h => by
    unfold bindC
    rw [bindC_out fun w hw => h w (List.mem_cons_of_mem _ hw)]
    split
    · rfl
    · have : x ≠ n := by rintro rfl; exact h v List.mem_cons_self
      simp [this]
theorem bindL_get {kindOf : Str → Option NameKind} {x : Str} {v : Value} : ∀ {P : List Str} {vs : List Value} {i : Nat} {m : Str → Option Value}, P.Nodup → P[i]? = some x → vs[i]? = some v → kindOf x = some .local →
    bindL kindOf (P.zip vs) m x = some v
  | [], _, _, _, _, h, _, _ => by simp at h
  | _ :: _, [], _, _, _, _, h, _ => by simp at h
  | p :: P, w :: vs, 0, m, nd, h1, h2, hk => by
    simp at h1 h2; subst h1; subst h2
    show bindL kindOf ((p, w) :: P.zip vs) m p = _
    unfold bindL
    rw [bindL_out fun v hv => (List.nodup_cons.mp nd).1 (List.of_mem_zip hv).1, if_pos hk]
    simp
  | p :: P, w :: vs, i + 1, m, nd, h1, h2, hk => by
    show bindL kindOf ((p, w) :: P.zip vs) m x = _
    unfold bindL
    exact bindL_get (i := i) (List.nodup_cons.mp nd).2 (by simpa using h1) (by simpa using h2) hk
theorem bindC_get {kindOf : Str → Option NameKind} {x : Str} {v : Value} : ∀ {P : List Str} {vs : List Value} {i : Nat} {m : Str → Option Value}, P.Nodup → P[i]? = some x → vs[i]? = some v → kindOf x ≠ some .local →
    bindC kindOf (P.zip vs) m x = some v
  | [], _, _, _, _, h, _, _ => by simp at h
  | _ :: _, [], _, _, _, _, h, _ => by simp at h
  | p :: P, w :: vs, 0, m, nd, h1, h2, hk => by
    simp at h1 h2; subst h1; subst h2
    show bindC kindOf ((p, w) :: P.zip vs) m p = _
    unfold bindC
    rw [bindC_out fun v hv => (List.nodup_cons.mp nd).1 (List.of_mem_zip hv).1, if_neg hk]
    simp
  | p :: P, w :: vs, i + 1, m, nd, h1, h2, hk => by
    show bindC kindOf ((p, w) :: P.zip vs) m x = _
    unfold bindC
    exact bindC_get (i := i) (List.nodup_cons.mp nd).2 (by simpa using h1) (by simpa using h2) hk
/-- the names' values at the entry -/
noncomputable def start (N : List Str) (vs : List V) : St := vs.map some ++ List.replicate (N.length - vs.length) none
/-- the context of a def's body, at its entry; an exception leaves the frame, then lies as CX says -/
noncomputable def cxOf (CX : CXT) (P : Program) (w : World) (K : PySem.W.Frag) (mg : Str → Option Value) (base : Heap) (N : List Str) (qual : Str) (scope : Scope) (f : Addr) (cd : Value) (A : Around) (outer : List Env) (s : Shared) (H : Hp) (E : XK) : Cx where
  prog := P
  w := w
  K := K
  mg := mg
  base := base
  A := A.deeper (envOfC qual scope s.heap.objs.size f cd)
  N := N
  s₀ := s
  H₀ := H
  env := envOfC qual scope s.heap.objs.size f cd
  outer := outer
  stack := envOfC qual scope s.heap.objs.size f cd :: outer
  ex := []
  calm := true
  fn := fun _ => true
  pn := []
  xe := fun e s' => wpAny (model P w) (A.deeper (envOfC qual scope s.heap.objs.size f cd)) (leaving (envOfC qual scope s.heap.objs.size f cd) e) (fun _ s'' => CX outer H s E e s'') (fun e' s'' => CX outer H s E e' s'') s'
theorem cell_has {sc : Scope} {n : Nat} {x : Str} (h : sc.names.lookup x = some .cell) : ∃ c, (cellsFrom n sc.names []).lookup x = some c := by
  have q := PySem.W.cellsFrom_some sc.names n [] (.inl h)
  exact Option.isSome_iff_exists.mp q
theorem inv_start {CX : CXT} {P : Program} {w : World} {K : PySem.W.Frag} {mg : Str → Option Value} {base : Heap} {N ps : List Str} {qual : Str} {scope : Scope} {f : Addr} {cd : Value} {A : Around} {outer : List Env} {s s1 : Shared} {H : Hp} {E : XK} {us : List Value} {vs : List V}
    (S : FnScope N ps scope) (hd : A.handled = none) (e0 : Env0 P w K mg base A outer s H) (hl : vs.length = ps.length) (r : Vals vs us)
    (x : InCallC s s.heap.objs.size (bindL (envOfC qual scope s.heap.objs.size f cd).kindOf (ps.zip us) fun _ => none) (cellsFrom (s.heap.objs.size + 1) scope.names []) (bindC (envOfC qual scope s.heap.objs.size f cd).kindOf (ps.zip us) fun _ => none) s1) :
    Inv (cxOf CX P w K mg base N qual scope f cd A outer s H E) [] (start N vs) H s1 := by
  have hpl : ps.length ≤ N.length := by have := congrArg List.length S.pre; rw [List.length_take] at this; omega
  obtain ⟨h1, tk, rfl, hk⟩ := x.done
  have noA : ∀ b : Addr, b ∉ (cxOf CX P w K mg base N qual scope f cd A outer s H E).ex := fun b z => absurd (show b ∈ ([] : List Addr) from z) (by simp)
  refine ⟨⟨e0.mod, S.kind, rfl, rfl, Nat.le_refl _, fun y z c h1 h2 => ?_, fun y hy => ?_, fun y c _ h => ?_, fun _ => hd, Around.frames_deeper e0.frames, .inr ⟨rfl, rfl⟩, fun b z => absurd z (noA b), e0.bs, e0.bsz, fun b _ _ => noA b, fun b z => absurd z (noA b), e0.funs, e0.frf⟩,
    rfl, e0.bare, Un.kept hk, ⟨_, x.toInCall.ns, fun i y v h1 h2 h3 => ?_⟩, fun y c h => ⟨_, x.cell y c h⟩, e0.hok.fresh (Nat.le_refl _), fun y c h => ?_, fun p hp => absurd (show p ∈ ([] : List (Addr × Obj)) from hp) (by simp), e0.hok.kept hk, ?_⟩
  · exact name_of_addr x.apart (PySem.mem_of_lookup h1) (PySem.mem_of_lookup h2)
  · have hy : scope.names.lookup y = some .cell ∨ scope.names.lookup y = some .free := hy
    rcases hy with hy | hy
    · exact cell_has hy
    · exact absurd rfl (S.nofree _ (PySem.mem_of_lookup hy))
  · exact Nat.le_of_lt (x.above y c (PySem.mem_of_lookup h))
  · have hi : i < vs.length := by
      unfold start at h2
      by_cases hi : i < vs.length
      · exact hi
      · rw [List.getElem?_append_right (by simpa using hi)] at h2
        rw [List.getElem?_replicate] at h2
        split at h2 <;> cases h2
    have ha : vs[i]? = some v := by
      unfold start at h2
      rw [List.getElem?_append_left (by simpa using hi), List.getElem?_map] at h2
      cases e : vs[i]? with
      | none => rw [e] at h2; cases h2
      | some a => rw [e] at h2; cases h2; rfl
    obtain ⟨u, hu, rv⟩ := r.get ha
    have hp : ps[i]? = some y := by
      rw [← S.pre, List.getElem?_take_of_lt (by omega)]; exact h1
    have ndP : ps.Nodup := by rw [← S.pre]; exact S.nd.sublist (List.take_sublist _ _)
    refine ⟨u, rv, ?_⟩
    rcases S.par y (List.mem_of_getElem? hp) with k | k
    · exact .inl ⟨k, bindL_get ndP hp hu k⟩
    · obtain ⟨c, e⟩ := cell_has (n := s.heap.objs.size + 1) k
      refine .inr ⟨.inl k, c, e, ?_⟩
      have q := x.cell y c e
      rw [bindC_get ndP hp hu (by show scope.names.lookup y ≠ _; rw [k]; decide)] at q
      exact q
  · exact e0.hok.fresh (Nat.le_of_lt (x.above y c (PySem.mem_of_lookup h)))
  · unfold start
    show _ = N.length
    rw [List.length_append, List.length_map, List.length_replicate]
    omega
/-- THE RULE: a def (or a method) of the text, by its body. The body's reading t is chosen for each entry; it is run at the parameters' values -/
theorem fn_of {CX : CXT} {P : Program} {w : World} {K : PySem.W.Frag} {mg : Str → Option Value} {base : Heap} {k : Nat} {f : Addr} {name qual : Str} {params : Arguments} {body : List Stmt} {scope : Scope} {dV kV doc pm cdv ct oc : Value} {an od : Option Addr}
    {osl : Array (Option Value)} {N ps : List Str} {sp : Sp} (lk : K.lookup f = some ⟨oc, od, .func (PySem.W.fnOf name qual params body scope dV kV doc pm an cdv ct), osl⟩) (hcd : PySem.W.codeIn K cdv qual = true) (S : FnScope N ps scope)
    (len : ∀ vs H Q E, sp vs H Q E → vs.length = ps.length)
    (hbody : ∀ (A : Around) (outer : List Env) (s : Shared) (H : Hp) (vs : List V) (Q : VK) (E : XK), Room k (A.deeper (envOfC qual scope s.heap.objs.size f cdv)) → sp vs H Q E →
      ∃ t, PSs (cxOf CX P w K mg base N qual scope f cdv A outer s H E) body t ∧ t { nx := fun _ H' => Q .non H', rt := Q } (start N vs) H) :
    FnOk P w K mg base CX (k + 1) f (PySem.W.fnOf name qual params body scope dV kV doc pm an cdv ct) ps sp := by
  refine ⟨len, fun A outer s H args us vs Q E hr e0 hb r hsp => ?_⟩
  have hl := len _ _ _ _ hsp
  have KX : K.In s.heap := e0.mod.kin.keeps fun b o e => (e0.bs b o e).1
  have lim : s.heap.NoLimit := e0.mod.nolimit.keeps fun b o e => (e0.bs b o e).1
  have hkind : ∀ y ∈ ps.zip us, scope.names.lookup y.1 = some .local ∨ (scope.names.lookup y.1 = some .cell ∧ ((cellsFrom (s.heap.objs.size + 1) scope.names []).lookup y.1).isSome = true) := fun ⟨n, v⟩ hy => by
    rcases S.par n (List.of_mem_zip hy).1 with q | q
    · exact .inl q
    · exact .inr ⟨q, PySem.W.cellsFrom_some _ _ _ (.inl q)⟩
  refine codeAny_call_function hr.depth (KX _ _ lk) rfl S.co S.gen rfl (PySem.W.codeRec_of KX hcd) (hb _ _ _ _ ?_)
  refine wpAny_newFunctionEnv_cells S.kind hkind fun env he s1 x => ?_
  subst he
  refine ⟨lim.keeps x.toInCall.keep, codeAny_func ?_⟩
  obtain ⟨t, ht, hq⟩ := hbody A outer s H vs Q E (hr.deeper _) hsp
  have I : Inv (cxOf CX P w K mg base N qual scope f cdv A outer s H E) [] (start N vs) H s1 := inv_start S hr.hd e0 hl r x
  refine wpAny_mono (ht [] s1 (start N vs) H _ I hq) (fun fl s' hs => ?_) fun e s' hs => hs
  have fin : ∀ {σ' : St} {H' : Hp} {v : V} {u : Value}, Inv (cxOf CX P w K mg base N qual scope f cdv A outer s H E) [] σ' H' s' → RelV v u → Q v H' → CE outer P w H s Q u s' :=
    fun {σ' H' v u} J rv q => ⟨v, H', J.os, J.bare, J.base, J.hok, rv, q⟩
  cases fl with
  | ret u =>
    obtain ⟨v, σ', H', J, rv, q⟩ := hs
    exact fin J rv q
  | next =>
    obtain ⟨σ', H', J, q⟩ := hs
    exact fin (v := V.non) (u := Value.none) J rfl q
  | brk =>
    obtain ⟨_, _, _, q⟩ := hs
    exact False.elim q
  | cont =>
    obtain ⟨_, _, _, q⟩ := hs
    exact False.elim q
end L2
namespace L2
open PySem PySem.Spec PyProof.Rows
section
variable {X : Cx} {x : Str} {p pos : Pos} {e : Expr} {es : List Expr} {t : TA} {id T : String} {r : List V → Hp → VK → Prop}
noncomputable def tCB (r : List V → Hp → VK → Prop) (t : TA) : TE := fun σ H Q => t σ H fun vs H1 => r vs H1 Q
/-- f(e, ..), f a built-in function -/
theorem pe_callB (hc : CallR X (.builtin id) r) (hg : Gl X x) (hm : X.mg x = none) (hv : bootBuiltins x = some (.builtin id)) (ha : PA X (e :: es) t) (hn : x ≠ "__name__" := by decide) (hdb : (x == ("__debug__" : Str)) = false := by decide)
    (he : starEach (e :: es) X.env = (false, eval e X.env) :: starEach es X.env := by rfl) (hpl : (backTo pos (starEach es X.env)).any (·.1) = false := by rfl) : PE X (.Call (.Name x p) (e :: es) [] pos) (tCB r t) := by
  intro pins s σ H Q I h
  refine wpAny_Call_Name_kw (ld_blt I hg hm hv ?_ hn hdb)
  exact PyProof.Rows.callWith_builtin1 (thn (ha pos pins s σ H _ I h) fun us s1 ⟨vs, H1, I1, r1, q1⟩ => hc pins s1 σ H1 vs us Q I1 r1 q1) he hpl
/-- T(e, ..), T a built-in type -/
theorem pe_callTy (hc : CallR X (.type T) r) (hg : Gl X x) (hm : X.mg x = none) (hv : bootBuiltins x = some (.type T)) (ha : PA X (e :: es) t) (hn : x ≠ "__name__" := by decide) (hdb : (x == ("__debug__" : Str)) = false := by decide)
    (he : starEach (e :: es) X.env = (false, eval e X.env) :: starEach es X.env := by rfl) (hpl : (backTo pos (starEach es X.env)).any (·.1) = false := by rfl) : PE X (.Call (.Name x p) (e :: es) [] pos) (tCB r t) := by
  intro pins s σ H Q I h
  refine wpAny_Call_Name_kw (ld_blt I hg hm hv ?_ hn hdb)
  exact PyProof.Rows.callWith_type1 (thn (ha pos pins s σ H _ I h) fun us s1 ⟨vs, H1, I1, r1, q1⟩ => hc pins s1 σ H1 vs us Q I1 r1 q1) he hpl
end
end L2
namespace HT
open PySem PyProof.Rows
section
open PySem.SeqAt
open PySem.AutoSeq1 (wpAny_loadPart')
open PySem.MeetsSeq PySem.MeetsSeq2 PySem.MeetsSeq3
end
section
variable {prog : Program} {w : World} {A : Around} {E : Value → Shared → Prop} {s : Shared}
/-- a slice's bound as a place among n (d where it is left out) -/
noncomputable def sIx (n d : Nat) : Option Int → Nat
  | none => d
  | some v => if v < 0 then (v + (n : Int)).toNat else min v.toNat n
theorem sIx_none (n d : Nat) : sIx n d none = d := rfl
theorem sIx_nat (n d k : Nat) : sIx n d (some (k : Int)) = min k n := by
  show (if (k : Int) < 0 then ((k : Int) + (n : Int)).toNat else min (k : Int).toNat n) = min k n
  rw [if_neg (by omega), Int.toNat_natCast]
end
end HT
namespace L2
open PySem PySem.Spec PyProof.Rows
noncomputable abbrev TO := St → Hp → (Option Int → Hp → Prop) → Prop
/-- a slice's part (left out, or an int) -/
noncomputable def PO (X : Cx) (e : Option Expr) (t : TO) : Prop :=
  ∀ (pins : List (Addr × Obj)) (s : Shared) (σ : St) (H : Hp) (Q : Option Int → Hp → Prop), Inv X pins σ H s → t σ H Q →
    wpAny (model X.prog X.w) X.A (evalPart e X.env) (fun u s' => ∃ o H', Inv X pins σ H' s' ∧ IsPart u o ∧ Q o H') X.xe s
noncomputable def tNoPart : TO := fun _ H Q => Q none H
noncomputable def tPart (t : TE) : TO := fun σ H Q => t σ H fun x H1 => ∃ i, x = .int i ∧ Q (some i) H1
section
variable {X : Cx} {e : Expr} {te : TE} {lo hi : Option Expr} {tl th : TO} {pos p2 : Pos}
theorem po_none : PO X none tNoPart := by
  intro pins s σ H Q I h
  rw [evalPart_none]
  exact wpAny_pure ⟨none, H, I, .none, h⟩
theorem po_some (h : PE X e te) : PO X (some e) (tPart te) := by
  intro pins s σ H Q I hw
  rw [evalPart_some]
  refine thn (h pins s σ H _ I hw) fun u s1 ⟨x, H1, I1, r1, q1⟩ => ?_
  obtain ⟨i, rfl, q⟩ := q1
  obtain ⟨t, rfl⟩ := r1
  exact ⟨some i, H1, I1, .int i t, q⟩
/-- what a slice of a value is, by values: the slice object stands at sl -/
noncomputable def SlR (X : Cx) (r : V → Option Int → Option Int → Hp → VK → Prop) : Prop :=
  ∀ (pins : List (Addr × Obj)) (s : Shared) (σ : St) (H : Hp) (x : V) (v vl vu : Value) (lo hi : Option Int) (sl : Addr) (Q : VK), Inv X pins σ H s → RelV x v → s.heap.IsSliceOf sl vl vu .none → IsPart vl lo → IsPart vu hi → r x lo hi H Q →
    ∃ T id, typeLookup (.type T) "__getitem__" = pure (some (.builtin id)) ∧ s.TypeIs v T ∧ wpAny (model X.prog X.w) X.A (getItem v (.ref sl)) (EP X pins σ Q) X.xe s
noncomputable def tSl (r : V → Option Int → Option Int → Hp → VK → Prop) (te : TE) (tl th : TO) : TE := fun σ H Q => te σ H fun x H1 => tl σ H1 fun l H2 => th σ H2 fun u H3 => r x l u H3 Q
/-- a[lo:hi], any a -/
theorem pe_slice {r : V → Option Int → Option Int → Hp → VK → Prop} (hr : SlR X r) (he : PE X e te) (hl : PO X lo tl) (hu : PO X hi th) : PE X (.Subscript e (.Slice lo hi none p2) pos) (tSl r te tl th) := by
  intro pins s σ H Q I h
  refine Subscript_ (thn (he pins s σ H _ I h) fun v s1 ⟨x, H1, I1, r1, q1⟩ => ?_)
  refine wpAny_Slice (thn (hl pins s1 σ H1 _ I1 q1) fun vl s2 ⟨l, H2, I2, pl, q2⟩ => thn (hu pins s2 σ H2 _ I2 q2) fun vu s3 ⟨u, H3, I3, pu, q3⟩ => ?_)
  rw [evalPart_none]
  refine wpAny_pure ?_
  have I4 : Inv X pins σ H3 { s3 with heap := s3.heap.push { cls := .type "slice", data := .fields #[vl, vu, .none] } } := I3.kept (t' := s3.toks) fun b ob q => Heap.get?_push_of_some _ q
  obtain ⟨T, id, hT, ht, hg⟩ := hr pins { s3 with heap := s3.heap.push { cls := .type "slice", data := .fields #[vl, vu, .none] } } σ H3 x v vl vu l u s3.heap.objs.size Q I4 r1 (Heap.IsSliceOf.new ..) pl pu q3
  show wpAny (model X.prog X.w) X.A (subscriptTail e (.Slice lo hi none p2) v (.ref s3.heap.objs.size)) (EP X pins σ Q) X.xe { s3 with heap := s3.heap.push { cls := .type "slice", data := .fields #[vl, vu, .none] } }
  exact tail_any (ops := [.ref s3.heap.objs.size, v]) ht hT hg (by with_unfolding_all rfl)
/-- the items of xs[lo:hi] -/
noncomputable def cutV (xs : List V) (lo hi : Option Int) : List V := (xs.drop (HT.sIx xs.length 0 lo)).take (HT.sIx xs.length xs.length hi - HT.sIx xs.length 0 lo)
theorem cutV_length (xs : List V) (lo hi : Option Int) : (cutV xs lo hi).length ≤ xs.length := by
  unfold cutV
  rw [List.length_take, List.length_drop]
  omega
end
end L2
namespace L2
open PySem PySem.Spec PyProof.Rows
/-- the place that an index of any sign means -/
noncomputable def ixN (n : Nat) (i : Int) : Option Nat := if 0 ≤ i then (if i < n then some i.toNat else none) else if -(n : Int) ≤ i then some (i + n).toNat else none
noncomputable def atI {α : Type} (xs : List α) (i : Int) : Option α := (ixN xs.length i).bind fun j => xs[j]?
theorem ixN_seq {n : Nat} {i : Int} {j : Nat} (h : ixN n i = some j) : seqIndex? i n = some j ∧ j < n ∧ -(n : Int) ≤ i ∧ i < n := by
  unfold ixN at h
  by_cases h0 : 0 ≤ i
  · rw [if_pos h0] at h
    by_cases h1 : i < n
    · rw [if_pos h1] at h
      have e : i.toNat = j := Option.some.inj h
      exact ⟨by rw [seqIndex_of h0 h1, e], by omega, by omega, h1⟩
    · rw [if_neg h1] at h; cases h
  · rw [if_neg h0] at h
    by_cases h1 : -(n : Int) ≤ i
    · rw [if_pos h1] at h
      have e : (i + n).toNat = j := Option.some.inj h
      exact ⟨by rw [seqIndex_neg (by omega) h1, e], by omega, h1, by omega⟩
    · rw [if_neg h1] at h; cases h
theorem atI_get {α : Type} {xs : List α} {i : Int} {v : α} (h : atI xs i = some v) : ∃ j, seqIndex? i xs.length = some j ∧ xs[j]? = some v ∧ j < xs.length ∧ -(xs.length : Int) ≤ i ∧ i < xs.length := by
  unfold atI at h
  cases e : ixN xs.length i with
  | none => rw [e] at h; cases h
  | some j =>
    rw [e] at h
    obtain ⟨h1, h2, h3, h4⟩ := ixN_seq e
    exact ⟨j, h1, h, h2, h3, h4⟩
theorem atI_nat {α : Type} {xs : List α} {j : Nat} {v : α} (h : xs[j]? = some v) : atI xs (j : Int) = some v := by
  have hj : j < xs.length := (List.getElem?_eq_some_iff.mp h).1
  have e : ixN xs.length (j : Int) = some j := by
    unfold ixN
    rw [if_pos (by omega), if_pos (by omega)]; simp
  unfold atI; rw [e]; exact h
/-- what stands as an index of a plain subscript -/
noncomputable def PlainIx (b : Expr) : Prop := ∀ o i, subscripted b false o i = operate [o, i] (getItem o i)
/-- a subscript by values -/
noncomputable def IxR (X : Cx) (r : R2) : Prop :=
  ∀ (value slice : Expr) (pins : List (Addr × Obj)) (s : Shared) (σ : St) (H : Hp) (x y : V) (v u : Value) (Q : VK), Inv X pins σ H s → RelV x v → RelV y u → r x y H Q →
    subscripted slice false v u = operate [v, u] (getItem v u) → wpAny (model X.prog X.w) X.A (subscriptTail value slice v u) (EP X pins σ Q) X.xe s
/-- a call of a builtin's method by values: the receiver, the arguments -/
noncomputable def MtR (X : Cx) (id : String) (r : V → List V → Hp → VK → Prop) : Prop :=
  ∀ (pins : List (Addr × Obj)) (s : Shared) (σ : St) (H : Hp) (x : V) (xs : List V) (v : Value) (us : List Value) (Q : VK), Inv X pins σ H s → RelV x v → Vals xs us → r x xs H Q →
    wpAny (model X.prog X.w) X.A (call (.builtin id) (v :: us)) (EP X pins σ Q) X.xe s
section
variable {X : Cx} {a b : Expr} {ta tb : TE} {pos : Pos}
/-- a[b] -/
theorem pe_ix {r : R2} (hr : IxR X r) (ha : PE X a ta) (hb : PE X b tb) (hs : PlainIx b) : PE X (.Subscript a b pos) (tOp r ta tb) := by
  intro pins s σ H Q I h
  exact Subscript_ (binT ha hb I h fun v u s2 x y H2 I2 rx ry q => hr a b pins s2 σ H2 x y v u Q I2 rx ry q (hs _ _))
noncomputable def rIxL (K : PySem.W.Frag) : R2 := fun x y H Q => ∃ p xs i v, x = .ref p ∧ y = .int i ∧ SqL K H p xs ∧ atI xs i = some v ∧ Q v H
noncomputable def rIxT (K : PySem.W.Frag) : R2 := fun x y H Q => ∃ p xs i v, x = .ref p ∧ y = .int i ∧ SqT K H p xs ∧ atI xs i = some v ∧ Q v H
noncomputable def rIxS : R2 := fun x y H Q => ∃ z i c, x = .str z ∧ y = .int i ∧ z.length ≤ sizeLine ∧ atI z.cps.toList i = some c ∧ Q (.str ⟨#[c]⟩) H
theorem ix_list : IxR X (rIxL X.K) := by
  intro value slice pins s σ H x y v u Q I rx ry h hs
  obtain ⟨p, xs, i, z, rfl, rfl, hq, he, q⟩ := h
  cases rx
  obtain ⟨t, rfl⟩ := ry
  obtain ⟨its, r, pl, hz⟩ := I.list hq
  obtain ⟨j, h1, h2, h3, h4, h5⟩ := atI_get he
  obtain ⟨w, ew, rw'⟩ := r.get h2
  have hl := r.length
  have hn := line63
  have fin : EP X pins σ Q w s := ⟨z, H, I, rw', q⟩
  by_cases h0 : 0 ≤ i
  · have hj : i.toNat = j := by
      rw [seqIndex_of h0 h5] at h1
      exact Option.some.inj h1
    exact item_listR pl.isList h0 (by omega) (by rw [hj]; simpa using ew) fin hs
  · have hj : (i + (its.toArray.size : Int)).toNat = j := by
      rw [seqIndex_neg (by omega) h4] at h1
      rw [List.size_toArray, ← hl]
      exact Option.some.inj h1
    exact subscriptTail_builtinR (x := w) pl.isList.typeIs slot_list_getitem.lookup
      (wpAny_getItem_list_neg (Q := fun r s' => r = w ∧ EP X pins σ Q r s') pl.isList (by omega) (by rw [List.size_toArray] <;> omega) (by omega) (by rw [hj]; simpa using ew) ⟨rfl, fin⟩) hs
theorem ix_tup : IxR X (rIxT X.K) := by
  intro value slice pins s σ H x y v u Q I rx ry h hs
  obtain ⟨p, xs, i, z, rfl, rfl, hq, he, q⟩ := h
  cases rx
  obtain ⟨t, rfl⟩ := ry
  obtain ⟨its, r, pl, hz⟩ := I.tuple hq
  obtain ⟨j, h1, h2, h3, h4, h5⟩ := atI_get he
  obtain ⟨w, ew, rw'⟩ := r.get h2
  have hl := r.length
  have hn := line63
  have fin : EP X pins σ Q w s := ⟨z, H, I, rw', q⟩
  exact subscriptTail_builtinR (x := w) pl.typeIs slot_tuple_getitem.lookup
    (getItem_tuple (j := j) (Q := fun r s' => r = w ∧ EP X pins σ Q r s') pl (by omega) (by omega) (by rw [List.size_toArray, ← hl]; exact h1) (by simpa using ew) ⟨rfl, fin⟩) hs
theorem ix_str : IxR X rIxS := by
  intro value slice pins s σ H x y v u Q I rx ry h hs
  obtain ⟨z, i, c, rfl, rfl, hz, he, q⟩ := h
  obtain ⟨t, rfl⟩ := rx
  obtain ⟨t', rfl⟩ := ry
  obtain ⟨j, h1, h2, h3, h4, h5⟩ := atI_get he
  have hl : z.cps.toList.length = z.length := by simp [Str.length]
  rw [hl] at h1 h4 h5
  have hn := line63
  exact tail_any (typeIs_str s z t) slot_str_getitem.lookup (getItem_str (c := c) (by
    have e1 : decide (i < -(2 ^ 63 : Int)) = false := decide_eq_false (by omega)
    have e2 : decide (i ≥ 2 ^ 63) = false := decide_eq_false (by omega)
    rw [e1, e2, Bool.or_false]) (by rw [h1]; simpa using h2) ⟨.str ⟨#[c]⟩, H, I.tok _, ⟨_, rfl⟩, q⟩) hs
theorem slice_bounds (lo hi : Option Int) (n : Nat) : (sliceBounds lo hi none n).1 = ((HT.sIx n 0 lo : Nat) : Int) ∧ (sliceBounds lo hi none n).2.1 = ((HT.sIx n n hi : Nat) : Int) ∧ (sliceBounds lo hi none n).2.2 = 1 := by
  refine ⟨?_, ?_, rfl⟩
  · cases lo with
    | none => simp [sliceBounds, HT.sIx]
    | some i =>
      simp only [sliceBounds, HT.sIx, Option.getD_none, show (1 : Int) > 0 by decide, if_true]
      by_cases h : i < 0
      · simp only [h, if_true] <;> omega
      · simp only [h, if_false] <;> omega
  · cases hi with
    | none => simp [sliceBounds, HT.sIx]
    | some i =>
      simp only [sliceBounds, HT.sIx, Option.getD_none, show (1 : Int) > 0 by decide, if_true]
      by_cases h : i < 0
      · simp only [h, if_true] <;> omega
      · simp only [h, if_false] <;> omega
theorem slicePick_cut (its : List Value) (lo hi : Option Int) : slicePick its.toArray lo hi none = ((its.drop (HT.sIx its.length 0 lo)).take (HT.sIx its.length its.length hi - HT.sIx its.length 0 lo)).toArray := by
  obtain ⟨h1, h2, h3⟩ := slice_bounds lo hi its.toArray.size
  unfold slicePick
  rw [h1, h2, h3]
  simp only [sliceRange_one, pick_run, List.size_toArray] <;> rfl
/-- xs[lo:hi] of a list: a new list -/
noncomputable def rSlL (K : PySem.W.Frag) : V → Option Int → Option Int → Hp → VK → Prop := fun x lo hi H Q => ∃ a xs, x = .ref a ∧ SqL K H a xs ∧ ∀ p, H p = none → Q (.ref p) (upd H p (.lst (cutV xs lo hi)))
theorem sl_list : SlR X (rSlL X.K) := by
  intro pins s σ H x v vl vu lo hi sl Q I rx hs pl pu h
  obtain ⟨a, xs, rfl, hx, q⟩ := h
  cases rx
  obtain ⟨its, r, ht, hz⟩ := I.list hx
  have hlen := r.length
  refine ⟨"list", _, slot_list_getitem.lookup, ht.isList.typeIs, ?_⟩
  refine wpAny_getItem_list_slice ht.isList hs pl pu .none (by simp) ?_ (by rw [List.size_toArray] <;> omega)
  rw [slicePick_cut, ← hlen]
  refine ⟨.ref s.heap.objs.size, _, I.laid (t' := s.toks) (o := .lst (cutV xs lo hi)) (fun b ob q => Heap.get?_push_of_some _ q) (Nat.le_refl _) ?_, rfl, q _ (I.hok.fresh (Nat.le_refl _))⟩
  exact ⟨Nat.le_trans (cutV_length xs lo hi) hz, _, 0, (r.drop (HT.sIx xs.length 0 lo)).take (HT.sIx xs.length xs.length hi - HT.sIx xs.length 0 lo), Heap.get?_push_size _ rfl⟩
noncomputable def flatV : V → Bool
  | .non => true
  | .bl _ => true
  | .int _ => true
  | .str _ => true
  | _ => false
/-- == of flat values -/
noncomputable def eqV : V → V → Bool
  | .non, .non => true
  | .bl a, .bl b => a == b
  | .bl a, .int b => (if a then 1 else 0) == b
  | .int a, .bl b => a == (if b then 1 else 0)
  | .int a, .int b => a == b
  | .str a, .str b => a == b
  | _, _ => false
theorem eqAt_V {A : Around} {s : Shared} {y x : V} {u v : Value} (ry : RelV y u) (rx : RelV x v) (fy : flatV y = true) (fx : flatV x = true) : SeqAt.EqAt A s u v (eqV y x) := by
  cases y with
  | non =>
    cases ry
    cases x with
    | non => cases rx; exact SeqAt.EqAt.same _
    | bl b => cases rx; exact SeqAt.EqAt.none_bool b
    | int b => obtain ⟨t, rfl⟩ := rx; exact SeqAt.EqAt.none_int b t
    | str b => obtain ⟨t, rfl⟩ := rx; exact SeqAt.EqAt.none_str b t
    | _ => exact absurd (show false = true from fx) Bool.false_ne_true
  | bl a =>
    cases ry
    cases x with
    | non => cases rx; exact SeqAt.EqAt.bool_none a
    | bl b => cases rx; exact SeqAt.EqAt.bool_bool a b
    | int b => obtain ⟨t, rfl⟩ := rx; exact SeqAt.EqAt.bool_int a b t
    | str b => obtain ⟨t, rfl⟩ := rx; exact SeqAt.EqAt.bool_str a b t
    | _ => exact absurd (show false = true from fx) Bool.false_ne_true
  | int a =>
    obtain ⟨t', rfl⟩ := ry
    cases x with
    | non => cases rx; exact SeqAt.EqAt.int_none a t'
    | bl b => cases rx; exact SeqAt.EqAt.int_bool a t' b
    | int b => obtain ⟨t, rfl⟩ := rx; exact SeqAt.EqAt.int_int a t' b t
    | str b => obtain ⟨t, rfl⟩ := rx; exact SeqAt.EqAt.int_str a t' b t
    | _ => exact absurd (show false = true from fx) Bool.false_ne_true
  | str a =>
    obtain ⟨t', rfl⟩ := ry
    cases x with
    | non => cases rx; exact SeqAt.EqAt.str_none a t'
    | bl b => cases rx; exact SeqAt.EqAt.str_bool a t' b
    | int b => obtain ⟨t, rfl⟩ := rx; exact SeqAt.EqAt.str_int a t' b t
    | str b => obtain ⟨t, rfl⟩ := rx; exact SeqAt.EqAt.str_str a t' b t
    | _ => exact absurd (show false = true from fx) Bool.false_ne_true
  | _ => exact absurd (show false = true from fy) Bool.false_ne_true
/-- the items' answers, read off the values (a value's own answer does not lean on its token) -/
noncomputable def eqU (x : V) (u : Value) : Bool := match u with
  | .none => eqV .non x
  | .bool b => eqV (.bl b) x
  | .int i _ => eqV (.int i) x
  | .str z _ => eqV (.str z) x
  | _ => false
theorem eqU_of {x y : V} {u : Value} (r : RelV y u) (f : flatV y = true) : eqU x u = eqV y x := by
  cases y with
  | non => cases r; rfl
  | bl b => cases r; rfl
  | int i => obtain ⟨t, rfl⟩ := r; rfl
  | str z => obtain ⟨t, rfl⟩ := r; rfl
  | _ => exact absurd (show false = true from f) Bool.false_ne_true
theorem any_eqU {x : V} : ∀ {xs : List V} {us : List Value}, Vals xs us → xs.all flatV = true → us.any (eqU x) = xs.any fun y => eqV y x
  | _, _, .nil, _ => rfl
  | y :: xs, u :: us, .cons r t, f => by
    rw [List.all_cons, Bool.and_eq_true] at f
    rw [List.any_cons, List.any_cons, eqU_of r f.1, any_eqU t f.2]
theorem mem_eqAt {A : Around} {s : Shared} {x : V} {v : Value} (rx : RelV x v) (fx : flatV x = true) : ∀ {xs : List V} {us : List Value}, Vals xs us → xs.all flatV = true → ∀ u ∈ us, SeqAt.EqAt A s u v (eqU x u)
  | _, _, .nil, _ => fun u hu => by cases hu
  | y :: xs, u :: us, .cons r t, f => fun u' hu => by
    rw [List.all_cons, Bool.and_eq_true] at f
    rcases List.mem_cons.mp hu with rfl | hu
    · rw [eqU_of r f.1]; exact eqAt_V r rx f.1 fx
    · exact mem_eqAt rx fx t f.2 u' hu
noncomputable def inV (x : V) (xs : List V) : Bool := xs.any fun y => eqV y x
/-- x in a list or tuple of flat items -/
noncomputable def rIn (K : PySem.W.Frag) (neg : Bool) : R2 := fun x y H Q => ∃ p xs, y = .ref p ∧ (SqL K H p xs ∨ SqT K H p xs) ∧ flatV x = true ∧ xs.all flatV = true ∧ Q (.bl (if neg then !inV x xs else inV x xs)) H
theorem op_notIn_seq : OpR X (compareOp .NotIn) (rIn X.K true) := by
  intro pins s σ H x y v u Q I rx ry h
  obtain ⟨p, xs, rfl, hq, fx, fs, q⟩ := h
  cases ry
  rcases hq with hq | hq
  · obtain ⟨its, r, pl, hz⟩ := I.list hq
    refine SeqAt.notIn_listAt (eqU x) pl.isList (fun w hw => mem_eqAt rx fx r fs w (by simpa using hw)) ⟨.bl _, H, I, rfl, ?_⟩
    rw [show its.toArray.any (eqU x) = its.any (eqU x) by simp, any_eqU r fs]
    exact q
  · obtain ⟨its, r, pl, hz⟩ := I.tuple hq
    refine SeqAt.notIn_tupleAt (eqU x) pl (fun w hw => mem_eqAt rx fx r fs w (by simpa using hw)) ⟨.bl _, H, I, rfl, ?_⟩
    rw [show its.toArray.any (eqU x) = its.any (eqU x) by simp, any_eqU r fs]
    exact q
theorem call_len_seq : CallR X (.builtin "len") (fun xs H Q => ∃ p ys, xs = [.ref p] ∧ (SqL X.K H p ys ∨ SqT X.K H p ys) ∧ Q (.int ys.length) H) := by
  intro pins s σ H xs us Q I r h
  obtain ⟨p, ys, rfl, hq, q⟩ := h
  obtain ⟨u, rfl, rx⟩ := vals1 r
  cases rx
  have hn := line63
  rcases hq with hq | hq
  · obtain ⟨its, r', pl, hz⟩ := I.list hq
    have hlen := r'.length
    exact Calls.call_len_list pl.isList (by simp only [List.size_toArray] <;> omega) ⟨.int ys.length, H, I.tok _, ⟨s.toks + 1, by rw [List.size_toArray, hlen]⟩, q⟩
  · obtain ⟨its, r', pl, hz⟩ := I.tuple hq
    have hlen := r'.length
    exact len_tuple pl (by simp only [List.size_toArray] <;> omega) ⟨.int ys.length, H, I.tok _, ⟨s.toks + 1, by rw [List.size_toArray, hlen]⟩, q⟩
theorem call_len_str : CallR X (.builtin "len") (fun xs H Q => ∃ z, xs = [.str z] ∧ z.length ≤ sizeLine ∧ Q (.int z.length) H) := by
  intro pins s σ H xs us Q I r h
  obtain ⟨z, rfl, hz, q⟩ := h
  obtain ⟨u, rfl, t, rfl⟩ := vals1 r
  have hn := line63
  exact len_str (by omega) ⟨.int z.length, H, I.tok _, ⟨_, rfl⟩, q⟩
/-- the value is of that builtin type -/
noncomputable def tyV (K : PySem.W.Frag) (T : String) (x : V) (H : Hp) : Prop := match x with
  | .str _ => T = "str"
  | .int _ => T = "int"
  | .ref p => (T = "list" ∧ ∃ xs, SqL K H p xs) ∨ (T = "tuple" ∧ ∃ o, K.lookup p = some o ∧ o.cls = .type "tuple" ∧ o.dict = none) ∨
      (T = "dict" ∧ ((∃ kvs, H p = some (.dK kvs)) ∨ ∃ kvs, H p = some (.dT kvs))) ∨ (T = "set" ∧ ∃ S n, H p = some (.set S n))
  | _ => False
theorem tyV_is {pins : List (Addr × Obj)} {σ : St} {H : Hp} {s : Shared} {T : String} {x : V} {v : Value} (I : Inv X pins σ H s) (r : RelV x v) (ty : tyV X.K T x H) :
    s.TypeIs v T ∧ ∀ a, v = .ref a → ∃ ob, s.heap.get? a = some ob ∧ ob.dict = none := by
  cases x with
  | str z =>
    obtain ⟨t, rfl⟩ := r
    cases (show T = "str" from ty)
    exact ⟨typeIs_str s z t, fun _ e => nomatch e⟩
  | int i =>
    obtain ⟨t, rfl⟩ := r
    cases (show T = "int" from ty)
    exact ⟨typeIs_int s i t, fun _ e => nomatch e⟩
  | ref p =>
    cases r
    rcases ty with ⟨rfl, xs, hq⟩ | ⟨rfl, o, hk, hc, hd⟩ | ⟨rfl, hk⟩ | ⟨rfl, S, n, hk⟩
    · obtain ⟨its, _, pl, _⟩ := I.list hq
      refine ⟨pl.isList.typeIs, fun a e => ?_⟩
      cases e
      obtain ⟨o, n, e, c, hd, _⟩ := pl
      exact ⟨o, e, hd⟩
    · refine ⟨⟨o, I.kIn p o hk, hc⟩, fun a e => ?_⟩
      cases e
      exact ⟨o, I.kIn _ o hk, hd⟩
    · have z : ∃ o, s.heap.get? p = some o ∧ o.ExactDict := by
        rcases hk with ⟨kvs, hk⟩ | ⟨kvs, hk⟩
        · obtain ⟨_, _, _, _, o, _, _, e, ex, _⟩ := I.hok p _ hk
          exact ⟨o, e, ex⟩
        · obtain ⟨_, _, _, _, o, _, _, e, ex, _⟩ := I.hok p _ hk
          exact ⟨o, e, ex⟩
      obtain ⟨o, e, ex⟩ := z
      refine ⟨⟨o, e, ex.1⟩, fun a e2 => ?_⟩
      cases e2
      exact ⟨o, e, ex.2.1⟩
    · obtain ⟨o, _, _, _, e, ex, _⟩ := I.hok p _ hk
      refine ⟨⟨o, e, ex.1⟩, fun a e2 => ?_⟩
      cases e2
      exact ⟨o, e, ex.2.1⟩
  | _ => exact False.elim ty
noncomputable def tBM (K : PySem.W.Frag) (T : String) (r : V → List V → Hp → VK → Prop) (to : TE) (t : TA) : TE := fun σ H Q => to σ H fun x H1 => tyV K T x H1 ∧ t σ H1 fun xs H2 => r x xs H2 Q
variable {o e : Expr} {es : List Expr} {to : TE} {t : TA} {name : Str} {apos cpos : Pos} {T id : String} {r : V → List V → Hp → VK → Prop}
theorem pe_bm (pa : PlainAttrs T) (slot : Slot T name id) (hty : typeOf (.builtin id) = pure (.type "method_descriptor")) (hm : MtR X id r) (ho : PE X o to) (ha : PA X (e :: es) t)
    (hbase : attributeBase o name X.env (eval o X.env) = eval o X.env := by rfl)
    (hfew : ((backTo cpos (starEach (e :: es) X.env)).all (fun x => !x.1) && (backToKw cpos (keywordEach [] X.env)).all (fun x => x.1.isSome)
      && decide ((e :: es).length + ([] : List Keyword).length + (if ([] : List Keyword).isEmpty then 0 else 1) < 30)) = true := by rfl)
    (hline : (apos.endLine == cpos.line) = true := by rfl) (hs : starEach (e :: es) X.env = (false, eval e X.env) :: starEach es X.env := by rfl) (hplain : (backTo cpos (starEach es X.env)).any (·.1) = false := by rfl) :
    PE X (.Call (.Attribute o name apos) (e :: es) [] cpos) (tBM X.K T r to t) := by
  intro pins s σ H Q I h
  refine wpAny_Call_method_late hbase hfew hline rfl (thn (ho pins s σ H _ I h) fun v s1 ⟨x, H1, I1, r1, ty, q1⟩ => ?_)
  obtain ⟨h1, h2⟩ := tyV_is I1 r1 ty
  refine ⟨T, id, pa, slot, hty, h1, h2, ?_⟩
  have hA := ha cpos pins s1 σ H1 _ I1 q1
  rw [hs] at hA ⊢
  refine Calls.callWith_builtin (by show (false || (backTo cpos (starEach es X.env)).any (·.1)) = false; rw [hplain] <;> rfl) (Calls.evalArgs_plain ?_)
  exact thn hA fun us s2 ⟨vs, H2, I2, r2, q2⟩ => hm pins s2 σ H2 x vs v us Q I2 r1 r2 q2
/- xs.append(e), list.index on a module's tuple .. are MtR facts of 06m -/
end
end L2
namespace L2
open PySem PySem.Spec PyProof.Rows
noncomputable def MtM (X : Cx) (id : String) (r : V → List V → Hp → VK → Prop) : Prop :=
  ∀ (pins : List (Addr × Obj)) (s : Shared) (σ : St) (H : Hp) (x : V) (xs : List V) (v : Value) (us : List Value) (Q : VK), Inv X pins σ H s → RelV x v → Vals xs us → r x xs H Q →
    wpAny (model X.prog X.w) X.A (call (.builtin id) (v :: us)) (EP X pins σ Q) X.xe s
theorem Vals.one : ∀ {x : V} {us : List Value}, Vals [x] us → ∃ u, us = [u] ∧ RelV x u
  := by intro _ _ h; cases h with | cons r n => cases n; exact ⟨_, rfl, r⟩
theorem Vals.two : ∀ {x y : V} {us : List Value}, Vals [x, y] us → ∃ u v, us = [u, v] ∧ RelV x u ∧ RelV y v
  := by intro _ _ _ h; cases h with | cons r q => cases q with | cons q n => cases n; exact ⟨_, _, rfl, r, q⟩
section
variable {X : Cx} {pins : List (Addr × Obj)} {σ : St} {H : Hp} {s : Shared} {l b : Addr} {xs ys zs : List V}
theorem Inv.lset {its its' : List Value} {n : Nat} {f : Array Value → Array Value} {t' : Nat} (I : Inv X pins σ H s) (hH : H l = some (.lst xs))
    (e : s.heap.get? l = some { cls := .type "list", data := .seq its.toArray n }) (hf : f its.toArray = its'.toArray) (hv : Vals ys its') (hz : ys.length ≤ sizeLine) :
    Inv X pins σ (upd H l (.lst ys)) { s with heap := s.heap.update l (Obj.mapSeq f), toks := t' } := by
  have q := PySem.IsL.update e f
  rw [hf] at q
  refine I.write (x := l) (e := l) (by rw [hH]; exact trivial) (.inl rfl) (fun b' u hb hu => (Heap.get?_update_other s.heap (Obj.mapSeq f) (Ne.symm hb)).trans hu) ⟨_, q⟩ ?_
  exact ⟨hz, its', _, hv, q⟩
theorem Inv.lnew {its : List Value} {t' : Nat} (I : Inv X pins σ H s) (hv : Vals ys its) (hz : ys.length ≤ sizeLine) :
    Inv X pins σ (upd H s.heap.objs.size (.lst ys)) { s with heap := s.heap.push { cls := .type "list", data := .seq its.toArray }, toks := t' } :=
  I.laid (fun _ _ q => Heap.get?_push_of_some _ q) (Nat.le_refl _) ⟨hz, its, 0, hv, Heap.get?_push_size _ rfl⟩
theorem Inv.fresh (I : Inv X pins σ H s) : H s.heap.objs.size = none := I.hok.fresh (Nat.le_refl _)
theorem Inv.lstM (I : Inv X pins σ H s) (hH : H l = some (.lst xs)) : xs.length ≤ sizeLine ∧ ∃ (its : List Value) (n : Nat), Vals xs its ∧ xs.length = its.length ∧ s.heap.get? l = some { cls := .type "list", data := .seq its.toArray n } := by
  obtain ⟨z, its, n, r, e⟩ := I.hok l _ hH
  exact ⟨z, its, n, r, r.length, e⟩
end
section
variable {X : Cx}
noncomputable def rAppend : V → List V → Hp → VK → Prop := fun x vs H Q => ∃ l xs y, x = .ref l ∧ vs = [y] ∧ H l = some (.lst xs) ∧ xs.length < sizeLine ∧ Q .non (upd H l (.lst (xs ++ [y])))
theorem mt_append : MtM X "list.append" rAppend := by
  intro pins s σ H x vs v us Q I rx rv h
  obtain ⟨l, xs, y, rfl, rfl, hH, hz, q⟩ := h
  cases rx
  obtain ⟨u, rfl, ru⟩ := rv.one
  obtain ⟨z, its, n, r, hl, e⟩ := I.lstM hH
  refine call_meets F.slot_list_append ⟨_, e, rfl⟩ F.entry_list_append (F.args_list_append_2 _ _) (PySem.list_append l its.toArray n u (by rw [List.size_toArray]; omega)) ⟨e, ?_⟩
  refine ⟨.non, _, I.lset (its' := its ++ [u]) hH e (by simp) (r.append (.cons ru .nil)) ?_, rfl, q⟩
  rw [List.length_append, List.length_singleton]
  omega
noncomputable def rCat : R2 := fun x y H Q => ∃ l b xs zs, x = .ref l ∧ y = .ref b ∧ H l = some (.lst xs) ∧ H b = some (.lst zs) ∧ xs.length + zs.length ≤ sizeLine ∧ ∀ p, H p = none → Q (.ref p) (upd H p (.lst (xs ++ zs)))
theorem op_cat : OpR X (binaryOp .Add) rCat := by
  intro pins s σ H x y v u Q I rx ry h
  obtain ⟨l, b, xs, zs, rfl, rfl, hH, hB, hz, q⟩ := h
  cases rx
  cases ry
  obtain ⟨z, its, n, r, hl, e⟩ := I.lstM hH
  obtain ⟨z2, its2, n2, r2, hl2, e2⟩ := I.lstM hB
  refine PySem.P.add_list e e2 ?_ (by rw [List.size_toArray, List.size_toArray]; omega)
  have ea : its.toArray ++ its2.toArray = (its ++ its2).toArray := by simp
  rw [ea]
  exact ⟨.ref _, _, I.lnew (t' := s.toks) (r.append r2) (by rw [List.length_append]; omega), rfl, q _ I.fresh⟩
end
section
variable {prog : Program} {w : World} {A : Around} {E : Value → Shared → Prop} {s : Shared}
set_option maxRecDepth 100000 in
end
section
variable {X : Cx}
end
end L2
namespace Att
open PySem PySem.W PySem.Calls PyProof.Rows
theorem ints_of_wellAll {P : Params} {h : Heap} : ∀ (ns : List Int) (vs : List Value), WellAll P h vs (ns.map WData.int) → IntsAre vs ns := by
  intro ns
  induction ns with
  | nil =>
    intro vs w
    rw [List.map_nil] at w
    cases w
    exact .nil
  | cons n ns ih =>
    intro vs w
    rw [List.map_cons] at w
    cases w with
    | cons a b =>
      cases a
      exact .cons _ _ (ih _ b)
theorem script_of {l : OpenLaw} {n : Nat} (hn : l.most = some n) {P : Params} {h : Heap} {args : List WData} {vals : List Value}
    (hpre : l.row.toRowW.claim.pre args = true) (hwl : WellAll P h vals args) :
    ∃ a vs ns, vals = [Value.ref a] ∧ args = [WData.list (ns.map WData.int)] ∧ h.get? a = some { cls := .type "list", data := .seq vs.toArray } ∧ IntsAre vs ns ∧ ns.length ≤ n := by
  have hsh : WShape.hasAll [] args [.list .int] = true := (pre_splitW hpre).1
  have hc : l.pre.holds [] { args := args } = true := (pre_splitW hpre).2
  obtain ⟨d, r, rfl, h1, h2⟩ := hasAllW_cons hsh
  obtain rfl := hasAllW_nil h2
  obtain ⟨xs, rfl, h3⟩ := hasW_list h1
  obtain ⟨ns, rfl⟩ := items_int h3
  have hlen : ns.length ≤ n := by
    unfold OpenLaw.pre at hc
    have h4 : (WTm.not (.lt (.lit (.int (n : Int))) (.len (.arg 0)))).holds [] { args := [.list (ns.map .int)] } = true := by
      have h4 := (holds_andW hc).1
      rw [hn] at h4
      exact h4
    have h5 := condW_of h4 (w_not (w_lt w_lit (w_len_list (w_arg rfl))))
    rw [List.length_map] at h5
    refine Nat.le_of_not_lt fun q => ?_
    have q' : (n : Int) < ((ns.length : Nat) : Int) := by omega
    first
      | (rw [decide_eq_true q'] at h5; exact absurd h5 (by decide))
      | (simp at h5; omega)
  cases hwl with
  | cons w1 w2 =>
    cases w2
    cases w1 with
    | list ho hall => exact ⟨_, _, ns, rfl, rfl, ho, ints_of_wellAll ns _ hall, hlen⟩
theorem post_true (l : OpenLaw) (args : List WData) : l.row.toRowW.claim.post args (.bool true) args = true :=
  postW_of (r := l.row.toRowW) (X := (true == true))
    (show WShape.has [] (.bool true) .bool = true by first | rfl | decide | simp [WShape.has, WShape.arms, WShape.armsAll])
    (show (WTm.eq .res (.lit (.bool true))).value [] { args := args, res := some (.bool true), after := args } = some (.bool (true == true)) from w_eq_bool (w_res rfl) w_lit) rfl
/-- the same from a codeAny of the CALL (for a layer whose function contracts speak of calls) -/
theorem attach_call {l : OpenLaw} {n : Nat} {q : Program} {loose : List Str} {XP : (Str → Option Value) → Heap → Prop} {YP : World → Heap → Prop} {d : DefRec}
    (hn : l.most = some n) (hdf : d.params.defaults = [])
    (call : ∀ (w : World) (s₀ s₁ : Shared) (mg mb : Str → Option Value) (fa : Addr) (o : Obj) (pm cd doc : Value) (a : Addr) (vs : List Value) (ns : List Int),
      Ground q loose [] XP w s₀ mg mb s₁.heap → YP w s₁.heap →
      s₁.heap.get? fa = some o → o.data = .func (docDef d.name d.params d.body d.scope pm cd doc) → s₁.heap.CodeRec cd d.name → mg d.name = some (.ref fa) →
      s₁.heap.get? a = some { cls := .type "list", data := .seq vs.toArray } → IntsAre vs ns → ns.length ≤ n → s₁.gens = #[] →
      codeAny (model l.prog w) callerA (.call (.ref fa) ⟨[.ref a], []⟩) (fun r s' => r = .ok (.ret (.bool true)) ∧ OldK s₁.heap s'.heap ∧ s'.os = s₁.os ∧ AllBare s'.gens) s₁) :
    WalkO q loose XP YP l.row.toRowW d [] (fun f vs => PySem.call f vs) := by
  intro w s₀ s₁ mg mb G Y fa o pm cd doc dV kV ho hd hcd hD hmg hg args vals as hpre hlay hrd hwl hlo
  obtain rfl : dV = .none := Dflts.none hD hdf
  obtain rfl : kV = .none := Dflts.noKw hD
  obtain ⟨a, vs, ns, rfl, rfl, hobj, hints, hlen⟩ := script_of hn hpre hwl
  refine enter_call (codeAny_mono (call w s₀ s₁ mg mb fa o pm cd doc a vs ns G Y ho (fd_plain hd) hcd hmg hobj hints hlen hg) fun r s' hq => ?_)
  obtain ⟨rfl, h2, h3, h4⟩ := hq
  exact ⟨.inl ⟨.bool true, .bool true, [], rfl, fun _ => rfl, .bool true, post_true l _, fun _ => ⟨List.Pairwise.nil, fun _ hm => (nomatch hm)⟩⟩, h2, h3, h4⟩
section
variable {prog : Program} {w : World} {A : Around} {E : Value → Shared → Prop} {s : Shared} {K : Frag}
end
end Att
namespace L2
open PySem PySem.Spec PyProof.Rows
theorem vals_ints : ∀ {vs : List Value} {ns : List Int}, IntsAre vs ns → Vals (ns.map V.int) vs
  | _, _, .nil => .nil
  | _, _, .cons n t h => .cons ⟨t, rfl⟩ (vals_ints h)
/-- nothing is tracked but the script, known to the object (or it is an object of the module) -/
noncomputable def Only (H : Hp) : Prop := ∀ b, H b = none ∨ ∃ o xs, H b = some (.frz o (.lst xs))
/-- THE HEAD: the law's promise, at the heap behind the top. F, the promise of the law's def, may use that base is part of the heap (so K.In base, base.Ns mainGlobals mg stand in Mod) -/
theorem law_call {P : Program} {w : World} {K : PySem.W.Frag} {mg mb : Str → Option Value} {CX : CXT} {k : Nat} {fa a : Addr} {fd : FuncData} {x : Str} {sp : Sp} {s₁ : Shared} {vs : List Value} {ns : List Int}
    (KX : K.In s₁.heap) (hns : s₁.heap.Ns mainGlobals mg) (hb : s₁.heap.Ns builtinsNs mb) (hbb : ∀ x : Str, x ≠ "__name__" → mb x = bootBuiltins x) (hlim : s₁.heap.NoLimit) (hg : s₁.gens = #[])
    (ha : s₁.heap.get? a = some { cls := .type "list", data := .seq vs.toArray }) (hi : IntsAre vs ns) (hl : ns.length ≤ sizeLine) (hr : Room k callerA)
    (F : ∀ base : Heap, K.In base → base.Ns mainGlobals mg → FnOk P w K mg base CX k fa fd [x] sp) (hbind : ∀ (s : Shared) (u : Value), BindsTo s fd ⟨[u], []⟩ [(x, u)])
    (hsp : ∀ H : Hp, Only H → SqL K H a (ns.map V.int) → sp [.ref a] H (fun v _ => v = .bl true) fun _ _ _ => False)
    (hCX : ∀ H e s', CX [] H s₁ (fun _ _ _ => False) e s' → False) :
    codeAny (model P w) callerA (.call (.ref fa) ⟨[.ref a], []⟩) (fun r s' => r = .ok (.ret (.bool true)) ∧ OldK s₁.heap s'.heap ∧ s'.os = s₁.os ∧ AllBare s'.gens) s₁ := by
  have rv := vals_ints hi
  have lenV := hi.length
  -- from an abstract heap in which nothing but the script may be tracked
  have core : ∀ H : Hp, Only H → SqL K H a (ns.map V.int) → HOk P w H s₁.heap → (∀ b, H b ≠ none → b = a) → (H a ≠ none → K.lookup a = none) →
      codeAny (model P w) callerA (.call (.ref fa) ⟨[.ref a], []⟩) (fun r s' => r = .ok (.ret (.bool true)) ∧ OldK s₁.heap s'.heap ∧ s'.os = s₁.os ∧ AllBare s'.gens) s₁ := by
    intro H hO hS hok hA hK
    have base_of : ∀ {b : Addr} {o : Obj}, s₁.heap.get? b = some o → H b = none → (hidT s₁.heap H).get? b = some o := fun e n => hidT_get e n
    have noA : ∀ {b : Addr} {o : Obj} {es : Array DictEntry} {ep : Nat}, s₁.heap.get? b = some o → o.data = .dict es ep → H b = none := fun {b o es ep} e d => by
      cases q : H b with
      | none => rfl
      | some u =>
        have e' : b = a := hA b (by rw [q]; simp)
        subst e'
        rw [ha] at e; cases e
        have d' : Data.seq vs.toArray _ = Data.dict es ep := d
        cases d'
    have nsK : ∀ {b : Addr} {m : Str → Option Value}, s₁.heap.Ns b m → (hidT s₁.heap H).Ns b m := fun {b m} ⟨o, es, ep, e, d, r⟩ => ⟨o, es, ep, base_of e (noA e d), d, r⟩
    have hKb : K.In (hidT s₁.heap H) := fun b o e => base_of (KX b o e) (by
      cases q : H b with
      | none => rfl
      | some u =>
        have e' : b = a := hA b (by rw [q]; simp)
        subst e'
        rw [hK (by rw [q]; simp)] at e; cases e)
    have hM : Mod K mg (hidT s₁.heap H) := ⟨hKb, nsK hns, ⟨mb, nsK hb, hbb⟩, let ⟨mc, h1, h2⟩ := hlim; ⟨mc, nsK h1, h2⟩⟩
    have e0 : Env0 P w K mg (hidT s₁.heap H) callerA [] s₁ H := ⟨rfl, hM, fun b o e => of_hidT e, Nat.le_of_eq (hidT_size _ _), trivial, fun b hb => absurd (show b ∈ ([] : List Addr) from hb) (by simp), hok, .of_eq hg⟩
    refine codeAny_mono ((F _ hKb (nsK hns)).run callerA [] s₁ H ⟨[.ref a], []⟩ [.ref a] [.ref a] _ _ hr e0 (hbind s₁ (.ref a)) (.cons rfl .nil) (hsp H hO hS)) fun r s' h => ?_
    cases r with
    | error e => exact (hCX H e s' h).elim
    | ok fl =>
      cases fl with
      | next => exact False.elim h
      | brk => exact False.elim h
      | cont => exact False.elim h
      | ret u =>
        obtain ⟨v, H', os, bare, un, hok', r', q⟩ := h
        have q' : v = .bl true := q
        subst q'
        obtain rfl : u = Value.bool true := r'
        refine ⟨rfl, OldK.of_keep fun b o e => ?_, os, bare⟩
        cases q : H b with
        | none => exact un.keep b o e q (by intro z; exact absurd (show b ∈ ([] : List Addr) from z) (by simp)) (by simp)
        | some u =>
          rcases hO b with z | ⟨ob, xs, z⟩
          · rw [q] at z; cases z
          · have z2 := un.frzs b ob _ z
            obtain ⟨e1, _⟩ := hok b _ z
            obtain ⟨e2, _⟩ := hok' b _ z2
            rw [e] at e1; cases e1
            exact e2
  cases hk : K.lookup a with
  | some o =>
    -- the script is one of the module's own objects
    have e := KX a o hk
    rw [ha] at e
    cases e
    refine core (fun _ => none) (fun _ => .inl rfl) (.inr ⟨_, vs.toArray, _, hk, rfl, rfl, rfl, by rw [List.size_toArray, lenV]; exact hl, by simpa using rv⟩) (fun b u z => by have z' : (none : Option HO) = some u := z; cases z') (fun b z => absurd rfl z) fun z => absurd rfl z
  | none =>
    refine core (fun b => if b = a then some (.frz { cls := .type "list", data := .seq vs.toArray } (.lst (ns.map V.int))) else none) (fun b => ?_) (.inl (.inr ⟨{ cls := .type "list", data := .seq vs.toArray }, if_pos rfl⟩)) (fun b u z => ?_) (fun b z => ?_) fun _ => hk
    · by_cases hb : b = a
      · exact .inr ⟨_, _, if_pos hb⟩
      · exact .inl (if_neg hb)
    · by_cases hb : b = a
      · have z' := (if_pos hb).symm.trans z
        cases z'
        subst hb
        exact ⟨ha, by rw [List.length_map]; exact hl, vs, _, rv, ha⟩
      · have z' := (if_neg hb).symm.trans z
        cases z'
    · by_cases hb : b = a
      · exact hb
      · exact absurd (if_neg hb) z
end L2
namespace L2
open PySem PySem.Spec PyProof.Rows
/-- the goal that k_head leaves (case hc), from the law's promise. F gives the function object fd (K's own) once, then the promise over every base -/
theorem walk_of {l : PySem.W.OpenLaw} {n k : Nat} {q : Program} {loose : List Str} {XP : (Str → Option Value) → Heap → Prop} {YP : World → Heap → Prop} {d : DefRec} {K : Params → PySem.W.Frag} {CX : World → CXT} {sp : World → Sp} {x : Str}
    (hn : l.most = some n) (hn2 : n ≤ sizeLine) (hdf : d.params.defaults = []) (hr : Room k callerA)
    (hY : ∀ (w : World) (h : Heap), YP w h → (K w.params).In h)
    (F : ∀ (w : World) (mg : Str → Option Value) (fa : Addr) (h : Heap), (K w.params).In h → h.Ns mainGlobals mg → mg d.name = some (.ref fa) →
      ∃ fd : FuncData, (∀ (s : Shared) (u : Value), BindsTo s fd ⟨[u], []⟩ [(x, u)]) ∧
        ∀ base : Heap, (K w.params).In base → base.Ns mainGlobals mg → FnOk l.prog w (K w.params) mg base (CX w) k fa fd [x] (sp w))
    (hsp : ∀ (w : World) (H : Hp) (a : Addr) (ns : List Int), ns.length ≤ n → Only H → SqL (K w.params) H a (ns.map V.int) → sp w [.ref a] H (fun v _ => v = .bl true) fun _ _ _ => False)
    (hCX : ∀ (w : World) (H : Hp) (s : Shared) (e : Value) (s' : Shared), CX w [] H s (fun _ _ _ => False) e s' → False) :
    PySem.W.WalkO q loose XP YP l.row.toRowW d [] (fun f vs => PySem.call f vs) := by
  refine Att.attach_call hn hdf fun w s₀ s₁ mg mb fa o pm cd doc a vs ns G Y ho hd hcd hmg hobj hints hlen hg => ?_
  have KX := hY w _ Y
  obtain ⟨fd, hb, hF⟩ := F w mg fa _ KX G.T.g hmg
  exact law_call KX G.T.g G.T.b G.T.builtins G.T.nolimit hg hobj hints (Nat.le_trans hlen hn2) hr hF hb (fun H hO hS => hsp w H a ns hlen hO hS) fun H e s' => hCX w H s₁ e s'
end L2
/- THE LAST THEOREM (shape; LID, My.* are yours):
   My.Adr: a structure of the addresses that your layer names (classes, functions); My.Txt K t: a structure (Prop) of the equations over K;
   My.txt_mk : {K} {implicit addresses ..} (e1 : nsIn K mainGlobals "law" = some (some (.ref f))) (e2 : K.lookup f = some ⟨oc, od, .func (fnOf "law" "law" params body scope dV kV doc pm an cdv ct), sl⟩) (e3 : codeIn K cdv "law" = true) .. : ∃ t, My.Txt K t
set_option maxRecDepth 100000 in
set_option maxHeartbeats 0 in
theorem PySem.Challenge.cw_LID_holds : PySem.Challenge.rw_LID.Holds := by
  w_on; o_law; k_head; (case hw => w_witness2)
  k_fill
  refine L2.walk_of (l := PySem.Challenge.rw_LID) (n := 63) (k := 40) (x := "script") (CX := fun w => ..) (sp := fun _ => My.sp_law) rfl (by decide) rfl ⟨rfl, by decide, by decide⟩ (fun w h Y => PySem.W.kIn_of Y) ?F ?S ?C
  case F =>
    intro w mg fa h KX G hmg
    have T : ∃ t, My.Txt (L2.KOf KX) t := by
      dsimp only [L2.KOf]                          -- K must stand as «<heap const> w.params» for k_is
      refine' My.txt_mk ?e1 ?e2 ?e3 ..
      (case e1 => PySem.W.k_is)                    -- in the order: a name -> its address -> its object -> its parts
      (case e2 => PySem.W.k_is)
      ..
    obtain ⟨t, T⟩ := T
    have e0 := hmg.symm.trans (PySem.W.mg_of KX G T.law)
    cases e0                                       -- fa is the law's own address
    exact ⟨_, fun s u => .of_eq rfl, fun base kb nb => My.law_fn T kb nb⟩     -- if «.of_eq rfl» comes too early: refine' ⟨_, ?b, fun base kb nb => My.law_fn T kb nb⟩; exact fun s u => .of_eq rfl
  case S => exact fun w H a ns hl hO hS => ..
  case C => exact ..
(the tactic k_is has no namespace: write k_is) -/
namespace L2
open PySem PySem.Spec PyProof.Rows
noncomputable def defArgs (s : Stmt) : Arguments := match s with
  | .FunctionDef _ a _ _ _ _ _ _ _ _ => a
  | _ => { posonlyargs := [], args := [], vararg := none, kwonlyargs := [], kw_defaults := [], kwarg := none, defaults := [] }
noncomputable def defBody (s : Stmt) : List Stmt := match s with
  | .FunctionDef _ _ b _ _ _ _ _ _ _ => b
  | _ => []
noncomputable def defScope (s : Stmt) : Scope := match s with
  | .FunctionDef _ _ _ _ _ _ sc _ _ _ => sc
  | _ => { kind := .function, names := [], isGenerator := false, isCoroutine := false }
noncomputable abbrev CX0 : CXT := fun _ _ _ _ _ _ => False
noncomputable abbrev E0 : XK := fun _ _ _ => False
theorem pass0 {X : Cx} : Passes CX0 X E0 := fun _ _ _ _ _ _ _ h => h.elim
structure Fun (K : PySem.W.Frag) (x qual : Str) (st : Stmt) (f : Addr) (fd : FuncData) : Prop where
  ex : ∃ (oc : Value) (od : Option Addr) (kV doc pm : Value) (an : Option Addr) (cdv ct : Value) (osl : Array (Option Value)),
    fd = PySem.W.fnOf x qual (defArgs st) (defBody st) (defScope st) .none kV doc pm an cdv ct ∧ K.lookup f = some ⟨oc, od, .func fd, osl⟩ ∧ PySem.W.codeIn K cdv qual = true
  kp : PySem.W.keepIn K (.ref f) = true
section
variable {P : Program} {w : World} {K : PySem.W.Frag} {mg : Str → Option Value} {base : Heap}
/-- THE RULE for a def: its body as a term of rules, and the reading of that term -/
theorem Fun.ok {x qual : Str} {st : Stmt} {f : Addr} {fd : FuncData} {N ps : List Str} {k : Nat} {sp : Sp} (F : Fun K x qual st f fd) (S : FnScope N ps (defScope st)) (len : ∀ vs H Q E, sp vs H Q E → vs.length = ps.length)
    (hbody : ∀ (cdv : Value) (A : Around) (outer : List Env) (s : Shared) (H : Hp) (vs : List V) (Q : VK) (E : XK), Room k (A.deeper (envOfC qual (defScope st) s.heap.objs.size f cdv)) → sp vs H Q E →
      ∃ t, PSs (cxOf CX0 P w K mg base N qual (defScope st) f cdv A outer s H E).nox (defBody st) t ∧ t { nx := fun _ H' => Q .non H', rt := Q } (start N vs) H) : FnOk P w K mg base CX0 (k + 1) f fd ps sp := by
  obtain ⟨oc, od, kV, doc, pm, an, cdv, ct, osl, rfl, lk, hcd⟩ := F.ex
  refine fn_of lk hcd S len fun A outer s H vs Q E hr hsp => ?_
  obtain ⟨t, h, q⟩ := hbody cdv A outer s H vs Q E hr hsp
  exact ⟨t, h.nox, q⟩
/-- how its arguments bind (no defaults): h is «fun _ _ _ _ _ _ us hl => match us, hl with | [_, _], _ => rfl», one _ a parameter -/
theorem Fun.binds {x qual : Str} {st : Stmt} {f : Addr} {fd : FuncData} {ps : List Str} (F : Fun K x qual st f fd)
    (h : ∀ (kV doc pm : Value) (an : Option Addr) (cdv ct : Value) (us : List Value), us.length = ps.length → bindArgs (PySem.W.fnOf x qual (defArgs st) (defBody st) (defScope st) .none kV doc pm an cdv ct) ⟨us, []⟩ = pure (ps.zip us)) : Binds K fd ps [] := by
  obtain ⟨oc, od, kV, doc, pm, an, cdv, ct, osl, rfl, lk, hcd⟩ := F.ex
  exact .all (h kV doc pm an cdv ct)
theorem fun_mk {x qual : Str} {st : Stmt} {f : Addr} {oc : Value} {od an : Option Addr} {osl : Array (Option Value)} {kV doc pm cdv ct : Value} (l : K.lookup f = some ⟨oc, od, .func (PySem.W.fnOf x qual (defArgs st) (defBody st) (defScope st) .none kV doc pm an cdv ct), osl⟩)
    (c : PySem.W.codeIn K cdv qual = true) (k : PySem.W.keepIn K (.ref f) = true) : Fun K x qual st f (PySem.W.fnOf x qual (defArgs st) (defBody st) (defScope st) .none kV doc pm an cdv ct) := ⟨⟨oc, od, kV, doc, pm, an, cdv, ct, osl, rfl, l, c⟩, k⟩
end
section
variable {X : Cx}
theorem pv (i : Nat) {x : Str} {pos : Pos} (hN : X.N[i]? = some x := by rfl) (hv : Vis X.env.scope x := by first | exact Or.inl rfl | exact Or.inr (Or.inl rfl) | exact Or.inr (Or.inr rfl)) (hd : (x == ("__debug__" : Str)) = false := by decide)
    (hcd : (x == ("__classdict__" : Str)) = false := by decide) : PE X (.Name x pos) (tVar i) := pe_var hN hv hd hcd
end
theorem iteF {A B : Prop} (h : B) : if false = true then A else B := by
  rw [if_neg Bool.false_ne_true]
  exact h
theorem iteT {A B : Prop} (h : A) : if true = true then A else B := by
  rw [if_pos rfl]
  exact h
theorem ite2 {c A B : Prop} [Decidable c] (h1 : c → A) (h2 : ¬ c → B) : if c then A else B := by
  by_cases h : c
  · rw [if_pos h]
    exact h1 h
  · rw [if_neg h]
    exact h2 h
theorem iteNS {c A B : Prop} [Decidable c] (hc : c) (h : B) : if (!decide c) = true then A else B := by
  rw [decide_eq_true hc]
  exact iteF h
/-- all that was tracked is as it was -/
noncomputable def Same (H H' : Hp) : Prop := ∀ b o, H b = some o → H' b = some o
theorem Same.refl (H : Hp) : Same H H := fun _ _ h => h
theorem Same.trans {H H1 H2 : Hp} (a : Same H H1) (b : Same H1 H2) : Same H H2 := fun c o h => b c o (a c o h)
theorem Same.free {H H' : Hp} (e : Same H H') {l : Addr} (h : H' l = Option.none) : H l = Option.none := by
  cases q : H l with
  | none => rfl
  | some o =>
    rw [e l o q] at h
    cases h
theorem Same.seq {K : PySem.W.Frag} {H H' : Hp} {a : Addr} {xs : List V} (e : Same H H') (h : SqL K H a xs) : SqL K H' a xs := by
  rcases h with (h | ⟨o, h⟩) | h
  · exact .inl (.inl (e _ _ h))
  · exact .inl (.inr ⟨o, e _ _ h⟩)
  · exact .inr h
end L2
end
section
set_option maxRecDepth 100000
namespace KsTab
open PySem PySem.SetTable
end KsTab
end
section
set_option maxRecDepth 100000
namespace KsTab
open PySem PySem.SetTable
end KsTab
end
section
set_option maxRecDepth 100000
set_option maxHeartbeats 4000000
namespace KS
open PySem KsTab
section
variable {prog : Program} {w : World} {A : Around} {E : Value → Shared → Prop} {s : Shared}
end
end KS
end
section
set_option maxRecDepth 100000
set_option maxHeartbeats 4000000
namespace KS
open PySem KsTab PyProof.Rows
section
variable {prog : Program} {w : World} {A : Around} {E : Value → Shared → Prop} {s : Shared}
set_option maxHeartbeats 8000000 in
end
end KS
end
section
set_option maxRecDepth 100000
set_option maxHeartbeats 4000000
namespace KS
open PySem KsTab PyProof.Rows
section
variable {prog : Program} {w : World} {A : Around} {E : Value → Shared → Prop} {s : Shared}
end
end KS
end
section
set_option maxRecDepth 100000
set_option maxHeartbeats 4000000
namespace KS
open PySem KsTab PyProof.Rows
section
variable {prog : Program} {w : World} {A : Around} {E : Value → Shared → Prop} {s : Shared}
end
end KS
end
section
set_option maxRecDepth 100000
set_option maxHeartbeats 4000000
set_option linter.all false
namespace KS
open PySem KsTab PyProof.Rows PySem.W
section
variable {N : Nat} (hN : 0 < N)
include hN
end
section
variable {prog : Program} {w : World} {A : Around} {E : Value → Shared → Prop} {s : Shared}
end
end KS
end
section
set_option maxRecDepth 100000
set_option maxHeartbeats 4000000
namespace KS
open PySem PySem.Spec L2
open PyProof.Rows hiding St
noncomputable def clFold (env : Env) : List (Str × NameKind) → List (Str × Addr) → List (Str × Addr)
  | [], acc => acc
  | (n, k) :: r, acc => if (k == NameKind.free) = true then clFold env r ((n, (env.cells.lookup n).getD 0) :: acc) else clFold env r acc
theorem closure_fold {env : Env} : ∀ (l : List (Str × NameKind)) (acc : List (Str × Addr)), (∀ y ∈ l, y.2 = .free → (env.cells.lookup y.1).isSome = true) →
    (forIn l acc fun (x : Str × NameKind) (r : List (Str × Addr)) => match x with
      | (name, kind) => if (kind == NameKind.free) = true then do
            let a ← cellOf env name
            pure (ForInStep.yield ((name, a) :: r))
          else pure (ForInStep.yield r) : Sem (List (Str × Addr))) = pure (clFold env l acc)
  | [], acc, _ => rfl
  | (n, k) :: l, acc, h => by
    rw [List.forIn_cons]
    have hr : ∀ y ∈ l, y.2 = .free → (env.cells.lookup y.1).isSome = true := fun y hy => h y (List.mem_cons_of_mem _ hy)
    dsimp only
    by_cases hk : (k == NameKind.free) = true
    · rw [if_pos hk]
      obtain ⟨c, hc⟩ := Option.isSome_iff_exists.mp (h (n, k) List.mem_cons_self (eq_of_beq hk))
      have e1 : cellOf env n = pure c := by unfold cellOf; rw [hc]
      have e2 : clFold env ((n, k) :: l) acc = clFold env l ((n, c) :: acc) := by
        show (if (k == NameKind.free) = true then _ else _) = _
        rw [if_pos hk, hc]; rfl
      rw [e1, e2]
      exact closure_fold l _ hr
    · rw [if_neg hk]
      have e2 : clFold env ((n, k) :: l) acc = clFold env l acc := by
        show (if (k == NameKind.free) = true then _ else _) = _
        rw [if_neg hk]
      rw [e2]
      exact closure_fold l _ hr
theorem closure_eq {scope : Scope} {env : Env} (h : ∀ y ∈ scope.names, y.2 = .free → (env.cells.lookup y.1).isSome = true) : closureFor scope env = pure (clFold env scope.names []) := by
  have e := closure_fold scope.names [] h
  unfold closureFor
  simp only [] at e ⊢
  first
    | (rw [e]; rfl)
    | exact e
    | (refine Eq.trans (congrArg (fun m => m >>= fun r => pure r) e) rfl)
theorem clFold_look {env : Env} {x : Str} {c : Addr} : ∀ (l : List (Str × NameKind)) (acc : List (Str × Addr)), (∀ y ∈ l, y.2 = .free → (env.cells.lookup y.1).isSome = true) →
    (∀ y d, acc.lookup y = some d → env.cells.lookup y = some d) → (clFold env l acc).lookup x = some c → env.cells.lookup x = some c
  | [], acc, _, ha, h => ha x c h
  | (n, k) :: l, acc, hl, ha, h => by
    have hr : ∀ y ∈ l, y.2 = .free → (env.cells.lookup y.1).isSome = true := fun y hy => hl y (List.mem_cons_of_mem _ hy)
    by_cases hk : (k == NameKind.free) = true
    · have e2 : clFold env ((n, k) :: l) acc = clFold env l ((n, (env.cells.lookup n).getD 0) :: acc) := by
        show (if (k == NameKind.free) = true then _ else _) = _
        rw [if_pos hk]
      rw [e2] at h
      refine clFold_look l _ hr (fun y d e => ?_) h
      rw [List.lookup_cons] at e
      by_cases hy : (y == n) = true
      · rw [hy] at e
        have ey : y = n := eq_of_beq hy
        subst ey
        obtain ⟨c', hc⟩ := Option.isSome_iff_exists.mp (hl (y, k) List.mem_cons_self (eq_of_beq hk))
        rw [hc] at e ⊢
        exact e
      · have hy' : (y == n) = false := by cases q : (y == n) with | true => exact absurd q hy | false => rfl
        rw [hy'] at e
        exact ha y d e
    · have e2 : clFold env ((n, k) :: l) acc = clFold env l acc := by
        show (if (k == NameKind.free) = true then _ else _) = _
        rw [if_neg hk]
      rw [e2] at h
      exact clFold_look l _ hr ha h
theorem clFold_keeps {env : Env} {x : Str} : ∀ (l : List (Str × NameKind)) (acc : List (Str × Addr)), (acc.lookup x).isSome = true → ((clFold env l acc).lookup x).isSome = true
  | [], _, h => h
  | (n, k) :: l, acc, h => by
    show (List.lookup x (if (k == NameKind.free) = true then _ else _)).isSome = true
    split
    · refine clFold_keeps l _ ?_
      rw [List.lookup_cons]
      split
      · rfl
      · exact h
    · exact clFold_keeps l _ h
theorem clFold_has {env : Env} {x : Str} : ∀ (l : List (Str × NameKind)) (acc : List (Str × Addr)), (x, NameKind.free) ∈ l → ((clFold env l acc).lookup x).isSome = true
  | [], _, h => nomatch h
  | (n, k) :: l, acc, h => by
    show (List.lookup x (if (k == NameKind.free) = true then _ else _)).isSome = true
    rcases List.mem_cons.mp h with e | h
    · cases e
      rw [if_pos (by rfl)]
      refine clFold_keeps l _ ?_
      rw [List.lookup_cons]
      simp
    · split
      · exact clFold_has l _ h
      · exact clFold_has l _ h
theorem relabel_lookup {scope : Scope} {env : Env} {x : Str} : (relabel scope env).names.lookup x =
    (scope.names.lookup x).map fun k => if (k == NameKind.free && env.scope.kind == .function && env.kindOf x == some .cell) = true then .cell else k := by
  unfold relabel
  dsimp only
  induction scope.names with
  | nil => rfl
  | cons y l ih =>
    obtain ⟨n, k⟩ := y
    rw [List.map_cons]
    by_cases hx : (x == n) = true
    · have ex : x = n := eq_of_beq hx
      subst ex
      dsimp only
      split
      · rename_i hc
        rw [List.lookup_cons, List.lookup_cons, hx]
        show some NameKind.cell = _
        simp only [Option.map_some]
        rw [if_pos hc]
      · rename_i hc
        rw [List.lookup_cons, List.lookup_cons, hx]
        show some k = _
        simp only [Option.map_some]
        rw [if_neg hc]
    · have hx' : (x == n) = false := by cases q : (x == n) with | true => exact absurd q hx | false => rfl
      rw [List.lookup_cons (a := x) (b := k) (k := n), hx']
      dsimp only
      split
      · rw [List.lookup_cons, hx']; exact ih
      · rw [List.lookup_cons, hx']; exact ih
theorem mem_of_look {l : List (Str × NameKind)} {x : Str} {k : NameKind} (h : l.lookup x = some k) : (x, k) ∈ l := PySem.mem_of_lookup h
structure CompOk (scope : Scope) (xs : List Str) (osc : Scope) (N : List Str) : Prop where
  kind : scope.kind = .function
  nocell : ∀ y ∈ scope.names, y.2 ≠ .cell
  free : ∀ y ∈ scope.names, y.2 = .free → osc.names.lookup y.1 = some .cell ∨ osc.names.lookup y.1 = some .free
  loc : ∀ y ∈ scope.names, y.2 = .local → scope.names.lookup y.1 = some .local
  own : ∀ y ∈ N, scope.names.lookup y = some .local → y ∈ xs
  empty : scope.names.lookup Str.empty = none
noncomputable def blkN (N xs : List Str) : List Str := N.map (fun y => if xs.contains y = true then Str.empty else y) ++ xs
noncomputable def blk (X : Cx) (scope : Scope) (xs : List Str) (cl : List (Str × Addr)) (C : Addr) (s₀ : Shared) (H₀ : Hp) (ex : List Addr) : Cx :=
  { X with N := blkN X.N xs, s₀ := s₀, H₀ := H₀, env := compEnvC scope cl C X.env, outer := X.stack, ex := ex, fn := fun _ => false, pn := [], xe := fun _ _ => False }
noncomputable def PIf (X : Cx) (ifs : List Expr) (t : TT) : Prop :=
  ∀ (pins : List (Addr × Obj)) (s : Shared) (σ : St) (H : Hp) (Q : Bool → Hp → Prop), Inv X pins σ H s → t σ H Q →
    wpAny (model X.prog X.w) X.A (forIn ifs true fun c r => if r = true then do let ok ← isTrue c X.env (eval c X.env); pure (ForInStep.yield ok) else pure (ForInStep.yield r)) (TP X pins σ Q) X.xe s
noncomputable def tAll : TT := fun _ H Q => Q true H
theorem pif_nil {X : Cx} : PIf X [] tAll := fun _ _ _ H _ I h => wpAny_tests_nil ⟨H, I, h⟩
/-- the reading: W by the turn, a measure, the items so far, the heap -/
noncomputable def CompW (n : Nat) (J : It) (g : TG) (tt : TT) (te : TE) (σ : St) (Q : VK) (W : Nat → Nat → List V → Hp → Prop) : Prop :=
  ∀ i m ys H, W i m ys H →
    (J.stop i H ∧ ys.length ≤ sizeLine ∧ ∀ p, H p = none → Q (.ref p) (upd H p (.lst ys))) ∨
    (J.go i H ∧ ys.length < sizeLine ∧ ∃ N : List V → Hp → Prop, (∀ ys' H', N ys' H' → ∃ m', m' < m ∧ W (i + 1) m' ys' H') ∧ ∀ x H', J.yld i H x H' → g x (σ ++ List.replicate n none) H' fun σ2 H2 => σ2.take σ.length = σ ∧
      tt σ2 H2 fun c H3 => if c = true then te σ2 H3 fun v H4 => N (ys ++ [v]) H4 else N ys H3)
noncomputable def tComp (n : Nat) (wi : TI) (g : TG) (tt : TT) (te : TE) : TE := fun σ H Q => wi σ H fun J H1 => ∃ W : Nat → Nat → List V → Hp → Prop, (∃ m, W 0 m [] H1) ∧ CompW n J g tt te σ Q W
/-- over a range -/
theorem comp_range {n k : Nat} {lo : Int} {g : TG} {tt : TT} {te : TE} {σ : St} {Q : VK} {H : Hp} (Pv : Nat → List V → Hp → Prop) (h0 : Pv 0 [] H) (hn : n < sizeLine) (hl : ∀ i ys H, Pv i ys H → ys.length ≤ i)
    (hs : ∀ i ys H, i < n → Pv i ys H → g (.int (lo + i)) (σ ++ List.replicate k none) H fun σ2 H2 => σ2.take σ.length = σ ∧ tt σ2 H2 fun c H3 => if c = true then te σ2 H3 fun v H4 => Pv (i + 1) (ys ++ [v]) H4 else Pv (i + 1) ys H3)
    (hd : ∀ ys H p, Pv n ys H → H p = none → Q (.ref p) (upd H p (.lst ys))) : ∃ W : Nat → Nat → List V → Hp → Prop, (∃ m, W 0 m [] H) ∧ CompW k (Itr lo n) g tt te σ Q W := by
  refine ⟨fun i m ys H => m = n - i ∧ i ≤ n ∧ Pv i ys H, ⟨n, by simp, Nat.zero_le _, h0⟩, ?_⟩
  rintro i m ys H ⟨rfl, hi, p⟩
  have hy := hl i ys H p
  by_cases hlt : i < n
  · refine .inr ⟨hlt, by omega, Pv (i + 1), fun ys' H' p' => ⟨n - (i + 1), by omega, rfl, hlt, p'⟩, fun x H' y => ?_⟩
    obtain ⟨e, y⟩ := y
    subst e y
    exact hs i ys _ hlt p
  · have e : i = n := by omega
    subst e
    exact .inl ⟨Nat.le_refl _, by omega, fun q hq => hd ys H q p hq⟩
/-- over a list that stays as it is -/
theorem comp_list {k : Nat} {K : PySem.W.Frag} {a : Addr} {xs : List V} {g : TG} {tt : TT} {te : TE} {σ : St} {Q : VK} {H : Hp} (Pv : Nat → List V → Hp → Prop) (h0 : Pv 0 [] H) (hn : xs.length < sizeLine) (hl : ∀ i ys H, Pv i ys H → ys.length ≤ i ∧ SqL K H a xs)
    (hs : ∀ i x ys H, xs[i]? = some x → Pv i ys H → g x (σ ++ List.replicate k none) H fun σ2 H2 => σ2.take σ.length = σ ∧ tt σ2 H2 fun c H3 => if c = true then te σ2 H3 fun v H4 => Pv (i + 1) (ys ++ [v]) H4 else Pv (i + 1) ys H3)
    (hd : ∀ ys H p, Pv xs.length ys H → H p = none → Q (.ref p) (upd H p (.lst ys))) : ∃ W : Nat → Nat → List V → Hp → Prop, (∃ m, W 0 m [] H) ∧ CompW k (Itl K a) g tt te σ Q W := by
  refine ⟨fun i m ys H => m = xs.length - i ∧ i ≤ xs.length ∧ Pv i ys H, ⟨xs.length, by simp, Nat.zero_le _, h0⟩, ?_⟩
  rintro i m ys H ⟨rfl, hi, p⟩
  obtain ⟨hy, hq⟩ := hl i ys H p
  by_cases hlt : i < xs.length
  · refine .inr ⟨⟨xs, xs[i], hq, by simp [hlt]⟩, by omega, Pv (i + 1), fun ys' H' p' => ⟨xs.length - (i + 1), by omega, rfl, hlt, p'⟩, fun x H' y => ?_⟩
    obtain ⟨e, y⟩ := y
    subst e
    exact hs i x ys _ (y xs hq) p
  · have e : i = xs.length := by omega
    subst e
    exact .inl ⟨⟨xs, hq, Nat.le_refl _⟩, by omega, fun q hq => hd ys H q p hq⟩
theorem compLoop_any {prog : Program} {w : World} {A : Around} {R : Result → Shared → Prop} {s : Shared} {elt target iter : Expr} {ifs : List Expr} {scope : Scope} {pos : Pos} {it acc : Value} {env : Env} (Iv : Nat → Shared → Prop)
    (turn : ∀ n s, Iv n s → wpAny (model prog w) A (pyNext it) (fun r s₁ => (r = none ∧ R (.ok .next) s₁) ∨ ∃ v, r = some v ∧
        wpAny (model prog w) A (letOwnedTupleGo target it v) (fun _ t₁ => wpAny (model prog w) A (assign target env v) (fun _ s₂ =>
          wpAny (model prog w) A (forIn ifs true fun c r => if r = true then do let ok ← isTrue c env (eval c env); pure (ForInStep.yield ok) else pure (ForInStep.yield r)) (fun ok s₃ =>
            if ok = true then wpAny (model prog w) A (eval elt env) (fun x s₄ =>
              wpAny (model prog w) A (call (.builtin "list.append") [acc, x]) (fun _ s₅ => ∃ m, m < n ∧ Iv m s₅) (fun _ _ => False) s₄) (fun _ _ => False) s₃
            else ∃ m, m < n ∧ Iv m s₃) (fun _ _ => False) s₂) (fun _ _ => False) t₁) (fun _ _ => False) s₁) (fun _ _ => False) s)
    (n : Nat) (h : Iv n s) : codeAny (model prog w) A (.compLoop (.ListComp elt [⟨target, iter, ifs, 0⟩] scope pos) 0 it acc env) R s := by
  refine codeAny_loop rfl Iv (fun n s hI => ?_) n h
  show wpAny _ A ((compTurn (.ListComp elt [⟨target, iter, ifs, 0⟩] scope pos) 0 it acc env).onRaise (fun x => do noteFrame x env; theTreesLotGoes x)) _ _ s
  refine wpAny_noted ?_
  rw [compTurn_list]
  refine wpAny_bind (wpAny_standAt (wpAny_bind (wpAny_mono (turn n s hI) (fun r s₁ q1 => ?_) fun _ _ z => z.elim)))
  rcases q1 with ⟨rfl, q⟩ | ⟨v, rfl, q⟩
  · exact wpAny_pure q
  · refine wpAny_bind (wpAny_mono q (fun _ t₁ q2 => ?_) fun _ _ z => z.elim)
    refine wpAny_bind (wpAny_mono q2 (fun _ s₂ q3 => ?_) fun _ _ z => z.elim)
    refine wpAny_bind (wpAny_mono q3 (fun ok s₃ q4 => ?_) fun _ _ z => z.elim)
    cases ok with
    | false =>
      have q5 : ∃ m, m < n ∧ Iv m s₃ := q4
      exact wpAny_pure ⟨rfl, q5⟩
    | true =>
      refine wpAny_bind (wpAny_bind (wpAny_mono q4 (fun x s₄ q5 => ?_) fun _ _ z => z.elim))
      exact wpAny_bind (wpAny_mono q5 (fun _ s₅ q6 => wpAny_pure (wpAny_pure ⟨rfl, q6⟩)) fun _ _ z => z.elim)
/-- an object that stands there untracked is taken in -/
theorem HOk.adopt {P : Program} {w : World} {H : Hp} {h : Heap} {a : Addr} {o : HO} (x : HOk P w H h) (hn : H a = none) (new : ObjOk P w (upd H a o) h a o) : HOk P w (upd H a o) h := fun b u e => by
  by_cases hb : b = a
  · subst hb
    rw [upd_same] at e
    cases e
    exact new
  · rw [upd_ne hb] at e
    exact (x b u e).stay (fun _ _ _ q => q) (fun c q => by rw [upd_ne (ne_of_none q hn)]; exact q) fun c xs q => by rw [upd_ne (ne_of_none q hn)]; exact q
section
variable {X : Cx} {elt tg iter : Expr} {ifs : List Expr} {scope : Scope} {xs : List Str} {pos : Pos} {g : TG} {tt : TT} {te : TE}
theorem blk_ok {pins : List (Addr × Obj)} {σ : St} {H : Hp} {s : Shared} {C : Addr} {fp : List Addr} (I : Inv X pins σ H s) (K : CompOk scope xs X.env.scope X.N) (hC : s.heap.objs.size ≤ C) (hf : ∀ b ∈ fp, FpOk X pins H b) (hfl : ∀ b ∈ fp, b < s.heap.objs.size) :
    (blk X scope xs (clFold X.env scope.names []) C s H fp).Ok := by
  have hcl : ∀ y ∈ scope.names, y.2 = .free → (X.env.cells.lookup y.1).isSome = true := fun y hy hk => by
    obtain ⟨c, hc⟩ := I.ok.has y.1 (K.free y hy hk)
    rw [hc]; rfl
  have look : ∀ x c, (clFold X.env scope.names []).lookup x = some c → X.env.cells.lookup x = some c := fun x c e => clFold_look scope.names [] hcl (fun y d z => by cases z) e
  refine ⟨I.ok.mod, K.kind, I.ok.glob, I.ok.blt, hC, fun x y c h1 h2 => I.ok.inj x y c (look x c h1) (look y c h2), fun x hx => ?_, fun x c z => Bool.noConfusion z, I.ok.hd, I.ok.frames, .inl rfl, fun b hb => ⟨Nat.ne_of_lt (Nat.lt_of_lt_of_le (hfl b hb) hC), fun x c e => (hf b hb).2.2.2.2.1 x c (look x c e)⟩,
    I.bs, Nat.le_trans I.ok.bsz I.sz, fun b o e hb => ?_, fun b hb hm => ?_, I.stack, I.stkFree⟩
  · have hx' : (relabel scope X.env).names.lookup x = some .cell ∨ (relabel scope X.env).names.lookup x = some .free := hx
    rw [relabel_lookup] at hx'
    cases q : scope.names.lookup x with
    | none => rw [q] at hx'; rcases hx' with z | z <;> cases z
    | some k =>
      have hm := mem_of_look q
      have hk : k = .free := by
        rw [q] at hx'
        simp only [Option.map_some] at hx'
        split at hx'
        · rename_i hc
          simp only [Bool.and_eq_true] at hc
          exact eq_of_beq hc.1.1
        · rcases hx' with z | z
          · exact absurd (Option.some.inj z) (K.nocell (x, k) hm)
          · exact Option.some.inj z
      subst hk
      exact Option.isSome_iff_exists.mp (clFold_has scope.names [] hm)
  · rcases (hf b hb).2.2.2.1 with z | z
    · exact I.ok.noex b o e z
    · exact absurd (Nat.lt_of_lt_of_le (Heap.lt_size e) (Nat.le_trans I.ok.bsz z)) (Nat.lt_irrefl _)
  · rcases List.mem_cons.mp (I.stkSub b hm) with z | z
    · exact (hf b hb).2.1 z
    · exact (hf b hb).2.2.1 z
/-- the block's state at its start -/
theorem blk_inv {pins : List (Addr × Obj)} {σ : St} {H : Hp} {s : Shared} {C : Addr} {fp : List Addr} {h1 : Heap} {m1 : Str → Option Value} {tk : Nat} (I : Inv X pins σ H s) (K : CompOk scope xs X.env.scope X.N) (hC : s.heap.objs.size ≤ C) (hf : ∀ b ∈ fp, FpOk X pins H b) (hfl : ∀ b ∈ fp, b < s.heap.objs.size)
    (keep : ∀ b o, s.heap.get? b = some o → h1.get? b = some o) (hns : h1.Ns C m1) :
    Inv (blk X scope xs (clFold X.env scope.names []) C s H fp) [] (σ ++ List.replicate xs.length none) H { s with heap := h1, toks := tk } := by
  have ok := blk_ok (scope := scope) (xs := xs) I K hC hf hfl
  have hcl : ∀ y ∈ scope.names, y.2 = .free → (X.env.cells.lookup y.1).isSome = true := fun y hy hk => by
    obtain ⟨c, hc⟩ := I.ok.has y.1 (K.free y hy hk)
    rw [hc]; rfl
  have look : ∀ x c, (clFold X.env scope.names []).lookup x = some c → X.env.cells.lookup x = some c := fun x c e => clFold_look scope.names [] hcl (fun y d z => by cases z) e
  have cellK : ∀ x c v, X.env.cells.lookup x = some c → s.heap.IsCell c v → h1.IsCell c v := fun x c v _ ⟨o, ho, hd⟩ => ⟨o, keep c o ho, hd⟩
  refine ⟨ok, rfl, I.bare, Un.kept keep, ⟨m1, hns, fun i x v e1 e2 e3 => ?_⟩, fun x c e => ?_, I.hok.fresh hC, fun x c e => I.freeC x c (look x c e), fun p hp => absurd (show p ∈ ([] : List (Addr × Obj)) from hp) (by simp), I.hok.kept keep, ?_⟩
  · have hi : i < σ.length := by
      by_cases hi : i < σ.length
      · exact hi
      · rw [List.getElem?_append_right (Nat.le_of_not_lt hi), List.getElem?_replicate] at e2
        split at e2 <;> cases e2
    rw [List.getElem?_append_left hi] at e2
    have hiN : i < X.N.length := by rw [← I.len]; exact hi
    have e1' : ((X.N.map fun y => if xs.contains y = true then Str.empty else y) ++ xs)[i]? = some x := e1
    rw [List.getElem?_append_left (by rw [List.length_map]; exact hiN), List.getElem?_map] at e1'
    obtain ⟨y, hy⟩ : ∃ y, X.N[i]? = some y := ⟨X.N[i], by simp [hiN]⟩
    rw [hy] at e1'
    simp only [Option.map_some, Option.some.injEq] at e1'
    have e3' : (relabel scope X.env).names.lookup x = some .local ∨ (relabel scope X.env).names.lookup x = some .cell ∨ (relabel scope X.env).names.lookup x = some .free := e3
    rw [relabel_lookup] at e3'
    cases q : scope.names.lookup x with
    | none => rw [q] at e3'; rcases e3' with z | z | z <;> cases z
    | some k =>
      have hm := mem_of_look q
      have hxy : y = x ∧ xs.contains y ≠ true := by
        by_cases hc : xs.contains y = true
        · rw [if_pos hc] at e1'
          rw [← e1', K.empty] at q
          cases q
        · rw [if_neg hc] at e1'
          exact ⟨e1', hc⟩
      obtain ⟨rfl, hnx⟩ := hxy
      have hk : k = .free := by
        rw [q] at e3'
        simp only [Option.map_some] at e3'
        split at e3'
        · rename_i hc
          simp only [Bool.and_eq_true] at hc
          exact eq_of_beq hc.1.1
        · rcases e3' with z | z | z
          · exfalso
            rw [Option.some.inj z] at q
            exact hnx (List.contains_iff_mem.mpr (K.own y (List.mem_of_getElem? hy) q))
          · exact absurd (Option.some.inj z) (K.nocell (y, k) hm)
          · exact Option.some.inj z
      subst hk
      have ho := K.free (y, NameKind.free) hm rfl
      obtain ⟨m0, _, hl⟩ := I.loc
      obtain ⟨u, r, l⟩ := hl i y v hy e2 (.inr ho)
      refine ⟨u, r, .inr ⟨?_, ?_⟩⟩
      · show (relabel scope X.env).names.lookup y = some .cell ∨ (relabel scope X.env).names.lookup y = some .free
        rw [relabel_lookup, q]
        simp only [Option.map_some]
        split
        · exact .inl rfl
        · exact .inr rfl
      · rcases l with ⟨z, _⟩ | ⟨_, c, hc, hcell⟩
        · exfalso
          have z' : X.env.scope.names.lookup y = some .local := z
          rcases ho with h | h <;> (rw [z'] at h; cases h)
        · obtain ⟨c', hc'⟩ := Option.isSome_iff_exists.mp (clFold_has (env := X.env) scope.names [] hm)
          have := look y c' hc'
          rw [hc] at this
          cases this
          exact ⟨c, hc', cellK y c _ hc hcell⟩
  · obtain ⟨v, z⟩ := I.cell x c (look x c e)
    exact ⟨v, cellK x c v (look x c e) z⟩
  · show (σ ++ List.replicate xs.length none).length = ((X.N.map fun y => if xs.contains y = true then Str.empty else y) ++ xs).length
    rw [List.length_append, List.length_append, List.length_replicate, List.length_map, I.len]
theorem comp_loop {B : Cx} {σ : St} {n : Nat} {H : Hp} {s : Shared} {it D : Addr} {fp : List Addr} {tn : Nat → Heap → Prop} {J : It} {Q : VK} {R : Result → Shared → Prop}
    (hc : B.calm = true) (hx : B.xe = fun _ _ => False) (hpn : B.pn = []) (hg : PG B tg g) (ht : PIf B ifs tt) (he : PE B elt te)
    (I : Inv B [] (σ ++ List.replicate n none) H s) (T : Turn B.prog B.w B.K tg J fp it tn) (st : tn 0 s.heap) (hf : ∀ b ∈ fp, FpOk B [] H b) (hfD : FpOk B [] H D) (hDf : ∀ b ∈ fp, D ≠ b)
    (hD : s.heap.get? D = some { cls := .type "list", data := .seq ([] : List Value).toArray 0 }) (W : Nat → Nat → List V → Hp → Prop) (w0 : ∃ m, W 0 m [] H) (hw : CompW n J g tt te σ Q W)
    (fin : ∀ s' H' ys its k, Inv B [] (σ ++ List.replicate n none) H' s' → H' D = none → s'.heap.get? D = some { cls := .type "list", data := .seq (List.toArray its) k } → Vals ys its → ys.length ≤ sizeLine →
      (∀ p, H' p = none → Q (.ref p) (upd H' p (.lst ys))) → R (.ok .next) s') :
    codeAny (model B.prog B.w) B.A (.compLoop (.ListComp elt [⟨tg, iter, ifs, 0⟩] scope pos) 0 (.ref it) (.ref D) B.env) R s := by
  obtain ⟨m0, w0⟩ := w0
  have no : ∀ e t, B.xe e t → False := fun e t z => by rw [hx] at z; exact z
  refine compLoop_any (fun q s' => ∃ i H' ys its k, Inv B [] (σ ++ List.replicate n none) H' s' ∧ tn i s'.heap ∧ (∀ b ∈ fp, H' b = none) ∧ H' D = none ∧ s'.heap.get? D = some { cls := .type "list", data := .seq (List.toArray its) k } ∧ Vals ys its ∧ W i q ys H') ?_ m0
    ⟨0, H, [], [], 0, I, st, fun b hb => (hf b hb).1, hfD.1, hD, .nil, w0⟩
  rintro q s' ⟨i, H', ys, its, k, I', st', fr', hDn, hDo, rv, w'⟩
  have fD : ∀ {H2 : Hp}, H2 D = none → FpOk B [] H2 D := fun z => ⟨z, hfD.2⟩
  have Ip : Inv B [(D, { cls := .type "list", data := .seq (List.toArray its) k })] (σ ++ List.replicate n none) H' s' := I'.pins_of fun p hp => by
    obtain rfl := List.mem_singleton.mp hp
    exact ⟨hDo, hDn, hfD.2.1, hfD.2.2.1, fun v z => by cases z⟩
  have ff : ∀ {H2 : Hp}, (∀ b ∈ fp, H2 b = none) → ∀ b ∈ fp, FpOk B [(D, { cls := .type "list", data := .seq (List.toArray its) k })] H2 b := fun z b hb => by
    obtain ⟨_, f1, f2, f3, f4, _⟩ := hf b hb
    refine ⟨z b hb, f1, f2, f3, f4, fun p hp => ?_⟩
    rw [hpn] at hp
    obtain rfl := List.mem_singleton.mp hp
    exact hDf b hb
  rcases hw i q ys H' w' with ⟨stop, hz, qq⟩ | ⟨go, hz, N, hN, step⟩
  · refine wpAny_mono (T.done B rfl rfl rfl hc i _ s' _ H' (fun _ _ => False) Ip (ff fr') st' stop) (fun r s1 ⟨hr, I1⟩ => .inl ⟨hr, ?_⟩) fun _ _ z => z
    have pD := I1.pin _ (List.mem_append_right _ (List.mem_singleton.mpr rfl))
    exact fin s1 H' ys its k (I1.pins_of fun p hp => nomatch hp) hDn pD.1 rv hz qq
  · refine wpAny_mono (T.item B rfl rfl rfl hc i _ s' _ H' (fun _ _ => False) Ip (ff fr') st' go) (fun r s1 ⟨u, hr, h4⟩ => .inr ⟨u, hr, wpAny_mono h4 (fun _ s2 ⟨x, H2, I2, r2, y2, st2, fr2⟩ => ?_) fun _ _ z => z⟩) fun _ _ z => z
    have I2' := I2.pinned (ff fr2) (T.obj _ _ st2)
    refine wpAny_mono (hg _ s2 _ H2 x u _ I2' r2 (step x H2 y2)) (fun _ s3 ⟨σ3, H3, I3, tk3, q3⟩ => ?_) no
    refine wpAny_mono (ht _ s3 σ3 H3 _ I3 q3) (fun ok s4 ⟨H4, I4, q4⟩ => ?_) no
    have wk : ∀ {H9 : Hp} {s9 : Shared}, Inv B ([(D, { cls := .type "list", data := .seq (List.toArray its) k })] ++ pinsAt fp s2.heap) σ3 H9 s9 → Inv B [] (σ ++ List.replicate n none) H9 s9 := fun {H9 s9} I9 => by
      refine (I9.pins_of (pins' := []) fun p hp => nomatch hp).weak ?_ fun j v e => ?_
      · rw [I.len, I9.len]
      · have hj : j < σ.length := by
          by_cases hj : j < σ.length
          · exact hj
          · rw [List.getElem?_append_right (Nat.le_of_not_lt hj), List.getElem?_replicate] at e
            split at e <;> cases e
        rw [List.getElem?_append_left hj, ← tk3, List.getElem?_take_of_lt hj] at e
        exact e
    have pinD : ∀ {H9 : Hp} {s9 : Shared}, Inv B ([(D, { cls := .type "list", data := .seq (List.toArray its) k })] ++ pinsAt fp s2.heap) σ3 H9 s9 → s9.heap.get? D = some { cls := .type "list", data := .seq (List.toArray its) k } ∧ H9 D = none := fun I9 =>
      let z := I9.pin (D, _) (List.mem_append_right _ (List.mem_append_left _ (List.mem_singleton.mpr rfl)))
      ⟨z.1, z.2.1⟩
    have pinF : ∀ {H9 : Hp} {s9 : Shared}, Inv B ([(D, { cls := .type "list", data := .seq (List.toArray its) k })] ++ pinsAt fp s2.heap) σ3 H9 s9 → tn (i + 1) s9.heap ∧ ∀ b ∈ fp, H9 b = none := fun I9 =>
      ⟨T.keep _ _ _ st2 fun b hb o e => (I9.pin (b, o) (List.mem_append_right _ (List.mem_append_right _ (mem_pinsAt hb e)))).1, fun b hb => by
        obtain ⟨o, e, _⟩ := T.obj _ _ st2 b hb
        exact (I9.pin (b, o) (List.mem_append_right _ (List.mem_append_right _ (mem_pinsAt hb e)))).2.1⟩
    cases ok with
    | false =>
      obtain ⟨m', hm, w4⟩ := hN ys H4 (show N ys H4 from q4)
      exact ⟨m', hm, i + 1, H4, ys, its, k, wk I4, (pinF I4).1, (pinF I4).2, (pinD I4).2, (pinD I4).1, rv, w4⟩
    | true =>
      rw [if_pos rfl]
      refine wpAny_mono (he _ s4 σ3 H4 _ I4 q4) (fun v s5 ⟨y, H5, I5, r5, n5⟩ => ?_) no
      obtain ⟨m', hm, w5⟩ := hN _ H5 n5
      obtain ⟨e5, d5⟩ := pinD I5
      have hlen := rv.length
      refine call_meets F.slot_list_append ⟨_, e5, rfl⟩ F.entry_list_append (F.args_list_append_2 _ _) (PySem.list_append D its.toArray k v (by rw [List.size_toArray]; omega)) ⟨e5, ?_⟩
      have up := PySem.IsL.update e5 (·.push v)
      have up2 : ∃ k2, (s5.heap.update D (Obj.mapSeq (·.push v))).get? D = some { cls := .type "list", data := .seq (List.toArray (its ++ [v])) k2 } := by
        rw [show its.toArray.push v = List.toArray (its ++ [v]) by simp] at up
        exact ⟨_, up⟩
      obtain ⟨k2, up2⟩ := up2
      have oth : ∀ b o, b ≠ D → s5.heap.get? b = some o → (s5.heap.update D (Obj.mapSeq (·.push v))).get? b = some o := fun b o hb e => (Heap.get?_update_other s5.heap (Obj.mapSeq (·.push v)) (Ne.symm hb)).trans e
      obtain ⟨g0, g1, g2, g3, g4, g5⟩ := fD (H2 := H5) d5
      have I6 := (wk I5).turned (t' := s5.toks) oth g0 g1 g3 g4 g5
      refine ⟨m', hm, i + 1, H5, ys ++ [y], its ++ [v], k2, I6, ?_, (pinF I5).2, d5, up2, rv.append (.cons r5 .nil), w5⟩
      exact T.keep _ _ _ (pinF I5).1 fun b hb o e => oth b o (Ne.symm (hDf b hb)) e
theorem comp_block {pins : List (Addr × Obj)} {σ : St} {H : Hp} {s : Shared} {it : Addr} {fp : List Addr} {tn : Nat → Heap → Prop} {J : It} {Q : VK} {E : Value → Shared → Prop} {RR : Value → Addr → Result → Shared → Prop}
    (hc : X.calm = true) (K : CompOk scope xs X.env.scope X.N) (hg : ∀ cl C s₀ H₀ ex, PG (blk X scope xs cl C s₀ H₀ ex) tg g) (ht : ∀ cl C s₀ H₀ ex, PIf (blk X scope xs cl C s₀ H₀ ex) ifs tt) (he : ∀ cl C s₀ H₀ ex, PE (blk X scope xs cl C s₀ H₀ ex) elt te)
    (I : Inv X pins σ H s) (T : Turn X.prog X.w X.K tg J fp it tn) (st : tn 0 s.heap) (hf : ∀ b ∈ fp, FpOk X pins H b) (W : Nat → Nat → List V → Hp → Prop) (w0 : ∃ m, W 0 m [] H) (hw : CompW xs.length J g tt te σ Q W)
    (fin : ∀ D C s' H' ys oC m, s'.heap.get? C = some oC → s'.heap.Ns C m → Inv X (pins ++ [(C, oC)]) σ (upd H' D (.lst ys)) s' → FpOk X pins (upd H' D (.lst ys)) C → Q (.ref D) (upd H' D (.lst ys)) → RR (.ref D) C (.ok .next) s') :
    wpAny (model X.prog X.w) X.A (newList []) (fun acc s₃ => wpAny (model X.prog X.w) X.A (newFunctionEnv scope X.env.globals (clFold X.env scope.names []) [] X.env.qual none .none (some X.env)) (fun cenv s₄ =>
      codeAny (model X.prog X.w) X.A (.compStart (.ListComp elt [⟨tg, iter, ifs, 0⟩] scope pos) 0 (.ref it) acc { cenv with scope := relabel scope X.env }) (RR acc cenv.locals) s₄) E s₃) E s := by
  have hfl : ∀ b ∈ fp, b < s.heap.objs.size := fun b hb => by
    obtain ⟨o, e, _⟩ := T.obj 0 _ st b hb
    exact Heap.lt_size e
  refine wpAny_newObj_type (wpAny_newFunctionEnv K.nocell (by intro y hy; simp at hy) (fun h₁ hns hsb => ?_) K.kind)
  dsimp only at hns hsb ⊢
  generalize hP : s.heap.push { cls := .type "list", dict := none, data := .seq ([] : List Value).toArray } = P at hns hsb ⊢
  have hCs : P.objs.size = s.heap.objs.size + 1 := by rw [← hP, Heap.size_push]
  have hDC : s.heap.objs.size ≠ P.objs.size := by rw [hCs]; exact Nat.ne_of_lt (Nat.lt_succ_self _)
  have hC : s.heap.objs.size ≤ P.objs.size := by rw [hCs]; exact Nat.le_succ _
  have keep : ∀ b o, s.heap.get? b = some o → h₁.get? b = some o := fun b o e => by
    refine hsb.extBut b o ?_ (Heap.get?_push_of_some _ (hP ▸ Heap.get?_push_of_some _ e))
    have := Heap.lt_size e
    exact Nat.ne_of_lt (Nat.lt_of_lt_of_le this hC)
  have hD : h₁.get? s.heap.objs.size = some { cls := .type "list", data := .seq ([] : List Value).toArray 0 } := hsb.extBut _ _ hDC (Heap.get?_push_of_some _ (hP ▸ Heap.get?_push_size _ rfl))
  have IB := blk_inv (scope := scope) (xs := xs) (tk := s.toks + ([] : List (Str × Value)).length) I K hC hf hfl keep hns
  have fC : ∀ {H2 : Hp}, H2 P.objs.size = none → FpOk X pins H2 P.objs.size := fun z => I.fpOk hC z
  have look : ∀ x c, (clFold X.env scope.names []).lookup x = some c → X.env.cells.lookup x = some c := fun x c e => clFold_look scope.names [] (fun y hy hk => by
    obtain ⟨c, hc⟩ := I.ok.has y.1 (K.free y hy hk)
    rw [hc]; rfl) (fun y d z => by cases z) e
  have nstk : ∀ b, s.heap.objs.size ≤ b → b ∉ frs X.stack := fun b hb hm => by
    rcases List.mem_cons.mp (I.stkSub b hm) with z | z
    · exact absurd (Nat.lt_of_lt_of_le I.lt (z ▸ hb)) (Nat.lt_irrefl _)
    · exact I.nofs hb z
  have loop : codeAny (model X.prog X.w) X.A (.compLoop (.ListComp elt [⟨tg, iter, ifs, 0⟩] scope pos) 0 (.ref it) (.ref s.heap.objs.size) (compEnvC scope (clFold X.env scope.names []) P.objs.size X.env))
      (RR (.ref s.heap.objs.size) P.objs.size) { s with heap := h₁, toks := s.toks + ([] : List (Str × Value)).length } := by
    refine comp_loop (B := blk X scope xs (clFold X.env scope.names []) P.objs.size s H fp) (D := s.heap.objs.size) hc rfl rfl (hg _ _ _ _ _) (ht _ _ _ _ _) (he _ _ _ _ _) IB T (T.keep _ _ _ st fun b _ o e => keep b o e) (fun b hb => ?_) ?_ (fun b hb => Nat.ne_of_gt (hfl b hb)) hD W w0 hw ?_
    · refine ⟨(hf b hb).1, Nat.ne_of_lt (Nat.lt_of_lt_of_le (hfl b hb) hC), ?_, .inl hb, fun x c e => (hf b hb).2.2.2.2.1 x c (look x c e), fun p hp => absurd (show p ∈ ([] : List (Addr × Obj)) from hp) (by simp)⟩
      intro hm
      rcases List.mem_cons.mp (I.stkSub b hm) with z | z
      · exact (hf b hb).2.1 z
      · exact (hf b hb).2.2.1 z
    · refine ⟨I.hok.fresh (Nat.le_refl _), hDC, nstk _ (Nat.le_refl _), .inr (Nat.le_refl _), fun x c e z => ?_, fun p hp => absurd (show p ∈ ([] : List (Addr × Obj)) from hp) (by simp)⟩
      obtain ⟨v, q⟩ := I.cell x c (look x c e)
      exact absurd q.lt (by rw [z]; exact Nat.lt_irrefl _)
    · intro s' H' ys its k I' hDn hDo rv hz qq
      obtain ⟨m, hnC, _⟩ := id I'.loc
      obtain ⟨oC, es, ep, hoC, hdC, _⟩ := id hnC
      have u := I'.base
      have low : ∀ b o, s.heap.get? b = some o → b ≠ s.heap.objs.size := fun b o e => Nat.ne_of_lt (Heap.lt_size e)
      have lowH : ∀ b o, H b = some o → b ≠ s.heap.objs.size := fun b o e => ne_of_none e (I.hok.fresh (Nat.le_refl _))
      have u' : Un (frs X.stack) fp H (upd H' s.heap.objs.size (.lst ys)) s.heap s'.heap :=
        ⟨u.keep, u.slot, fun b o e n hx => by rw [upd_ne (low b o e)]; exact u.free b o e n hx, u.there, fun b ts e => by rw [upd_ne (lowH b _ e)]; exact u.tups b ts e,
          fun b o v e => by rw [upd_ne (lowH b _ e)]; exact u.frzs b o v e, fun b ps e => by rw [upd_ne (lowH b _ e)]; exact u.tbls b ps e⟩
      have hok' := HOk.adopt (o := .lst ys) I'.hok hDn ⟨hz, its, k, rv, hDo⟩
      have J1 : Inv X pins σ (upd H' s.heap.objs.size (.lst ys)) s' := I.call' (ch := fp) I'.os u' hok' I'.bare fun b hb => ⟨(hf b hb).2.2.2.1, (hf b hb).2.1, (hf b hb).2.2.2.2.1, (hf b hb).2.2.2.2.2⟩
      have hCn : upd H' s.heap.objs.size (.lst ys) P.objs.size = none := by rw [upd_ne (Ne.symm hDC)]; exact I'.free
      have fc := fC hCn
      refine fin _ _ s' H' ys oC m hoC hnC (J1.pins_of fun p hp => ?_) fc (qq _ hDn)
      rcases List.mem_append.mp hp with z | z
      · exact J1.pin p (List.mem_append_right _ z)
      · obtain rfl := List.mem_singleton.mp z
        exact ⟨hoC, hCn, fc.2.1, fc.2.2.1, fun v z => by rw [hdC] at z; cases z⟩
  exact codeAny_compStart_list loop (T.self _ 0 _ _ _ (T.keep _ _ _ st fun b _ o e => keep b o e) loop)
/-- name = [elt for tg in iter if ..], the name a plain local of the def -/
theorem ps_comp {wi : TI} {i : Nat} {y : Str} {py spos : Pos} (hN : X.N.Nodup) (hi' : X.N[i]? = some y) (hy : X.env.scope.names.lookup y = some .local) (hc : X.calm = true) (K : CompOk scope xs X.env.scope X.N) (hi : PI X tg iter wi)
    (hg : ∀ cl C s₀ H₀ ex, PG (blk X scope xs cl C s₀ H₀ ex) tg g) (ht : ∀ cl C s₀ H₀ ex, PIf (blk X scope xs cl C s₀ H₀ ex) ifs tt) (he : ∀ cl C s₀ H₀ ex, PE (blk X scope xs cl C s₀ H₀ ex) elt te)
    (hsw : swapsWith (.ListComp elt [⟨tg, iter, ifs, 0⟩] scope pos) (some (.Name y py)) spos.line X.env = pure true) (hs : ∀ x, foldedSetIterable iter X.env x = pure x := by intro _; rfl) :
    PS X (.Assign [.Name y py] (.ListComp elt [⟨tg, iter, ifs, 0⟩] scope pos) spos) (tAsg (tComp xs.length wi g tt te) (gName i)) := by
  intro pins s σ H D0 I h
  have hcl : ∀ y ∈ scope.names, y.2 = .free → (X.env.cells.lookup y.1).isSome = true := fun y hy hk => by
    obtain ⟨c, hc⟩ := I.ok.has y.1 (K.free y hy hk)
    rw [hc]; rfl
  rw [exec_Assign_Name_used _ _ _ _ hsw]
  refine wpAny_bind (wpAny_standAt (wpAny_bind ?_))
  show wpAny _ _ (comprehension (.ListComp elt [⟨tg, iter, ifs, 0⟩] scope pos) scope X.env _ (newList []) false (eval iter X.env) (some (assign (.Name y py) X.env)) >>= fun _ => pure ()) _ _ s
  refine wpAny_bind (wpAny_mono (wpAny_comprehension_free (use := some (assign (.Name y py) X.env)) (Q := fun _ s' => SP X pins D0 .next s') rfl hs (closure_eq hcl) K.kind K.loc (thn (hi pins s σ H _ I h) fun v s1 h1 => thn h1 fun itv s2 h2 => ?_)) (fun _ s' hq => wpAny_pure (wpAny_pure hq)) fun _ _ z => z)
  obtain ⟨it, fp, tn, J, H2, e, I2, T, st2, f2, W, w0, hw⟩ := h2
  subst e
  refine comp_block (RR := fun acc C => compPost (model X.prog X.w) X.A X.xe (some (assign (.Name y py) X.env)) (fun _ s' => SP X pins D0 .next s') acc C) hc K hg ht he I2 T st2 f2 W w0 hw ?_
  intro D C s' H' ys oC m hoC hnC J fc q
  show wpAny _ _ (assign (.Name y py) X.env (.ref D)) _ _ s'
  refine wpAny_assign_Name (store_ok J hN hi' (.inl hy) (show RelV (.ref D) (.ref D) from rfl) (fun s2 I3 => ?_) (.inr hy))
  have pC := I3.pin (C, oC) (List.mem_append_right _ (List.mem_append_right _ (List.mem_singleton.mpr rfl)))
  obtain ⟨o, es, ep, ho, r⟩ := hnC
  rw [hoC] at ho
  cases ho
  refine ⟨m, ⟨oC, es, ep, pC.1, r⟩, fun h' hsb => ⟨_, _, ?_, q⟩⟩
  exact (I3.pins_of (pins' := pins) fun p hp => I3.pin p (List.mem_append_right _ (List.mem_append_left _ hp))).turned (t' := s2.toks) (fun b o hb e => hsb.extBut b o hb e) fc.1 fc.2.1 fc.2.2.2.1 fc.2.2.2.2.1 fc.2.2.2.2.2
end
end KS
end
section
set_option Elab.async false
set_option maxRecDepth 100000
set_option maxHeartbeats 4000000
set_option linter.all false
namespace KS
open PySem PySem.Spec L2
open PyProof.Rows hiding St
section
variable {X : Cx} {elt tg iter : Expr} {ifs : List Expr} {scope : Scope} {x : Str} {pos : Pos} {g : TG} {tt : TT} {te : TE}
end
end KS
end
section
set_option maxRecDepth 100000
set_option maxHeartbeats 4000000
namespace KS
open PySem PySem.Spec L2
open PyProof.Rows hiding St
section
variable {X : Cx}
/-- these addresses hold these tuples -/
noncomputable abbrev Tups (H : Hp) (kf : Addr → List Int) (rs : List Addr) : Prop := ∀ r ∈ rs, H r = some (.tup ((kf r).map V.int))
/-- t in xs, a tuple of ints in a list of such -/
noncomputable def rInT (K : PySem.W.Frag) (neg : Bool) : R2 := fun x y H Q => ∃ (a p : Addr) (rs : List Addr) (kf : Addr → List Int), x = .ref a ∧ y = .ref p ∧ SqL K H p (rs.map V.ref) ∧ Tups H kf rs ∧ H a = some (.tup ((kf a).map V.int)) ∧
  Q (.bl (if neg then !decide (kf a ∈ rs.map kf) else decide (kf a ∈ rs.map kf))) H
theorem ObjOk.there {P : Program} {w : World} {H : Hp} {h : Heap} {a : Addr} {o : HO} (x : ObjOk P w H h a o) : ∃ ob, h.get? a = some ob := by
  cases o with
  | lst xs => obtain ⟨_, _, _, _, e⟩ := x; exact ⟨_, e⟩
  | tup xs => obtain ⟨_, _, _, _, e, _⟩ := x; exact ⟨_, e⟩
  | dK kvs => obtain ⟨_, _, _, _, o, _, _, e, _⟩ := x; exact ⟨_, e⟩
  | dT kvs => obtain ⟨_, _, _, _, o, _, _, e, _⟩ := x; exact ⟨_, e⟩
  | set S n => obtain ⟨o, _, _, _, e, _⟩ := x; exact ⟨_, e⟩
  | ins C dx fs => obtain ⟨_, _, _, e, _⟩ := x; exact ⟨_, e⟩
  | own y => obtain ⟨_, e⟩ := x; exact ⟨_, e⟩
  | xd fs => obtain ⟨_, ⟨_, _, _, e, _⟩, _⟩ := x; exact ⟨_, e⟩
  | rng lo hi => obtain ⟨_, _, _, e⟩ := x; exact ⟨_, e⟩
  | frz ob u => obtain ⟨e, _⟩ := x; exact ⟨_, e⟩
  | tbl ps => exact ⟨_, (show h.get? a = some _ from x)⟩
  | met f y => exact ⟨_, (show h.get? a = some _ from x)⟩
  | ext φ => obtain ⟨_, ⟨_, e⟩, _⟩ := x; exact ⟨_, e⟩
end
end KS
end
section
set_option maxRecDepth 100000
set_option maxHeartbeats 4000000
set_option linter.all false
namespace KS
open PySem PySem.Spec L2
open PyProof.Rows hiding St
section
variable {X : Cx}
theorem call_isinst : CallR X (.builtin "isinstance") (fun xs H Q => ∃ (x : V) (T : String) (t : Value) (b : Bool), xs = [x, .ty T] ∧ TyOf X.K H x t ∧ PySem.W.kitOne X.K t (.type T) = some b ∧ Q (.bl b) H) := by
  intro pins s σ H xs us Q I r h
  obtain ⟨x, T, t, b, rfl, ty, e, q⟩ := h
  obtain ⟨u, v, rfl, rx, ry⟩ := r.two
  obtain rfl : v = Value.type T := ry
  exact isinst_ok I rx ty e fun tk => ⟨.bl b, H, I.tok tk, rfl, q⟩
theorem kit1 (K : PySem.W.Frag) : PySem.W.kitOne K (.type "int") (.type "int") = some true := by rfl
theorem kit2 (K : PySem.W.Frag) : PySem.W.kitOne K (.type "int") (.type "bool") = some false := by rfl
theorem kit3 (K : PySem.W.Frag) : PySem.W.kitOne K (.type "list") (.type "list") = some true := by rfl
variable {K : PySem.W.Frag}
theorem ixL (hK : X.K = K) : IxR X (rIxL K) := hK ▸ ix_list
theorem ixT (hK : X.K = K) : IxR X (rIxT K) := hK ▸ ix_tup
end
end KS
end
section
set_option maxRecDepth 100000
set_option maxHeartbeats 4000000
set_option linter.all false
namespace KS
open PySem PySem.Spec L2
open PyProof.Rows hiding St
section
variable {X : Cx}
end
end KS
end
section
set_option maxRecDepth 100000
set_option maxHeartbeats 4000000
set_option linter.all false
namespace KS
open PySem PySem.Spec L2
open PyProof.Rows hiding St
section
variable {X : Cx} {K : PySem.W.Frag}
noncomputable def rLenS (K : PySem.W.Frag) : List V → Hp → VK → Prop := fun xs H Q => ∃ p ys, xs = [.ref p] ∧ (SqL K H p ys ∨ SqT K H p ys) ∧ Q (.int ys.length) H
theorem lenS (hK : X.K = K) : CallR X (.builtin "len") (rLenS K) := hK ▸ call_len_seq
noncomputable def rIsin (K : PySem.W.Frag) : List V → Hp → VK → Prop := fun xs H Q => ∃ (x : V) (T : String) (t : Value) (b : Bool), xs = [x, .ty T] ∧ TyOf K H x t ∧ PySem.W.kitOne K t (.type T) = some b ∧ Q (.bl b) H
theorem isinS (hK : X.K = K) : CallR X (.builtin "isinstance") (rIsin K) := hK ▸ call_isinst
theorem piL {tg l : Expr} {tl : TE} (hK : X.K = K) (hl : PE X l tl) : PI X tg l (iList K tl) := hK ▸ pi_list hl
theorem slL (hK : X.K = K) : SlR X (rSlL K) := hK ▸ sl_list
variable {o e : Expr} {es : List Expr} {to : TE} {t : TA} {name : Str} {apos cpos : Pos} {T id : String} {r : V → List V → Hp → VK → Prop}
theorem peM (hK : X.K = K) (pa : PlainAttrs T) (slot : Slot T name id) (hty : typeOf (.builtin id) = pure (.type "method_descriptor")) (hm : MtR X id r) (ho : PE X o to) (ha : PA X (e :: es) t)
    (hbase : attributeBase o name X.env (eval o X.env) = eval o X.env := by rfl)
    (hfew : ((backTo cpos (starEach (e :: es) X.env)).all (fun x => !x.1) && (backToKw cpos (keywordEach [] X.env)).all (fun x => x.1.isSome)
      && decide ((e :: es).length + ([] : List Keyword).length + (if ([] : List Keyword).isEmpty then 0 else 1) < 30)) = true := by rfl)
    (hline : (apos.endLine == cpos.line) = true := by rfl) (hs : starEach (e :: es) X.env = (false, eval e X.env) :: starEach es X.env := by rfl) (hplain : (backTo cpos (starEach es X.env)).any (·.1) = false := by rfl) :
    PE X (.Call (.Attribute o name apos) (e :: es) [] cpos) (tBM K T r to t) := hK ▸ pe_bm pa slot hty hm ho ha hbase hfew hline hs hplain
end
end KS
end
section
set_option maxRecDepth 100000
set_option maxHeartbeats 4000000
set_option linter.all false
namespace KS
open PySem PySem.Spec L2
open PyProof.Rows hiding St
section
variable {X : Cx} {K : PySem.W.Frag}
end
end KS
end
section
set_option maxRecDepth 100000
set_option linter.all false
namespace KT
open PySem PySem.Builtin PySem.Builtin.Str PySem.StrLaws
/-- where c stands -/
noncomputable def pos (c : Nat) : List Nat → Nat → List Nat
  | [], _ => []
  | a :: l, i => if a = c then i :: pos c l (i + 1) else pos c l (i + 1)
/-- parts, c between them -/
noncomputable def gl (c : Nat) : List (List Nat) → List Nat
  | [] => []
  | [p] => p
  | p :: q :: r => p ++ c :: gl c (q :: r)
theorem pos_no {c : Nat} : ∀ {l : List Nat} {i : Nat}, c ∉ l → pos c l i = []
  | [], _, _ => rfl
  | a :: l, i, h => by
    unfold pos
    rw [if_neg (fun e : a = c => h (by rw [e]; exact List.mem_cons_self))]
    exact pos_no fun z => h (List.mem_cons_of_mem _ z)
theorem pos_at {c : Nat} {m : List Nat} : ∀ {l : List Nat} {i : Nat}, c ∉ l → pos c (l ++ c :: m) i = (i + l.length) :: pos c m (i + l.length + 1)
  | [], i, _ => by
    show (if c = c then i :: pos c m (i + 1) else pos c m (i + 1)) = _
    rw [if_pos rfl]
    rfl
  | a :: l, i, h => by
    show (if a = c then i :: pos c (l ++ c :: m) (i + 1) else pos c (l ++ c :: m) (i + 1)) = _
    rw [if_neg (fun e : a = c => h (by rw [e]; exact List.mem_cons_self)), pos_at fun z => h (List.mem_cons_of_mem _ z), List.length_cons]
    rw [show i + 1 + l.length = i + (l.length + 1) by omega]
theorem occ_loop (x : Str) (c : Nat) : ∀ (k a : Nat) (arr : Array Nat) (free : Nat), a + k = x.length + 1 → free ≤ a → arr.size ≤ a →
    (forIn (List.range' a k) (arr, free) (occBody x ⟨#[c]⟩ x.length (x.length + 1))).run.fst.toList = arr.toList ++ pos c (x.cps.toList.drop a) a
  | 0, a, arr, free, hk, hf, hs => by
    have hn : x.cps.toList.length = x.length := by simp [Str.length]
    rw [List.drop_eq_nil_of_le (by omega)]
    show arr.toList = arr.toList ++ []
    rw [List.append_nil]
  | k + 1, a, arr, free, hk, hf, hs => by
    have hn : x.cps.toList.length = x.length := by simp [Str.length]
    rw [List.range'_succ, List.forIn_cons]
    unfold occBody
    by_cases hc : x.cps.toList[a]? = some c
    · have h1 := (subAt_one x c a).mpr hc
      rw [if_pos ⟨⟨⟨by show arr.size < _; omega, hf⟩, h1.1⟩, h1.2⟩]
      obtain ⟨hlt, he⟩ := List.getElem?_eq_some_iff.mp hc
      have ih := occ_loop x c k (a + 1) (arr.push a) (a + 1) (by omega) (Nat.le_refl _) (by rw [Array.size_push]; omega)
      rw [Array.toList_push] at ih
      rw [List.drop_eq_getElem_cons hlt, he]
      show _ = _ ++ (if c = c then a :: pos c _ (a + 1) else pos c _ (a + 1))
      rw [if_pos rfl]
      refine Eq.trans ih ?_
      rw [List.append_assoc]
      rfl
    · rw [if_neg fun h => hc ((subAt_one x c a).mp ⟨h.1.2, h.2⟩)]
      have ih := occ_loop x c k (a + 1) arr free (by omega) (by omega) (by omega)
      refine Eq.trans ih ?_
      by_cases hlt : a < x.cps.toList.length
      · rw [List.drop_eq_getElem_cons hlt]
        show _ = _ ++ (if x.cps.toList[a] = c then a :: pos c _ (a + 1) else pos c _ (a + 1))
        rw [if_neg fun e => hc (by rw [List.getElem?_eq_getElem hlt, e])]
      · rw [List.drop_eq_nil_of_le (by omega), List.drop_eq_nil_of_le (by omega)]
        rfl
theorem occ_pos (x : Str) (c : Nat) : occurrences x ⟨#[c]⟩ 0 x.length (x.length + 1) = pos c x.cps.toList 0 := by
  rw [occ_eq]
  have := occ_loop x c (x.length + 1 - 0) 0 #[] 0 (by omega) (Nat.le_refl _) (Nat.le_refl _)
  rw [this]
  rfl
theorem parts_gl (x : Str) (c : Nat) : ∀ (ps : List (List Nat)) (a : Nat), ps ≠ [] → (∀ p ∈ ps, c ∉ p) → x.cps.toList.drop a = gl c ps → partsFrom x 1 a (pos c (x.cps.toList.drop a) a) = ps.map fun p => (⟨p.toArray⟩ : Str)
  | [], _, h, _, _ => absurd rfl h
  | [p], a, _, hc, e => by
    have e' : x.cps.toList.drop a = p := e
    rw [e', pos_no (hc p List.mem_cons_self)]
    show [strSub x a x.length] = [_]
    congr 1
    apply Str.ext'
    apply Array.toList_inj.mp
    rw [strSub_toList, e']
    have hl := congrArg List.length e'
    rw [List.length_drop] at hl
    have hn : x.cps.toList.length = x.length := by simp [Str.length]
    rw [List.take_of_length_le (by omega)]
  | p :: q :: r, a, _, hc, e => by
    have e' : x.cps.toList.drop a = p ++ c :: gl c (q :: r) := e
    have hl := congrArg List.length e'
    rw [List.length_drop, List.length_append, List.length_cons] at hl
    have hd : x.cps.toList.drop (a + p.length + 1) = gl c (q :: r) := by
      rw [Nat.add_assoc, ← List.drop_drop, e', List.drop_append]
      simp
    rw [e', pos_at (hc p List.mem_cons_self)]
    show strSub x a (a + p.length) :: partsFrom x 1 (a + p.length + 1) (pos c (gl c (q :: r)) (a + p.length + 1)) = _
    rw [← hd, parts_gl x c (q :: r) (a + p.length + 1) (List.cons_ne_nil _ _) (fun z hz => hc z (List.mem_cons_of_mem _ hz)) hd]
    show _ = (⟨p.toArray⟩ : Str) :: _
    congr 1
    apply Str.ext'
    apply Array.toList_inj.mp
    rw [strSub_toList, e', Nat.add_sub_cancel_left]
    simp
/-- cut at c -/
theorem split_gl (c : Nat) {ps : List (List Nat)} (hne : ps ≠ []) (hc : ∀ p ∈ ps, c ∉ p) {x : Str} (hx : x = ⟨(gl c ps).toArray⟩) : partsBetween x (occurrences x ⟨#[c]⟩ 0 x.length (x.length + 1)) 1 = ps.map fun p => (⟨p.toArray⟩ : Str) := by
  rw [partsBetween_eq, occ_pos]
  have e : x.cps.toList = gl c ps := by rw [hx]
  have := parts_gl x c ps 0 hne hc (by rw [List.drop_zero]; exact e)
  rw [List.drop_zero] at this
  exact this
end KT
end
section
set_option maxRecDepth 100000
set_option maxHeartbeats 4000000
set_option linter.all false
namespace KS
open PySem PySem.Spec L2
open PyProof.Rows hiding St
section
variable {X : Cx} {K : PySem.W.Frag}
noncomputable def rStrI : List V → Hp → VK → Prop := fun xs H Q => ∃ i : Int, xs = [.int i] ∧ i.natAbs.log2 < 1920 ∧ Q (.str (Str.ofString (toString i))) H
theorem call_strI : CallR X (.type "str") rStrI := by
  intro pins s σ H xs us Q I r h
  obtain ⟨i, rfl, hi, q⟩ := h
  obtain ⟨u, rfl, rx⟩ := vals1 r
  obtain ⟨t, rfl⟩ := rx
  exact P.str_of_int hi ⟨.str _, H, I.tok _, ⟨_, rfl⟩, q⟩
noncomputable def rCatS : R2 := fun x y H Q => ∃ a b : Str, x = .str a ∧ y = .str b ∧ a.length + b.length ≤ sizeLine ∧ Q (.str (a ++ b)) H
theorem op_catS : OpR X (binaryOp .Add) rCatS := by
  intro pins s σ H x y v u Q I rx ry h
  obtain ⟨a, b, rfl, rfl, hz, q⟩ := h
  obtain ⟨t, rfl⟩ := rx
  obtain ⟨t', rfl⟩ := ry
  exact PyProof.Rows.add_str (fun t' tk => ⟨.str _, H, I.tok _, ⟨_, rfl⟩, q⟩) hz
/-- {e} of an f-string, an int -/
noncomputable def tFv (te : TE) : TE := fun σ H Q => te σ H fun v H1 => ∃ i : Int, v = .int i ∧ i.natAbs.log2 < 1920 ∧ Q (.str (Str.ofString (toString i))) H1
theorem pe_fv {e : Expr} {te : TE} {pos : Pos} (he : PE X e te) : PE X (.FormattedValue e (-1) none pos) (tFv te) := by
  intro pins s σ H Q I h
  refine wpAny_FormattedValue_plain (thn (he pins s σ H _ I h) fun v s1 ⟨x, H1, I1, r1, i, e1, hi, q⟩ => ?_)
  subst e1
  obtain ⟨t, rfl⟩ := r1
  exact wpAny_formatField_int hi ⟨.str _, H1, I1.tok _, ⟨_, rfl⟩, q⟩
/-- an f-string of parts -/
noncomputable def tJn : List TE → Str → TE
  | [], acc => fun _ H Q => Q (.str acc) H
  | t :: ts, acc => fun σ H Q => t σ H fun v H1 => ∃ y : Str, v = .str y ∧ (acc ++ y).length ≤ sizeLine ∧ tJn ts (acc ++ y) σ H1 Q
theorem joins_of : ∀ {es : List Expr} {ts : List TE}, Paired (PE X) es ts → ∀ (acc : Str) (pins : List (Addr × Obj)) (s : Shared) (σ : St) (H : Hp) (Q : VK), acc.length ≤ sizeLine → Inv X pins σ H s → tJn ts acc σ H Q →
    Joins (model X.prog X.w) X.A X.xe (evalEach es X.env) acc (fun out s₁ => out.length ≤ sizeLine ∧ EP X pins σ Q (.str out s₁.toks) { s₁ with toks := s₁.toks + 1 }) s := by
  intro es ts hp
  induction hp with
  | nil => intro acc pins s σ H Q hz I h; exact ⟨hz, .str acc, H, I.tok _, ⟨_, rfl⟩, h⟩
  | cons he _ ih =>
    intro acc pins s σ H Q hz I h
    show wpAny _ _ _ _ _ _
    refine thn (he pins s σ H _ I h) fun v s1 ⟨x, H1, I1, r1, y, e1, hy, q⟩ => ?_
    subst e1
    obtain ⟨t, rfl⟩ := r1
    exact ⟨y, t, rfl, hy, ih _ pins s1 σ H1 Q hy I1 q⟩
theorem pe_jn {v1 v2 : Expr} {rest : List Expr} {ts : List TE} {pos : Pos} (hp : Paired (PE X) (v1 :: v2 :: rest) ts) : PE X (.JoinedStr (v1 :: v2 :: rest) pos) (tJn ts Str.empty) := by
  intro pins s σ H Q I h
  exact wpAny_JoinedStr (joins_of hp Str.empty pins s σ H Q (by decide) I h)
/-- x.split('c'), parts that hold no c -/
noncomputable def rSplit : V → List V → Hp → VK → Prop := fun x vs H Q => ∃ (c : Nat) (ps : List (List Nat)), x = .str ⟨(KT.gl c ps).toArray⟩ ∧ vs = [.str ⟨#[c]⟩] ∧ ps ≠ [] ∧ (∀ p ∈ ps, c ∉ p) ∧ c < 256 ∧ (∀ a ∈ KT.gl c ps, a < 256) ∧ (KT.gl c ps).length ≤ sizeLine ∧ ps.length ≤ sizeLine ∧
  ∀ l, H l = none → Q (.ref l) (upd H l (.lst (ps.map fun p => V.str ⟨p.toArray⟩)))
theorem vals_strs : ∀ (tk : Nat) (xs : List Str), Vals (xs.map V.str) (strsFrom tk xs)
  | _, [] => .nil
  | tk, x :: r => .cons ⟨tk, rfl⟩ (vals_strs (tk + 1) r)
theorem mt_split : MtM X "str.split" rSplit := by
  intro pins s σ H x vs v us Q I rx rv h
  obtain ⟨c, ps, rfl, rfl, hne, hc, hc2, ha, hz, hn, q⟩ := h
  obtain ⟨t, rfl⟩ := rx
  obtain ⟨u, rfl, ru⟩ := rv.one
  obtain ⟨t', rfl⟩ := ru
  generalize hx : (⟨(KT.gl c ps).toArray⟩ : Str) = x
  have hsp := KT.split_gl c hne hc hx.symm
  have hxl : x.length = (KT.gl c ps).length := by rw [← hx]; simp [Str.length]
  have fin : ∀ (its : List Value) (tk : Nat), Vals (ps.map fun p => V.str ⟨p.toArray⟩) its → EP X pins σ Q (.ref s.heap.objs.size) { s with toks := tk, heap := s.heap.push { cls := .type "list", data := .seq its.toArray } } := fun its tk r =>
    ⟨.ref s.heap.objs.size, _, I.laid (t' := tk) (fun b o e => Heap.get?_push_of_some _ e) (Nat.le_refl _) (show ObjOk X.prog X.w _ _ _ (.lst _) from ⟨by rw [List.length_map]; exact hn, its, 0, r, Heap.get?_push_size _ rfl⟩), rfl, q _ (I.hok.fresh (Nat.le_refl _))⟩
  have one : ∀ p, ps = [p] → x = ⟨p.toArray⟩ := fun p e => by rw [← hx, e]; rfl
  have kx : Builtin.Str.strKind x = 1 := by
    unfold Builtin.Str.strKind
    rw [if_pos]
    rw [← hx]
    simpa using ha
  have ky : Builtin.Str.strKind (⟨#[c]⟩ : Str) = 1 := by
    unfold Builtin.Str.strKind
    rw [if_pos (by simpa using hc2)]
  have hk : decide (Builtin.Str.strKind x < Builtin.Str.strKind (⟨#[c]⟩ : Str)) = false := by rw [kx, ky]; rfl
  have lenp : (Builtin.Str.partsBetween x (Builtin.Str.occurrences x ⟨#[c]⟩ 0 x.length (x.length + 1)) 1).length = (Builtin.Str.occurrences x ⟨#[c]⟩ 0 x.length (x.length + 1)).length + 1 := PyProof.Rows.len_partsBetween _ _ _
  have single : (Builtin.Str.occurrences x ⟨#[c]⟩ 0 x.length (x.length + 1)).isEmpty = true → Vals (ps.map fun p => V.str ⟨p.toArray⟩) [Value.str x t] := fun hf => by
    rw [hsp, List.length_map] at lenp
    rw [List.isEmpty_iff.mp hf] at lenp
    obtain ⟨p, e⟩ := List.length_eq_one_iff.mp lenp
    rw [one p e, e]
    exact .cons ⟨t, rfl⟩ .nil
  by_cases h0 : x.length = 0
  · have h1 : (decide (x.length < (⟨#[c]⟩ : Str).length) || decide (Builtin.Str.strKind x < Builtin.Str.strKind (⟨#[c]⟩ : Str))) = true := by
      rw [h0]; rfl
    refine call_meets F.slot_str_split (typeIs_str _ _ _) F.entry_str_split (F.args_str_split_2 _ _) (meets_str_split_cannot_occur x ⟨#[c]⟩ t t' h1) ?_
    refine fin _ s.toks (single ?_)
    rw [KT.occ_pos]
    have e : x.cps.toList = [] := List.length_eq_zero_iff.mp (by simpa [Str.length] using h0)
    rw [e]
    rfl
  · have h1 : (decide (x.length < (⟨#[c]⟩ : Str).length) || decide (Builtin.Str.strKind x < Builtin.Str.strKind (⟨#[c]⟩ : Str))) = false := by
      rw [hk, Bool.or_false]
      exact decide_eq_false (by show ¬ x.length < 1; omega)
    cases hf : (Builtin.Str.occurrences x ⟨#[c]⟩ 0 x.length (x.length + 1)).isEmpty with
    | true =>
      exact call_meets F.slot_str_split (typeIs_str _ _ _) F.entry_str_split (F.args_str_split_2 _ _) (meets_str_split_not_found x ⟨#[c]⟩ t t' h1 rfl hf) (fin _ s.toks (single hf))
    | false =>
      refine call_meets F.slot_str_split (typeIs_str _ _ _) F.entry_str_split (F.args_str_split_2 _ _) (meets_str_split_sep x ⟨#[c]⟩ t t' h1 rfl hf (by omega) (by
        show (Builtin.Str.partsBetween x _ 1).length ≤ _
        rw [hsp, List.length_map]; exact hn)) ?_
      refine fin _ _ ?_
      show Vals _ (strsFrom s.toks (Builtin.Str.partsBetween x _ 1))
      rw [hsp]
      have := vals_strs s.toks (ps.map fun p => (⟨p.toArray⟩ : Str))
      rw [List.map_map] at this
      exact this
end
end KS
end
section
set_option maxRecDepth 100000
set_option maxHeartbeats 4000000
set_option linter.all false
namespace KS
open PySem PySem.Spec L2
open PyProof.Rows hiding St
section
variable {X : Cx} {K : PySem.W.Frag}
theorem idx_noS {ns : List Str} {k : Str} : ∀ {j : Nat} (hj : j < ns.length), j < ns.idxOf k → ns[j] ≠ k := by
  induction ns with
  | nil => intro j hj; exact absurd hj (Nat.not_lt_zero _)
  | cons a r ih =>
    intro j hj h
    rw [List.idxOf_cons] at h
    by_cases e : (a == k) = true
    · rw [e] at h; exact absurd h (Nat.not_lt_zero _)
    · have e' : (a == k) = false := by cases q : (a == k) with | true => exact absurd q e | false => rfl
      rw [e'] at h
      cases j with
      | zero =>
        intro z
        simp only [List.getElem_cons_zero] at z
        rw [z] at e
        simp at e
      | succ j =>
        simp only [List.getElem_cons_succ]
        exact ih (by simpa using hj) (by simpa using h)
noncomputable def rIndexS (K : PySem.W.Frag) : V → List V → Hp → VK → Prop := fun x vs H Q => ∃ (l : Addr) (ns : List Str) (k : Str), x = .ref l ∧ vs = [.str k] ∧ SqL K H l (ns.map V.str) ∧ k ∈ ns ∧ Q (.int (ns.idxOf k : Nat)) H
theorem mt_indexS : MtM X "list.index" (rIndexS X.K) := by
  intro pins s σ H x vs v us Q I rx rv h
  obtain ⟨l, ns, k, rfl, rfl, hl, hk, q⟩ := h
  cases rx
  obtain ⟨u, rfl, t, rfl⟩ := rv.one
  obtain ⟨its, r, pl, hz⟩ := I.list hl
  obtain ⟨o, n, ho, hc, hdd, hd⟩ := pl
  obtain ⟨cls, dd, data, sl⟩ := o
  simp only at hc hdd hd
  subst hc hdd hd
  have hlen := r.length
  rw [List.length_map] at hlen
  have hj : ns.idxOf k < ns.length := List.idxOf_lt_length_iff.mpr hk
  have hs := sizeLine_eq
  have hz' : ns.length ≤ sizeLine := by rw [List.length_map] at hz; exact hz
  have flat : (ns.map V.str).all flatV = true := by simp [flatV]
  have at_ : ∀ j (h1 : j < its.length) (h2 : j < ns.length), eqU (.str k) its[j] = (ns[j] == k) := fun j h1 h2 => by
    obtain ⟨w, hw, rw'⟩ := r.get (i := j) (x := .str ns[j]) (by rw [List.getElem?_map, List.getElem?_eq_getElem h2]; rfl)
    rw [List.getElem?_eq_getElem h1] at hw
    rw [Option.some.inj hw, eqU_of rw' rfl]
    rfl
  refine call_meets PySem.F.slot_list_index ⟨_, ho, rfl⟩ PySem.F.entry_list_index (PySem.F.args_list_index_2 _ _)
    (SeqAt.list_indexAt l its.toArray n none sl (.str k t) (eqU (.str k)) (ns.idxOf k) (by simpa [← hlen] using hj) (by omega) ?_ ?_) ⟨ho, fun y hy => mem_eqAt (show RelV (.str k) (.str k t) from ⟨t, rfl⟩) rfl r flat y (by simpa using hy), ⟨.int _, H, I.tok _, ⟨_, rfl⟩, q⟩⟩
  · simp only [List.getElem_toArray]
    rw [at_ _ (by omega) hj]
    simpa using List.getElem_idxOf hj
  · intro j hjs hlt
    simp only [List.getElem_toArray]
    rw [at_ _ (by simpa using hjs) (by omega)]
    simpa using idx_noS (by omega) hlt
theorem inV_str {ws : List Str} {w : Str} : inV (.str w) (ws.map V.str) = decide (w ∈ ws) := by
  unfold inV
  rw [Bool.eq_iff_iff, decide_eq_true_eq, List.any_eq_true]
  constructor
  · rintro ⟨y, hy, e⟩
    obtain ⟨z, hz, rfl⟩ := List.mem_map.mp hy
    have : z = w := eq_of_beq (show (z == w) = true from e)
    rw [← this]
    exact hz
  · intro h
    exact ⟨.str w, List.mem_map.mpr ⟨w, h, rfl⟩, show (w == w) = true by simp⟩
/-- w not in ws, a list of texts -/
noncomputable def rNotInTx (K : PySem.W.Frag) : R2 := fun x y H Q => ∃ (p : Addr) (ws : List Str) (w : Str), x = .str w ∧ y = .ref p ∧ SqL K H p (ws.map V.str) ∧ Q (.bl (!decide (w ∈ ws))) H
theorem op_notInTx : OpR X (compareOp .NotIn) (rNotInTx X.K) := by
  intro pins s σ H x y v u Q I rx ry h
  obtain ⟨p, ws, w, rfl, rfl, hp, q⟩ := h
  refine op_notIn_seq pins s σ H _ _ v u Q I rx ry ⟨p, _, rfl, .inl hp, rfl, by simp [flatV], ?_⟩
  rw [inV_str]
  exact q
theorem notInTx (hK : X.K = K) : OpR X (compareOp .NotIn) (rNotInTx K) := hK ▸ op_notInTx
theorem indexS (hK : X.K = K) : MtM X "list.index" (rIndexS K) := hK ▸ mt_indexS
end
end KS
end
section
set_option maxRecDepth 100000
set_option maxHeartbeats 4000000
set_option linter.all false
namespace KS
open PySem PySem.Spec L2
open PyProof.Rows hiding St
theorem ixs_to (n j : Nat) : Builtin.Str.strSliceIndices none (some (j : Int)) 1 n = List.range (min j n) := by
  unfold Builtin.Str.strSliceIndices sliceRange
  have h0 : ¬ ((j : Int) < 0) := by omega
  simp only [show (1 : Int) > 0 from by decide, if_true, if_neg h0]
  have e : max (0 : Int) (min (j : Int) (n : Int)) = ((min j n : Nat) : Int) := by omega
  rw [e]
  have e2 : (if (0 : Int) < ((min j n : Nat) : Int) then ((min j n : Nat) : Int) - 0 + 1 - 1 else 0) = ((min j n : Nat) : Int) := by split <;> omega
  simp only [Int.ediv_one, e2, Int.toNat_natCast]
  refine Eq.trans (List.map_congr_left fun k _ => ?_) (List.map_id _)
  show (0 + 1 * (k : Int)).toNat = k
  omega
theorem ixs_from (n j : Nat) : Builtin.Str.strSliceIndices (some (j : Int)) none 1 n = (List.range (n - j)).map fun k => j + k := by
  unfold Builtin.Str.strSliceIndices sliceRange
  have h0 : ¬ ((j : Int) < 0) := by omega
  simp only [show (1 : Int) > 0 from by decide, if_true, if_neg h0]
  have e : max (0 : Int) (min (j : Int) (n : Int)) = ((min j n : Nat) : Int) := by omega
  rw [e]
  have e2 : (if ((min j n : Nat) : Int) < (n : Int) then (n : Int) - ((min j n : Nat) : Int) + 1 - 1 else 0) = ((n - j : Nat) : Int) := by split <;> omega
  simp only [Int.ediv_one, e2, Int.toNat_natCast]
  refine List.map_congr_left fun k hk => ?_
  have := List.mem_range.mp hk
  show (((min j n : Nat) : Int) + 1 * (k : Int)).toNat = j + k
  omega
theorem pick_to (l : List Nat) (j : Nat) : (List.range (min j l.length)).filterMap (fun i => l.toArray[i]?) = l.take j := by
  induction j with
  | zero => simp
  | succ j ih =>
    by_cases h : j < l.length
    · rw [show min (j + 1) l.length = min j l.length + 1 by omega, List.range_succ, List.filterMap_append, ih, List.take_add_one, show min j l.length = j by omega]
      simp [h]
    · rw [show min (j + 1) l.length = min j l.length by omega, ih, List.take_of_length_le (by omega), List.take_of_length_le (by omega)]
theorem pick_from : ∀ (j : Nat) (l : List Nat), ((List.range (l.length - j)).map fun k => j + k).filterMap (fun i => l.toArray[i]?) = l.drop j := by
  intro j l
  rw [List.filterMap_map]
  have key : ∀ m : List Nat, (List.range m.length).filterMap (fun i => m[i]?) = m := by
    intro m
    have := pick_to m m.length
    rw [Nat.min_self, List.take_length] at this
    rw [show (fun i => m[i]?) = (fun i => m.toArray[i]?) from funext fun i => by simp]
    exact this
  refine Eq.trans ?_ (key (l.drop j))
  rw [List.length_drop]
  rw [show ((fun i => l.toArray[i]?) ∘ fun k => j + k) = (fun i => (l.drop j)[i]?) from funext fun i => by
    show l.toArray[j + i]? = (l.drop j)[i]?
    rw [List.getElem?_drop, List.getElem?_toArray]]
theorem slice_to (x : Str) (j : Nat) : Txt.slice x none (some (j : Int)) = ⟨(x.cps.toList.take j).toArray⟩ := by
  obtain ⟨⟨l⟩⟩ := x
  unfold Txt.slice
  rw [ixs_to]
  show (if ((1 : Int) == 1 && (List.range (min j l.length)).length == l.length) = true then (⟨⟨l⟩⟩ : Str) else _) = _
  split
  · rename_i h
    rw [Bool.and_eq_true, List.length_range, beq_iff_eq] at h
    have : min j l.length = l.length := by simpa using h.2
    show _ = (⟨(l.take j).toArray⟩ : Str)
    rw [List.take_of_length_le (by omega)]
  · show (⟨((List.range (min j l.length)).filterMap (fun i => l.toArray[i]?)).toArray⟩ : Str) = _
    rw [pick_to]
theorem slice_from (x : Str) (j : Nat) : Txt.slice x (some (j : Int)) none = ⟨(x.cps.toList.drop j).toArray⟩ := by
  obtain ⟨⟨l⟩⟩ := x
  unfold Txt.slice
  rw [ixs_from]
  show (if ((1 : Int) == 1 && ((List.range (l.length - j)).map fun k => j + k).length == l.length) = true then (⟨⟨l⟩⟩ : Str) else _) = _
  split
  · rename_i h
    rw [Bool.and_eq_true, List.length_map, List.length_range] at h
    have : l.length - j = l.length := by simpa using h.2
    show _ = (⟨(l.drop j).toArray⟩ : Str)
    by_cases hj : j = 0
    · rw [hj, List.drop_zero]
    · have : l.length = 0 := by omega
      rw [List.length_eq_zero_iff.mp this, List.drop_nil]
  · show (⟨(((List.range (l.length - j)).map fun k => j + k).filterMap (fun i => l.toArray[i]?)).toArray⟩ : Str) = _
    rw [pick_from]
section
variable {X : Cx}
/-- x[:j], x[j:], j not below 0 -/
noncomputable def rSlS : V → Option Int → Option Int → Hp → VK → Prop := fun x lo hi H Q => ∃ (z : List Nat) (j : Nat), x = .str ⟨z.toArray⟩ ∧ z.length ≤ sizeLine ∧ ((lo = none ∧ hi = some (j : Int) ∧ Q (.str ⟨(z.take j).toArray⟩) H) ∨ (lo = some (j : Int) ∧ hi = none ∧ Q (.str ⟨(z.drop j).toArray⟩) H))
theorem sl_str : SlR X rSlS := by
  intro pins s σ H x v vl vu lo hi sl Q I rx hs pl pu h
  obtain ⟨z, j, rfl, hz, h⟩ := h
  obtain ⟨t, rfl⟩ := rx
  have hzz : (⟨z.toArray⟩ : Str).length ≤ sizeLine := by show z.toArray.size ≤ _; rw [List.size_toArray]; exact hz
  refine ⟨"str", _, F.slot_str_getitem.lookup, typeIs_str _ _ _, ?_⟩
  obtain ⟨o, ho, hc, hd⟩ := hs
  rcases h with ⟨rfl, rfl, q⟩ | ⟨rfl, rfl, q⟩
  · cases pl
    cases pu with
    | int _ t' =>
      refine wpAny_getItem_str_slice (l := none) (u := some ((j : Int), t')) (st := none) ⟨o, ho, hc, hd⟩ rfl (post_val_or_str ⟨Nat.le_trans (Txt.slice_le _ none (some (j : Int))) hzz, fun t2 k => ?_⟩)
      refine ⟨.str (Txt.slice ⟨z.toArray⟩ none (some (j : Int))), H, I.tok _, ⟨t2, rfl⟩, ?_⟩
      rw [slice_to]
      exact q
  · cases pu
    cases pl with
    | int _ t' =>
      refine wpAny_getItem_str_slice (l := some ((j : Int), t')) (u := none) (st := none) ⟨o, ho, hc, hd⟩ rfl (post_val_or_str ⟨Nat.le_trans (Txt.slice_le _ (some (j : Int)) none) hzz, fun t2 k => ?_⟩)
      refine ⟨.str (Txt.slice ⟨z.toArray⟩ (some (j : Int)) none), H, I.tok _, ⟨t2, rfl⟩, ?_⟩
      rw [slice_from]
      exact q
end
end KS
end
section
set_option maxRecDepth 100000
set_option maxHeartbeats 4000000
set_option linter.all false
namespace KS
open PySem PySem.Spec L2
open PyProof.Rows hiding St
/-- where c stands first in l -/
noncomputable def findC (c : Nat) (l : List Nat) : Int := if c ∈ l then (l.idxOf c : Nat) else -1
theorem idx_noN {ns : List Nat} {k : Nat} : ∀ {j : Nat} (hj : j < ns.length), j < ns.idxOf k → ns[j] ≠ k := by
  induction ns with
  | nil => intro j hj; exact absurd hj (Nat.not_lt_zero _)
  | cons a r ih =>
    intro j hj h
    rw [List.idxOf_cons] at h
    by_cases e : a = k
    · rw [e, beq_self_eq_true] at h
      exact absurd h (Nat.not_lt_zero _)
    · rw [beq_eq_false_iff_ne.mpr e] at h
      cases j with
      | zero => exact e
      | succ j => exact ih (by simpa using hj) (by simpa using h)
theorem full_stop (x : Str) (c : Nat) : ∀ (l : List Nat) (arr : Array Nat) (free : Nat), 1 ≤ arr.size → (forIn l (arr, free) (StrLaws.occBody x ⟨#[c]⟩ x.length 1)).run.fst = arr
  | [], _, _, _ => rfl
  | a :: l, arr, free, h => by
    rw [List.forIn_cons]
    unfold StrLaws.occBody
    rw [if_neg fun z => by have : arr.size < 1 := z.1.1.1; omega]
    exact full_stop x c l arr free h
theorem first_loop (x : Str) (c : Nat) : ∀ (k a : Nat), a + k = x.length + 1 → (∀ j, j < a → x.cps.toList[j]? ≠ some c) →
    (forIn (List.range' a k) ((#[] : Array Nat), 0) (StrLaws.occBody x ⟨#[c]⟩ x.length 1)).run.fst.toList = if c ∈ x.cps.toList then [x.cps.toList.idxOf c] else []
  | 0, a, hk, hno => by
    have hn : x.cps.toList.length = x.length := by simp [Str.length]
    rw [if_neg fun hm => by
      obtain ⟨j, hj⟩ := List.mem_iff_getElem?.mp hm
      have := (List.getElem?_eq_some_iff.mp hj).1
      exact hno j (by omega) hj]
    rfl
  | k + 1, a, hk, hno => by
    have hn : x.cps.toList.length = x.length := by simp [Str.length]
    rw [List.range'_succ, List.forIn_cons]
    unfold StrLaws.occBody
    by_cases hc : x.cps.toList[a]? = some c
    · have h1 := (StrLaws.subAt_one x c a).mpr hc
      rw [if_pos ⟨⟨⟨by decide, Nat.zero_le _⟩, h1.1⟩, h1.2⟩]
      have hm := List.mem_of_getElem? hc
      obtain ⟨hlt, he⟩ := List.getElem?_eq_some_iff.mp hc
      have hidx : x.cps.toList.idxOf c = a := by
        have h2 := List.idxOf_lt_length_of_mem hm
        have h3 := List.getElem_idxOf h2
        rcases Nat.lt_trichotomy (x.cps.toList.idxOf c) a with g | g | g
        · exact absurd (by rw [List.getElem?_eq_getElem h2, h3]) (hno _ g)
        · exact g
        · exact absurd he (idx_noN hlt g)
      rw [if_pos hm, hidx]
      exact congrArg Array.toList (full_stop x c (List.range' (a + 1) k) (#[].push a) _ (by simp))
    · rw [if_neg fun h => hc ((StrLaws.subAt_one x c a).mp ⟨h.1.2, h.2⟩)]
      exact first_loop x c k (a + 1) (by omega) fun j hj => by
        rcases Nat.lt_or_ge j a with g | g
        · exact hno j g
        · rw [show j = a by omega]; exact hc
theorem find_occ (x : Str) (c : Nat) : (match Builtin.Str.occurrences x ⟨#[c]⟩ 0 x.length 1 with | i :: _ => (i : Int) | [] => -1) = findC c x.cps.toList := by
  rw [StrLaws.occ_eq, Nat.sub_zero, first_loop x c (x.length + 1) 0 (by omega) fun j hj => absurd hj (Nat.not_lt_zero _)]
  unfold findC
  by_cases h : c ∈ x.cps.toList
  · rw [if_pos h, if_pos h]
  · rw [if_neg h, if_neg h]
section
variable {X : Cx}
/-- x.find(c), c one sign -/
noncomputable def rFind : V → List V → Hp → VK → Prop := fun x vs H Q => ∃ (z : List Nat) (c : Nat), x = .str ⟨z.toArray⟩ ∧ vs = [.str ⟨#[c]⟩] ∧ Q (.int (findC c z)) H
theorem mt_find : MtM X "str.find" rFind := by
  intro pins s σ H x vs v us Q I rx rv h
  obtain ⟨z, c, rfl, rfl, q⟩ := h
  obtain ⟨t, rfl⟩ := rx
  obtain ⟨u, rfl, t', rfl⟩ := rv.one
  refine call_gives F.slot_str_find (typeIs_str _ _ _) F.entry_str_find (F.args_str_find_2 _ _) (gives_str_find _ _ _ _) ?_
  exact ⟨.int _, H, I.tok _, ⟨_, rfl⟩, Eq.mp (congrArg (fun i => Q (V.int i) H) (find_occ ⟨z.toArray⟩ c).symm) q⟩
/-- int(x), a text that tells n -/
theorem call_intS : CallR X (.type "int") (fun xs H Q => ∃ (z : Str) (n : Int), xs = [.str z] ∧ PySem.intText? z = some n ∧ z.length ≤ 640 ∧ Q (.int n) H) := by
  intro pins s σ H xs us Q I r h
  obtain ⟨z, n, rfl, hn, hl, q⟩ := h
  obtain ⟨u, rfl, t, rfl⟩ := vals1 r
  exact PySem.W.KIN.call_text hn hl ⟨.int n, H, I.tok _, ⟨_, rfl⟩, q⟩
/-- {x!r} of an f-string, a text -/
noncomputable def tFr (te : TE) : TE := fun σ H Q => te σ H fun v H1 => ∃ z : Str, v = .str z ∧ (reprText z).length ≤ sizeLine ∧ Q (.str (reprText z)) H1
theorem pe_fr {e : Expr} {te : TE} {pos : Pos} (he : PE X e te) : PE X (.FormattedValue e 114 none pos) (tFr te) := by
  intro pins s σ H Q I h
  refine wpAny_FormattedValue_repr (thn (he pins s σ H _ I h) fun v s1 ⟨x, H1, I1, r1, z, e1, hz, q⟩ => ?_)
  subst e1
  obtain ⟨t, rfl⟩ := r1
  exact wpAny_pyReprObj_str (wpAny_formatField_str ⟨.str _, H1, I1.tok _, ⟨_, rfl⟩, q⟩ ⟨.str _, H1, I1.tok _, ⟨_, rfl⟩, q⟩ hz) hz
theorem fold_rep (l : List Nat) : ∀ (n : Nat) (acc : Array Nat), ((List.replicate n l.toArray).foldl (· ++ ·) acc) = (acc.toList ++ (List.replicate n l).flatten).toArray
  | 0, acc => by simp
  | n + 1, acc => by
    rw [List.replicate_succ, List.foldl_cons, fold_rep l n, List.replicate_succ, List.flatten_cons]
    simp
theorem rep_len (l : List Nat) (n : Nat) : ((List.replicate n l).flatten).length = n * l.length := by
  induction n with
  | zero => simp
  | succ n ih => rw [List.replicate_succ, List.flatten_cons, List.length_append, ih, Nat.succ_mul]; omega
/-- x * n, a text, n at least 2 -/
theorem op_mulS : OpR X (binaryOp .Mult) (fun x y H Q => ∃ (l : List Nat) (n : Nat), x = .str ⟨l.toArray⟩ ∧ y = .int n ∧ 2 ≤ n ∧ n ≤ 1000 ∧ 1 ≤ l.length ∧ l.length ≤ 1000 ∧ Q (.str ⟨((List.replicate n l).flatten).toArray⟩) H) := by
  intro pins s σ H x y v u Q I rx ry h
  obtain ⟨l, n, rfl, rfl, h1, h2, h3, h4, q⟩ := h
  obtain ⟨t, rfl⟩ := rx
  obtain ⟨t', rfl⟩ := ry
  have hl : (⟨l.toArray⟩ : Str).length = l.length := by show l.toArray.size = _; rw [List.size_toArray]
  have hm : l.length * n ≤ 1000 * 1000 := Nat.mul_le_mul h4 h2
  have hz := sizeLine_eq
  refine P.mul_str (by rw [decide_eq_false (by omega), decide_eq_false (by omega)]; rfl) (fun _ _ => ?_) (fun _ _ => ?_) ?_
  · rw [hl]
    have : (l.length : Int) ≤ (2 ^ 63 - 1) / (n : Int) := by
      refine Int.le_ediv_of_mul_le (by omega) ?_
      have : (l.length : Int) * (n : Int) = ((l.length * n : Nat) : Int) := by simp
      omega
    omega
  · rw [hl, Int.toNat_natCast]
    unfold Builtin.Str.tooLong
    exact decide_eq_false (by omega)
  · rw [if_neg (by omega), if_neg (by
      rw [hl]
      intro z
      rw [Bool.or_eq_true, beq_iff_eq, beq_iff_eq] at z
      omega), Int.toNat_natCast, fold_rep]
    refine ⟨?_, ⟨.str _, H, I.tok _, ⟨_, rfl⟩, q⟩⟩
    show (((#[] : Array Nat).toList ++ (List.replicate n l).flatten).toArray).size ≤ _
    rw [List.size_toArray]
    show ((List.replicate n l).flatten).length ≤ _
    rw [rep_len, Nat.mul_comm]
    omega
/-- the signs of a text -/
noncomputable def Its (l : List Nat) : It := ⟨fun i _ => i < l.length, fun i H x H' => H' = H ∧ ∃ c, l[i]? = some c ∧ x = .str ⟨#[c]⟩, fun i _ => l.length ≤ i⟩
theorem turn_str {P : Program} {w : World} {K : PySem.W.Frag} {tg : Expr} {l : List Nat} {t : Tok} (it : Addr) : Turn P w K tg (Its l) [it] it (fun i h => h.IsStrIter it "str_ascii_iterator" ⟨l.toArray⟩ t i) where
  mem := by simp
  obj := fun i h st b hb => by
    have e : b = it := by simpa using hb
    subst e
    obtain ⟨o, e, c, d⟩ := st
    exact ⟨o, e, fun v z => by rw [d] at z; cases z⟩
  keep := fun i h h' st k => let ⟨o, ho, r⟩ := st; ⟨o, k it (by simp) o ho, r⟩
  item := by
    intro X hP hw hK hc i pins s σ H E I hf st hg
    subst hP hw hK
    obtain ⟨f0, f1, f2, f3, f4, f5⟩ := hf it (by simp)
    have hg' : i < l.length := hg
    have hx : (⟨l.toArray⟩ : Str).cps[i]? = some l[i] := by show l.toArray[i]? = _; simp [hg']
    refine wpAny_pyNext_ascii_item st hx fun h' st' sb => ?_
    have I1 : L2.Inv X pins σ H { s with heap := h', toks := s.toks + 1 } := I.turned (t' := s.toks + 1) (fun b o hb e => (sb.2 b hb).trans e) f0 f1 f3 f4 f5
    obtain ⟨o, e, c, d⟩ := id st'
    exact ⟨_, rfl, go_of (s := { s with heap := h', toks := s.toks + 1 }) e c d (by decide) ⟨.str ⟨#[l[i]]⟩, H, I1, ⟨_, rfl⟩, ⟨rfl, l[i], by simp [hg'], rfl⟩, st', fun b hb => (hf b hb).1⟩⟩
  done := by
    intro X hP hw hK hc i pins s σ H E I hf st hg
    subst hP hw hK
    obtain ⟨f0, f1, f2, f3, f4, f5⟩ := hf it (by simp)
    have hg' : l.length ≤ i := hg
    exact wpAny_pyNext_ascii_end (I.ok.hd hc) st (by show l.toArray[i]? = none; simp [hg']) fun h' eb => ⟨rfl, I.turned (t' := s.toks) (fun b o hb e => eb b o hb e) f0 f1 f3 f4 f5⟩
  self := fun _ _ _ _ _ st h => wpAny_pyIter_striter_ascii st h
noncomputable def iStr (tl : TE) : TI := fun σ H R => tl σ H fun x H1 => ∃ l : List Nat, x = .str ⟨l.toArray⟩ ∧ (∀ c ∈ l, c < 128) ∧ R (Its l) H1
theorem pi_str {tg l : Expr} {tl : TE} (hl : PE X l tl) : PI X tg l (iStr tl) := by
  intro pins s σ H R I h
  refine thn (hl pins s σ H _ I h) fun v s1 ⟨x, H1, I1, r1, q1⟩ => ?_
  obtain ⟨z, e, ha, q⟩ := q1
  subst e
  obtain ⟨t, rfl⟩ := r1
  refine wpAny_pyIter_ascii (by show z.toArray.all _ = true; rw [List.all_toArray, List.all_eq_true]; exact fun c hc => decide_eq_true (ha c hc)) ?_
  refine ⟨s1.heap.objs.size, [s1.heap.objs.size], _, _, H1, rfl, I1.kept (t' := s1.toks) fun b o e => Heap.get?_push_of_some _ e, turn_str (t := t) (l := z) _, ⟨_, Heap.get?_push_size _ rfl, rfl, rfl⟩, fun b hb => ?_, q⟩
  have e : b = s1.heap.objs.size := by simpa using hb
  subst e
  exact I1.fpOk (Nat.le_refl _) (I1.hok.fresh (Nat.le_refl _))
end
theorem for_str {l : List Nat} {g : TG} {tb : L2.TS} {D : Ends} {σ : St} {H : Hp} (Pv : Nat → St → Hp → Prop) (h0 : Pv 0 σ H)
    (hs : ∀ i c σ H, l[i]? = some c → Pv i σ H → g (.str ⟨#[c]⟩) σ H fun σ2 H2 => tb { D with nx := Pv (i + 1), ct := Pv (i + 1), bk := D.nx } σ2 H2) (hd : ∀ σ H, Pv l.length σ H → D.nx σ H) :
    ∃ W : Nat → Nat → St → Hp → Prop, (∃ m, W 0 m σ H) ∧ ∀ i m σ H, W i m σ H →
      ((Its l).stop i H ∧ D.nx σ H) ∨ ((Its l).go i H ∧ ∃ N : St → Hp → Prop, (∀ σ' H', N σ' H' → ∃ m', m' < m ∧ W (i + 1) m' σ' H') ∧ ∀ x H', (Its l).yld i H x H' → g x σ H' fun σ2 H2 => tb { D with nx := N, ct := N, bk := D.nx } σ2 H2) := by
  refine ⟨fun i m σ H => m = l.length - i ∧ i ≤ l.length ∧ Pv i σ H, ⟨l.length, by simp, Nat.zero_le _, h0⟩, ?_⟩
  rintro i m σ H ⟨rfl, hi, p⟩
  by_cases hlt : i < l.length
  · refine .inr ⟨hlt, Pv (i + 1), fun σ' H' p' => ⟨l.length - (i + 1), by omega, rfl, hlt, p'⟩, fun x H' y => ?_⟩
    obtain ⟨e, c, hc, y⟩ := y
    subst e y
    exact hs i c σ _ hc p
  · obtain rfl : i = l.length := by omega
    exact .inl ⟨Nat.le_refl _, hd σ H p⟩
section
variable {X : Cx}
/-- min(p), p a tuple of two ints -/
theorem call_minT (hc : X.calm = true) : CallR X (.builtin "min") (fun xs H Q => ∃ (p : Addr) (a b : Int), xs = [.ref p] ∧ H p = some (.tup [.int a, .int b]) ∧ Q (.int (if b < a then b else a)) H) := by
  intro pins s σ H xs us Q I r h
  obtain ⟨p, a, b, rfl, hp, q⟩ := h
  obtain ⟨u0, rfl, rx⟩ := vals1 r
  cases rx
  obtain ⟨_, its, rv, o, e, ec, n, ed⟩ := I.hok p _ hp
  cases rv with
  | cons r1 r2 =>
    cases r2 with
    | cons r2 r3 =>
      cases r3
      obtain ⟨t, rfl⟩ := r1
      obtain ⟨u, rfl⟩ := r2
      have hT : s.heap.IsTuple p (intItems #[(a, t), (b, u)]) := ⟨o, e, ec, n, by rw [ed]; simp [intItems]⟩
      have hlt : p < s.heap.objs.size := Heap.lt_size e
      refine call_min_walk (wpAny_pyIter_tuple hT ?_)
      refine ⟨_, [_, p], [_], _, _, _, _, rfl, Walks.tuple (A := X.A.in1) (I.ok.hd hc) _ p (Nat.ne_of_lt hlt) (intItems #[(a, t), (b, u)]), ⟨⟨_, Heap.get?_push_size _ rfl, rfl, rfl⟩, hT.push _⟩, fun c hc => ?_, by simp [intItems], CmpOf.ints_lt (numAt #[(a, t), (b, u)]) (fun _ _ => intItems_at), fun v h' tk got kp => ?_⟩
      · show c < (s.heap.push _).objs.size
        rw [Heap.size_push]
        rcases List.mem_cons.mp hc with rfl | hc2
        · exact Nat.lt_succ_self _
        · rw [List.mem_singleton.mp hc2]
          exact Nat.lt_succ_of_lt hlt
      · have stay : ∀ c oc, s.heap.get? c = some oc → h'.get? c = some oc := fun c oc e => by
          refine kp c oc (fun z => ?_) (Heap.get?_push_of_some _ e)
          have := Heap.lt_size e
          rw [List.mem_singleton.mp z] at this
          exact Nat.lt_irrefl _ this
        have pick : (intItems #[(a, t), (b, u)])[argBest (fun i j => decide (numAt #[(a, t), (b, u)] i < numAt #[(a, t), (b, u)] j)) 1]? = some v := by
          have one : (intItems #[(a, t), (b, u)]).size - 1 = 1 := by simp [intItems]
          rw [← one]; exact got
        by_cases hba : b < a
        · have hv : v = .int b u := by simpa [argBest, numAt, intItems, hba] using pick.symm
          rw [hv]
          rw [if_pos hba] at q
          exact ⟨.int b, H, I.kept stay, ⟨_, rfl⟩, q⟩
        · have hv : v = .int a t := by simpa [argBest, numAt, intItems, hba] using pick.symm
          rw [hv]
          rw [if_neg hba] at q
          exact ⟨.int a, H, I.kept stay, ⟨_, rfl⟩, q⟩
end
end KS
end
section
set_option Elab.async false
set_option linter.all false
set_option maxRecDepth 100000
namespace L2
open PySem PySem.Spec PyProof.Rows
section
variable {κ : Type} [DecidableEq κ]
end
section
variable {P : Program} {w : World} {H : Hp} {h : Heap} {a : Addr}
end
section
variable {X : Cx} {pins : List (Addr × Obj)} {σ : St} {H : Hp} {s : Shared} {a : Addr} {y v : V} {u r : Value} {o : Option V} {A : Around} {E : Value → Shared → Prop}
end
section
variable {X : Cx} {pins : List (Addr × Obj)} {σ : St} {H : Hp} {s : Shared} {a : Addr} {kvs : List (Key × V)} {k : Key} {u : Value} {A : Around} {E : Value → Shared → Prop}
end
section
variable {X : Cx} {o i e value : Expr} {pos pos' tpos : Pos} {td ty tv : TE}
end
section
variable {X : Cx} {pos : Pos}
end
section
variable {X : Cx} {pins : List (Addr × Obj)} {σ : St} {H : Hp} {s : Shared} {a : Addr} {y d : V} {u r : Value} {o : Option V} {A : Around} {E : Value → Shared → Prop}
end
section
variable {X : Cx} {o e f : Expr} {apos cpos : Pos} {td ty tx : TE}
end
section
variable {X : Cx} {pins : List (Addr × Obj)} {σ : St} {H : Hp} {s : Shared} {a : Addr} {kvs : List (Key × V)} {A : Around} {E : Value → Shared → Prop}
end
section
variable {X : Cx} {pins : List (Addr × Obj)} {σ : St} {H : Hp} {s : Shared} {a : Addr} {y : V} {u : Value} {A : Around} {E : Value → Shared → Prop}
end
end L2
end
section
set_option maxRecDepth 100000
set_option maxHeartbeats 4000000
set_option linter.all false
namespace KS
open PySem PySem.Spec L2
open PyProof.Rows hiding St
section
variable {P : Program} {w : World} {A : Around} {E : Value → Shared → Prop} {s : Shared}
end
section
variable {P : Program} {w : World}
variable {A : Around} {E : Value → Shared → Prop} {s : Shared}
end
end KS
end
section
set_option maxRecDepth 100000
set_option maxHeartbeats 4000000
set_option linter.all false
namespace KS
open PySem PySem.Spec L2
open PyProof.Rows hiding St
section
variable {P : Program} {w : World} {A : Around} {E : Value → Shared → Prop} {s : Shared} {v d z : Addr} {es : Array DictEntry} {ep i : Nat}
end
end KS
end
section
set_option maxRecDepth 100000
set_option maxHeartbeats 4000000
set_option linter.all false
namespace KS
open PySem PySem.Spec L2
open PyProof.Rows hiding St
section
variable {P : Program} {w : World} {H : Hp} {h : Heap} {d v : Addr} {xs : List Row2}
end
section
variable {X : Cx} {pos : Pos}
end
section
variable {X : Cx} {o e : Expr} {es : List Expr} {to : TE} {t : TA} {name : Str} {apos cpos : Pos} {id : String} {r : V → List V → Hp → VK → Prop}
end
end KS
end
section
set_option Elab.async false
set_option maxRecDepth 100000
set_option linter.all false
namespace L2
open PySem PySem.Spec PyProof.Rows
section
variable {X : Cx}
noncomputable def tCut (t : TS) : TS := fun D σ H => ∃ N : St → Hp → Prop, t { D with nx := N } σ H ∧ ∀ σ' H', N σ' H' → D.nx σ' H'
theorem ps_cut {st : Stmt} {t : TS} (h : PS X st t) : PS X st (tCut t) := by
  intro pins s σ H D I ⟨N, h1, h2⟩
  refine thn (h pins s σ H { D with nx := N } I h1) fun f s1 q => ?_
  cases f with
  | next =>
    obtain ⟨σ', H', I', q⟩ := q
    exact ⟨σ', H', I', h2 σ' H' q⟩
  | ret v => exact q
  | brk => exact q
  | cont => exact q
end
end L2
end
section
set_option maxRecDepth 100000
set_option maxHeartbeats 4000000
set_option linter.all false
namespace KS
open PySem PySem.Spec L2
open PyProof.Rows hiding St
/-- two sequences of one kind -/
noncomputable def Sq2 (K : PySem.W.Frag) (H : Hp) (a c : Addr) (xs ys : List V) : Prop := (SqL K H a xs ∧ SqL K H c ys) ∨ (SqT K H a xs ∧ SqT K H c ys)
noncomputable def allE (e : Nat → Bool) (n m : Nat) : Bool := (List.range (min n m)).all e && n == m
/-- x == y comes out as b, n deep -/
noncomputable def EqD (K : PySem.W.Frag) (H : Hp) : Nat → V → V → Bool → Prop
  | 0, x, y, b => (x = y ∧ (∃ a, x = .ref a) ∧ b = true) ∨ (flatV x = true ∧ flatV y = true ∧ b = eqV x y)
  | n + 1, x, y, b => EqD K H n x y b ∨ ∃ a c xs ys e, x = .ref a ∧ y = .ref c ∧ a ≠ c ∧ Sq2 K H a c xs ys ∧ (∀ (j : Nat) (x y : V), xs[j]? = some x → ys[j]? = some y → EqD K H n x y (e j)) ∧ b = allE e xs.length ys.length
section
variable {X : Cx} {pins : List (Addr × Obj)} {σ : St} {H : Hp} {s : Shared}
theorem get_of {xs : List V} {us : List Value} (r : Vals xs us) {j : Nat} (hj : j < us.toArray.size) : ∃ x, xs[j]? = some x ∧ RelV x us.toArray[j] := by
  have hl : us.length = xs.length := r.length.symm
  have hj' : j < us.length := by simpa using hj
  have hx : j < xs.length := by omega
  obtain ⟨u, hu, ru⟩ := r.get (i := j) (x := xs[j]) (by simp [hx])
  refine ⟨xs[j], by simp [hx], ?_⟩
  rw [List.getElem?_eq_getElem hj'] at hu
  rw [List.getElem_toArray, Option.some.inj hu]
  exact ru
theorem seq_rc {A : Around} {n : Nat} {a c : Addr} {xs ys : List V} {e : Nat → Bool} (I : Inv X pins σ H s) (hu : A.units < cLine) (h2 : Sq2 X.K H a c xs ys)
    (he : ∀ (j : Nat) (x y : V) (u v : Value), xs[j]? = some x → ys[j]? = some y → RelV x u → RelV y v → SeqAt.EqAt A.in1 s u v (e j)) : SeqAt.RcAt A s (.ref a) (.ref c) (allE e xs.length ys.length) := by
  rcases h2 with ⟨ha, hc⟩ | ⟨ha, hc⟩
  · obtain ⟨its, r, pa, _⟩ := I.list ha
    obtain ⟨its2, r2, pc, _⟩ := I.list hc
    have l1 : xs.length = its.toArray.size := by simpa using r.length
    have l2 : ys.length = its2.toArray.size := by simpa using r2.length
    by_cases hl : its.toArray.size = its2.toArray.size
    · have e1 : allE e xs.length ys.length = (List.range its.toArray.size).all e := by
        unfold allE
        rw [l1, l2, ← hl, Nat.min_self]
        simp
      rw [e1]
      refine SeqAt.RcAt.lists pa.isList pc.isList hl hu fun j h1 h2 => ?_
      obtain ⟨x, hx, rx⟩ := get_of r h1
      obtain ⟨y, hy, ry⟩ := get_of r2 h2
      exact he j x y _ _ hx hy rx ry
    · have e1 : allE e xs.length ys.length = false := by
        unfold allE
        rw [l1, l2]
        simp only [Bool.and_eq_false_iff]
        right
        simpa using hl
      rw [e1]
      exact SeqAt.RcAt.lists_lengths pa.isList pc.isList (by simpa using hl) hu
  · obtain ⟨its, r, pa, _⟩ := I.tuple ha
    obtain ⟨its2, r2, pc, _⟩ := I.tuple hc
    have l1 : xs.length = its.toArray.size := by simpa using r.length
    have l2 : ys.length = its2.toArray.size := by simpa using r2.length
    unfold allE
    rw [l1, l2]
    refine SeqAt.RcAt.tuples (show s.heap.IsTuple a its.toArray from pa) (show s.heap.IsTuple c its2.toArray from pc) hu fun j h1 h2 => ?_
    obtain ⟨x, hx, rx⟩ := get_of r h1
    obtain ⟨y, hy, ry⟩ := get_of r2 h2
    exact he j x y _ _ hx hy rx ry
theorem seq_ne {A : Around} {n : Nat} {a c : Addr} {xs ys : List V} {e : Nat → Bool} (I : Inv X pins σ H s) (hu : A.units < cLine) (h2 : Sq2 X.K H a c xs ys)
    (he : ∀ (j : Nat) (x y : V) (u v : Value), xs[j]? = some x → ys[j]? = some y → RelV x u → RelV y v → SeqAt.EqAt A.in1 s u v (e j)) : SeqAt.RcNeAt A s (.ref a) (.ref c) (!allE e xs.length ys.length) := by
  rcases h2 with ⟨ha, hc⟩ | ⟨ha, hc⟩
  · obtain ⟨its, r, pa, _⟩ := I.list ha
    obtain ⟨its2, r2, pc, _⟩ := I.list hc
    have l1 : xs.length = its.toArray.size := by simpa using r.length
    have l2 : ys.length = its2.toArray.size := by simpa using r2.length
    by_cases hl : its.toArray.size = its2.toArray.size
    · have e1 : allE e xs.length ys.length = (List.range its.toArray.size).all e := by
        unfold allE
        rw [l1, l2, ← hl, Nat.min_self]
        simp
      rw [e1]
      refine SeqAt.RcNeAt.lists pa.isList pc.isList hl hu fun j h1 h2 => ?_
      obtain ⟨x, hx, rx⟩ := get_of r h1
      obtain ⟨y, hy, ry⟩ := get_of r2 h2
      exact he j x y _ _ hx hy rx ry
    · have e1 : allE e xs.length ys.length = false := by
        unfold allE
        rw [l1, l2]
        simp only [Bool.and_eq_false_iff]
        right
        simpa using hl
      rw [e1]
      exact SeqAt.RcNeAt.lists_lengths pa.isList pc.isList (by simpa using hl) hu
  · obtain ⟨its, r, pa, _⟩ := I.tuple ha
    obtain ⟨its2, r2, pc, _⟩ := I.tuple hc
    have l1 : xs.length = its.toArray.size := by simpa using r.length
    have l2 : ys.length = its2.toArray.size := by simpa using r2.length
    unfold allE
    rw [l1, l2]
    refine SeqAt.RcNeAt.tuples (show s.heap.IsTuple a its.toArray from pa) (show s.heap.IsTuple c its2.toArray from pc) hu fun j h1 h2 => ?_
    obtain ⟨x, hx, rx⟩ := get_of r h1
    obtain ⟨y, hy, ry⟩ := get_of r2 h2
    exact he j x y _ _ hx hy rx ry
theorem eqD_at (I : Inv X pins σ H s) : ∀ (n : Nat) (A : Around) (x y : V) (u v : Value) (b : Bool), A.units + n < cLine → EqD X.K H n x y b → RelV x u → RelV y v → SeqAt.EqAt A s u v b
  | 0, A, x, y, u, v, b, hu, h, rx, ry => by
    rcases h with ⟨rfl, ⟨a, rfl⟩, rfl⟩ | ⟨h1, h2, rfl⟩
    · cases rx
      cases ry
      exact SeqAt.EqAt.same _
    · exact eqAt_V rx ry h1 h2
  | n + 1, A, x, y, u, v, b, hu, h, rx, ry => by
    rcases h with h | ⟨a, c, xs, ys, e, rfl, rfl, hne, h2, he, rfl⟩
    · exact eqD_at I n A x y u v b (by omega) h rx ry
    · cases rx
      cases ry
      refine SeqAt.EqAt.of_refs hne (seq_rc (n := n) I (by omega) h2 fun j x y u v hx hy rx ry => ?_)
      exact eqD_at I n A.in1 x y u v (e j) (by show A.units + 1 + n < cLine; omega) (he j x y hx hy) rx ry
end
section
variable {X : Cx}
/-- xs == ys, sequences of one kind, their items n deep -/
noncomputable def rEqS (K : PySem.W.Frag) (neg : Bool) (n : Nat) : R2 := fun x y H Q => ∃ a c xs ys e, x = .ref a ∧ y = .ref c ∧ Sq2 K H a c xs ys ∧ (∀ (j : Nat) (x y : V), xs[j]? = some x → ys[j]? = some y → EqD K H n x y (e j)) ∧ Q (.bl (if neg then !allE e xs.length ys.length else allE e xs.length ys.length)) H
theorem op_eqS {n : Nat} (hu : X.A.units + n + 1 < cLine) : OpR X (compareOp .Eq) (rEqS X.K false n) := by
  intro pins s σ H x y v u Q I rx ry h
  obtain ⟨a, c, xs, ys, e, rfl, rfl, h2, he, q⟩ := h
  cases rx
  cases ry
  exact seq_rc (n := n) I (by omega) h2 (fun j x y u v hx hy rx ry => eqD_at I n X.A.in1 x y u v (e j) (by show X.A.units + 1 + n < cLine; omega) (he j x y hx hy) rx ry) _ _ _ _ ⟨.bl _, H, I, rfl, q⟩
theorem op_neS {n : Nat} (hu : X.A.units + n + 1 < cLine) : OpR X (compareOp .NotEq) (rEqS X.K true n) := by
  intro pins s σ H x y v u Q I rx ry h
  obtain ⟨a, c, xs, ys, e, rfl, rfl, h2, he, q⟩ := h
  cases rx
  cases ry
  exact seq_ne (n := n) I (by omega) h2 (fun j x y u v hx hy rx ry => eqD_at I n X.A.in1 x y u v (e j) (by show X.A.units + 1 + n < cLine; omega) (he j x y hx hy) rx ry) _ _ _ _ ⟨.bl _, H, I, rfl, q⟩
end
theorem allE_true {xs ys : List V} (h : xs.length = ys.length) : allE (fun _ => true) xs.length ys.length = true := by
  unfold allE
  simp [h]
noncomputable def EqT (K : PySem.W.Frag) (H : Hp) (n : Nat) (x y : V) : Prop := EqD K H n x y true
theorem EqT.flat {K : PySem.W.Frag} {H : Hp} {n : Nat} {x : V} (h : flatV x = true) (he : eqV x x = true) : EqT K H n x x := by
  induction n with
  | zero => exact .inr ⟨h, h, he.symm⟩
  | succ n ih => exact .inl ih
theorem EqT.same {K : PySem.W.Frag} {H : Hp} {n : Nat} {a : Addr} : EqT K H n (.ref a) (.ref a) := by
  induction n with
  | zero => exact .inl ⟨rfl, ⟨a, rfl⟩, rfl⟩
  | succ n ih => exact .inl ih
theorem EqT.seq {K : PySem.W.Frag} {H : Hp} {n : Nat} {a c : Addr} {xs ys : List V} (h2 : Sq2 K H a c xs ys) (h : Paired (EqT K H n) xs ys) : EqT K H (n + 1) (.ref a) (.ref c) := by
  by_cases e : a = c
  · subst e; exact EqT.same
  · refine .inr ⟨a, c, xs, ys, fun _ => true, rfl, rfl, e, h2, fun j x y hx hy => ?_, (allE_true (Paired.length h)).symm⟩
    clear h2 e
    induction h generalizing j with
    | nil => simp at hx
    | cons r t ih =>
      cases j with
      | zero => simp at hx hy; subst hx; subst hy; exact r
      | succ j => exact ih j (by simpa using hx) (by simpa using hy)
theorem rEqS.true {K : PySem.W.Frag} {H : Hp} {n : Nat} {a c : Addr} {xs ys : List V} {neg : Bool} {Q : VK} (h2 : Sq2 K H a c xs ys) (h : Paired (EqT K H n) xs ys) (q : Q (.bl (!neg)) H) : rEqS K neg n (.ref a) (.ref c) H Q := by
  refine ⟨a, c, xs, ys, fun _ => Bool.true, rfl, rfl, h2, fun j x y hx hy => ?_, ?_⟩
  · clear h2
    induction h generalizing j with
    | nil => simp at hx
    | cons r t ih =>
      cases j with
      | zero => simp at hx hy; subst hx; subst hy; exact r
      | succ j => exact ih j (by simpa using hx) (by simpa using hy)
  · rw [allE_true (Paired.length h)]
    cases neg <;> exact q
end KS
end
section
set_option maxRecDepth 100000
set_option maxHeartbeats 4000000
set_option linter.all false
namespace KS
open PySem KsTab PyProof.Rows
section
variable {prog : Program} {w : World} {A : Around} {E : Value → Shared → Prop} {s : Shared}
end
end KS
end
section
set_option maxRecDepth 100000
set_option maxHeartbeats 4000000
set_option linter.all false
namespace KS
open PySem KsTab PyProof.Rows
section
variable {prog : Program} {w : World} {A : Around} {E : Value → Shared → Prop} {s : Shared}
set_option maxHeartbeats 8000000 in
end
section
open L2
variable {X : Cx}
end
end KS
end
section
set_option maxRecDepth 100000
set_option maxHeartbeats 4000000
set_option linter.all false
namespace KS
open PySem PySem.Spec L2
open PyProof.Rows hiding St
section
variable {X : Cx} {pins : List (Addr × Obj)} {σ : St} {H : Hp} {s : Shared} {h' : Heap}
end
section
variable {X : Cx}
end
end KS
end
section
set_option maxRecDepth 100000
set_option maxHeartbeats 4000000
set_option linter.all false
namespace KS
open PySem PySem.Calls PyProof.Rows PySem.Spec
section
variable {prog : Program} {w : World} {A : Around} {E : Value → Shared → Prop} {s : Shared}
end
end KS
end
section
set_option maxRecDepth 100000
set_option maxHeartbeats 4000000
set_option linter.all false
namespace KS
open PySem PySem.Calls PyProof.Rows PySem.Spec
section
variable {prog : Program} {w : World} {A : Around} {E : Value → Shared → Prop} {s : Shared}
end
end KS
end
section
set_option maxRecDepth 100000
set_option maxHeartbeats 4000000
set_option linter.all false
namespace KS
open PySem PySem.Spec L2
open PyProof.Rows hiding St
section
variable {X : Cx} {pins : List (Addr × Obj)} {σ : St} {H : Hp} {s : Shared} {h' : Heap}
end
section
variable {X : Cx}
end
end KS
end
section
set_option maxRecDepth 100000
namespace KP
end KP
end
section
set_option maxRecDepth 100000
namespace KP
end KP
end
section
set_option maxRecDepth 100000
namespace KP
end KP
end
section
set_option maxRecDepth 100000
namespace KP
end KP
end
section
set_option maxRecDepth 100000
namespace KP
end KP
end
section
set_option maxRecDepth 100000
namespace KP
end KP
namespace KP
end KP
end
section
set_option maxRecDepth 100000
set_option maxHeartbeats 4000000
set_option linter.all false
namespace KS
open PySem PySem.Spec L2
open PyProof.Rows hiding St
/-- e: an exception of class C, its last station T, in flight by fl -/
structure Trc (h : Heap) (e T : Addr) (C fl : Value) : Prop where
  obj : ∃ oe vs, h.get? e = some oe ∧ oe.cls = C ∧ oe.dict = none ∧ oe.data = .fields vs ∧ vs[1]? = some (.ref T)
  ne : T ≠ e
  stn : ∃ oT ts, h.get? T = some oT ∧ oT.data = .fields ts ∧ ts[3]? = some fl
section
variable {M : Model} {A : Around} {E : Value → Shared → Prop} {s : Shared} {base : Heap} {env : Env} {outer : List Env} {L e : Addr} {oe : Obj} {vs : Array Value}
/-- what a frame that is left changes: the exception, its last station, the frames' slots -/
structure Gone (l : List Env) (e T : Addr) (C : Value) (g : List Addr) (h h' : Heap) : Prop where
  new : h.get? T = none
  trc : Trc h' e T C .none
  keep : ∀ b o, b ∉ g → b ∉ frs l → h.get? b = some o → h'.get? b = some o
  slot : ∀ b o, b ∉ g → h.get? b = some o → ∃ sl, h'.get? b = some { o with slots := sl }
  size : h.objs.size ≤ h'.objs.size
theorem entry1 {head : Value} {hn : Bool} {Q : Unit → Shared → Prop} (k1 : A.frames = some (env :: outer)) (k2 : s.heap.FunFrames base (env :: outer)) (k3 : env.frame = some L) (k4 : s.heap.get? e = some oe) (k5 : oe.dict = none) (k6 : oe.data = .fields vs) (k7 : 1 < vs.size)
    (q : ∀ h' T, Gone (env :: outer) e T oe.cls [e] s.heap h' → Q () { s with heap := h' }) :
    wpAny M A (do let a ← frameOf env; let pl ← entryPlaceOf L hn; let b ← EntryCells.newEntry head a .none (rawInt L) .none pl; setField (.ref e) 1 b) (fun _ s' => wpAny M A (setFlight (.ref e) none) Q E s') E s := by
  have nof : e ∉ frs (env :: outer) := fun z => by
    obtain ⟨_, o, ho, nf⟩ := k2.mem z
    rw [k4] at ho
    cases ho
    exact nf vs k6
  refine wpAny_bind (wpAny_frameOf_fun k1 k2 k3 fun g1 x1 => ?_)
  refine wpAny_bind (wpAny_entryPlaceOf fun pl hpl => ?_)
  unfold EntryCells.newEntry newFields
  refine wpAny_bind (wpAny_newObj_type ?_ (hpl.sizeOk5 _ _ _ _ _))
  generalize hts : ([head, .ref L, .none, rawInt L, .none] ++ (if pl.isEmpty then List.replicate 6 Value.none else pl)).toArray = ts
  have hts3 : 3 < ts.size := by rw [← hts]; simp
  have e1 : g1.get? e = some oe := (x1.2.1 e nof).trans k4
  have e2 := Heap.get?_push_of_some (h := g1) { cls := .type "traceback", dict := none, data := .fields ts } e1
  refine wpAny_setField e2 k6 k7 ?_
  have dT : g1.objs.size ≠ e := Nat.ne_of_gt (Heap.lt_size e1)
  have d3 := Obj.data_mapFields k6 (·.setIfInBounds 1 (Value.ref g1.objs.size))
  have e3 := Heap.get?_update_self (Obj.mapFields (·.setIfInBounds 1 (Value.ref g1.objs.size))) e2 (Obj.isFreed_of_fields d3)
  have t3 := (Heap.get?_update_other (g1.push { cls := .type "traceback", dict := none, data := .fields ts }) (Obj.mapFields (·.setIfInBounds 1 (Value.ref g1.objs.size))) (Ne.symm dT)).trans (Heap.get?_push_size g1 rfl)
  unfold setFlight
  refine wpAny_bind (wpAny_field e3 d3 (x := .ref g1.objs.size) (by simp [k7]) ?_)
  rw [if_pos (show (Value.ref g1.objs.size != Value.none) = true by simp)]
  refine wpAny_setField t3 rfl hts3 (q _ g1.objs.size ?_)
  have oth : ∀ b o, b ≠ e → g1.get? b = some o → ((((g1.push { cls := .type "traceback", dict := none, data := .fields ts }).update e (Obj.mapFields (·.setIfInBounds 1 (Value.ref g1.objs.size)))).update g1.objs.size
      (Obj.mapFields (·.setIfInBounds 3 ((none : Option Addr).elim Value.none fun f => rawInt f)))).get? b) = some o := fun b o hb ho => by
    rw [Heap.get?_update_other _ _ (Nat.ne_of_gt (Heap.lt_size ho)), Heap.get?_update_other _ _ (Ne.symm hb)]
    exact Heap.get?_push_of_some _ ho
  refine ⟨?_, ⟨⟨_, _, ?_, Obj.cls_mapFields _ _, ?_, d3, by simp [k7]⟩, dT, ⟨_, _, Heap.get?_update_self _ t3 (Obj.isFreed_of_fields (Obj.data_mapFields rfl _)), Obj.data_mapFields rfl _, by simp [hts3]⟩⟩, fun b o hb hf ho => ?_, fun b o hb ho => ?_, ?_⟩
  · exact Heap.get?_none_of_le (by rw [x1.1]; exact Nat.le_refl _)
  · rw [Heap.get?_update_other _ _ dT]
    exact e3
  · obtain ⟨c, dd, dt, sl⟩ := oe
    cases k5
    cases k6
    rfl
  · exact oth b o (fun z => hb (List.mem_singleton.mpr z)) ((x1.2.1 b hf).trans ho)
  · obtain ⟨sl, hs⟩ := x1.2.2 b o ho
    exact ⟨sl, oth b _ (fun z => hb (List.mem_singleton.mpr z)) hs⟩
  · rw [Heap.size_after_update, Heap.size_after_update, Heap.size_push, x1.1]
    exact Nat.le_succ _
/-- a frame left by an exception just made -/
theorem leave_new {Q : Unit → Shared → Prop} (k1 : A.frames = some (env :: outer)) (k2 : s.heap.FunFrames base (env :: outer)) (k3 : env.frame = some L) (k4 : s.heap.get? e = some oe) (k5 : oe.dict = none) (k6 : oe.data = .fields vs) (k7 : vs[1]? = some .none)
    (q : ∀ h' T, Gone (env :: outer) e T oe.cls [e] s.heap h' → Q () { s with heap := h' }) : wpAny M A (leaving env (.ref e)) Q E s := by
  unfold leaving noteFrame
  simp only [k3]
  refine wpAny_bind (wpAny_bind (wpAny_field k4 k6 k7 ?_))
  rw [if_neg (by decide)]
  exact entry1 k1 k2 k3 k4 k5 k6 (Array.getElem?_eq_some_iff.mp k7).1 q
/-- a frame noted by one that came from a callee -/
theorem noted_on {T : Addr} {C : Value} {Q : Unit → Shared → Prop} (k1 : A.frames = some (env :: outer)) (k2 : s.heap.FunFrames base (env :: outer)) (k3 : env.frame = some L) (k4 : Trc s.heap e T C .none)
    (q : ∀ h' T', Gone (env :: outer) e T' C [e, T] s.heap h' → Q () { s with heap := h' }) : wpAny M A (noteFrame (.ref e) env) (fun _ s' => wpAny M A (setFlight (.ref e) none) Q E s') E s := by
  obtain ⟨⟨oe, vs, a1, a2, a3, a4, a5⟩, ne, ⟨oT, ts, b1, b2, b3⟩⟩ := k4
  subst a2
  unfold noteFrame
  simp only [k3]
  refine wpAny_bind (wpAny_field a1 a4 a5 ?_)
  rw [if_pos (show (Value.ref T != Value.none) = true by simp)]
  refine wpAny_bind (wpAny_field b1 b2 b3 ?_)
  rw [if_neg (show ¬ ((Value.none == rawInt L) = true) by simp [rawInt])]
  refine wpAny_bind (wpAny_setField b1 b2 (Array.getElem?_eq_some_iff.mp b3).1 ?_)
  have ot : ∀ b, b ≠ T → (s.heap.update T (Obj.mapFields (·.setIfInBounds 3 Value.none))).get? b = s.heap.get? b := fun b hb => Heap.get?_update_other _ _ (Ne.symm hb)
  have nr : ∀ b o, s.heap.get? b = some o → (∀ vs, o.data ≠ .fields vs) → b ≠ T := fun b o hb nf z => by
    rw [z, b1] at hb
    cases hb
    exact nf ts b2
  refine entry1 (base := base) k1 (k2.of_keeps fun b o hb nf => ⟨o, (ot b (nr b o hb nf)).trans hb, rfl⟩) k3 ((ot e (Ne.symm ne)).trans a1) a3 a4 (Array.getElem?_eq_some_iff.mp a5).1 fun h' T' g => q h' T' ⟨?_, g.trc, fun b o hb hf ho => ?_, fun b o hb ho => ?_, ?_⟩
  · have := g.new
    cases hq : s.heap.get? T' with
    | none => rfl
    | some o =>
      by_cases z : T' = T
      · subst z
        obtain ⟨oo, ho⟩ : ∃ oo, (s.heap.update T' (Obj.mapFields (·.setIfInBounds 3 Value.none))).get? T' = some oo := ⟨_, Heap.get?_update_self _ b1 (Obj.isFreed_of_fields (Obj.data_mapFields b2 _))⟩
        rw [ho] at this
        cases this
      · rw [ot T' z, hq] at this
        cases this
  · refine g.keep b o (fun z => hb (List.mem_cons.mpr (.inl (List.mem_singleton.mp z)))) hf ((ot b fun z => hb (z ▸ List.mem_cons_of_mem _ List.mem_cons_self)).trans ho)
  · refine g.slot b o (fun z => hb (List.mem_cons.mpr (.inl (List.mem_singleton.mp z)))) ((ot b fun z => hb (z ▸ List.mem_cons_of_mem _ List.mem_cons_self)).trans ho)
  · have := g.size
    rw [Heap.size_after_update] at this
    exact this
/-- a frame left by one that came from a callee -/
theorem leave_on {T : Addr} {C : Value} {Q : Unit → Shared → Prop} (k1 : A.frames = some (env :: outer)) (k2 : s.heap.FunFrames base (env :: outer)) (k3 : env.frame = some L) (k4 : Trc s.heap e T C .none)
    (q : ∀ h' T', Gone (env :: outer) e T' C [e, T] s.heap h' → Q () { s with heap := h' }) : wpAny M A (leaving env (.ref e)) Q E s := by
  unfold leaving
  exact wpAny_bind (noted_on k1 k2 k3 k4 q)
end
end KS
end
section
set_option maxRecDepth 100000
set_option maxHeartbeats 4000000
set_option linter.all false
namespace KS
open PySem PySem.Spec L2
open PyProof.Rows hiding St
theorem hok_gone {P : Program} {w : World} {H : Hp} {h h' : Heap} {l : List Env} {e T : Addr} {C : Value} {gl : List Addr} (ok : HOk P w H h) (g : Gone l e T C gl h h') (n1 : ∀ b ∈ gl, H b = none) (n2 : ∀ b ∈ frs l, H b = none) : HOk P w H h' := fun a u ha => by
  have tr : ∀ b v, H b = some v → b ∉ gl ∧ b ∉ frs l := fun b v hb => ⟨(fun z => by rw [n1 b z] at hb; cases hb), (fun z => by rw [n2 b z] at hb; cases hb)⟩
  refine (ok a u ha).stay (fun b v hb hv => ?_) (fun _ q => q) fun _ _ q => q
  rcases hb with rfl | hb
  · exact g.keep b v (tr b u ha).1 (tr b u ha).2 hv
  · exact g.keep b v (tr b _ hb).1 (tr b _ hb).2 hv
/-- how an exception lies behind a call -/
noncomputable def CX1 (P : Program) (w : World) : CXT := fun outer H s E e s' => ∃ a T C H', e = .ref a ∧ s'.os = s.os ∧ AllBare s'.gens ∧ Un (frs outer) [] H H' s.heap s'.heap ∧ HOk P w H' s'.heap ∧ H' a = none ∧ H' T = none ∧ s.heap.get? a = none ∧ s.heap.get? T = none ∧ Trc s'.heap a T C .none ∧ E C none H'
section
variable {X : Cx} {pins : List (Addr × Obj)} {σ : St} {H : Hp} {s : Shared}
/-- nothing new is at an old place -/
theorem Inv.old_none (I : L2.Inv X pins σ H s) {a : Addr} (hx : X.ex = []) (h : s.heap.get? a = none) : X.s₀.heap.get? a = none := by
  cases q : X.s₀.heap.get? a with
  | none => rfl
  | some o =>
    obtain ⟨o', e⟩ := I.base.there a o q (by rw [hx]; exact fun z => nomatch z)
    rw [h] at e
    cases e
theorem Inv.free_none (I : L2.Inv X pins σ H s) {a : Addr} (h : s.heap.get? a = none) : H a = none := by
  cases q : H a with
  | none => rfl
  | some u =>
    obtain ⟨o, e⟩ := ObjOk.there (I.hok a u q)
    rw [h] at e
    cases e
/-- behind a frame that is left: what the callers had -/
theorem un_gone {h' : Heap} {e T : Addr} {C : Value} {gl : List Addr} (I : L2.Inv X pins σ H s) (hx : X.ex = []) (hs : X.stack = X.env :: X.outer) (hf : X.env.frame = some X.env.locals) (g : Gone X.stack e T C gl s.heap h') (n0 : ∀ b ∈ gl, X.s₀.heap.get? b = none) : Un X.fs [] X.H₀ H X.s₀.heap h' := by
  have u := I.base
  rw [hx] at u
  have nl : ∀ b o, X.s₀.heap.get? b = some o → b ∉ gl := fun b o q z => by rw [n0 b z] at q; cases q
  have nf : ∀ b o, X.s₀.heap.get? b = some o → b ∉ X.fs → b ∉ frs X.stack := fun b o q n z => by
    rw [hs] at z
    unfold frs at z
    rw [List.filterMap_cons, hf] at z
    rcases List.mem_cons.mp z with z | z
    · subst z
      exact absurd (Nat.lt_of_lt_of_le (Heap.lt_size q) I.ok.above) (Nat.lt_irrefl _)
    · exact n z
  refine ⟨fun b o q n nb nx => ?_, fun b o q n nb nx => ?_, u.free, fun b o q nx => ?_, u.tups, u.frzs, u.tbls⟩
  · exact g.keep b o (nl b o q) (nf b o q nb) (u.keep b o q n nb nx)
  · obtain ⟨sl, e1⟩ := u.slot b o q n nb nx
    obtain ⟨sl', e2⟩ := g.slot b _ (nl b o q) e1
    exact ⟨sl', e2⟩
  · obtain ⟨o', e1⟩ := u.there b o q nx
    obtain ⟨sl, e2⟩ := g.slot b o' (nl b o q) e1
    exact ⟨_, e2⟩
end
section
variable {P : Program} {w : World} {K : PySem.W.Frag} {mg : Str → Option Value} {base : Heap} {N : List Str} {qual : Str} {scope : Scope} {f : Addr} {cd : Value} {A : Around} {outer : List Env} {s : Shared} {H : Hp} {E : XK}
noncomputable abbrev cx1 (P : Program) (w : World) (K : PySem.W.Frag) (mg : Str → Option Value) (base : Heap) (N : List Str) (qual : Str) (scope : Scope) (f : Addr) (cd : Value) (A : Around) (outer : List Env) (s : Shared) (H : Hp) (E : XK) : Cx := cxOf (CX1 P w) P w K mg base N qual scope f cd A outer s H E
/-- a new exception leaves the def -/
noncomputable def Raises (X : Cx) (E : XK) : Prop := ∀ (pins : List (Addr × Obj)) (σ : St) (H : Hp) (s : Shared) (e t : Addr) (C : Value), L2.Inv X pins σ H s → s.heap.get? e = some { cls := C, data := .fields #[.ref t, .none, .none, .none, .bool false, .none] } → X.s₀.heap.get? e = none → H e = none → E C none H → X.xe (.ref e) s
theorem raises1 : Raises (cx1 P w K mg base N qual scope f cd A outer s H E) E := fun pins σ H1 s1 e t C I he h0 hn hE => by
  refine leave_new (base := base) I.ok.frames I.stack rfl he rfl rfl rfl fun h' T g => ?_
  refine ⟨e, T, C, H1, rfl, I.os, I.bare, un_gone I rfl rfl rfl g fun b hb => ?_, hok_gone I.hok g (fun b hb => ?_) I.stkFree, hn, Inv.free_none I g.new, h0, Inv.old_none I rfl g.new, g.trc, hE⟩
  · rw [List.mem_singleton.mp hb]; exact h0
  · rw [List.mem_singleton.mp hb]; exact hn
/-- one that came from a callee -/
theorem pass1 : Passes (CX1 P w) (cx1 P w K mg base N qual scope f cd A outer s H E) E := fun pins σ H1 s1 e s' I hc => by
  obtain ⟨a, T, C, H', rfl, os, bare, un, hok, na, nT, ha, hT, tr, hE⟩ := hc
  have I' : L2.Inv (cx1 P w K mg base N qual scope f cd A outer s H E) pins σ H' s' := I.call' (ch := []) os un hok bare fun b z => nomatch z
  have ha0 := Inv.old_none I rfl ha
  have hT0 := Inv.old_none I rfl hT
  have two : ∀ {p : Addr → Prop}, p a → p T → ∀ b ∈ [a, T], p b := fun {p} h1 h2 b hb => by
    rcases List.mem_cons.mp hb with rfl | hb
    · exact h1
    · rw [List.mem_singleton.mp hb]; exact h2
  refine leave_on (base := base) I'.ok.frames I'.stack rfl tr fun h' T' g => ?_
  exact ⟨a, T', C, H', rfl, I'.os, I'.bare, un_gone I' rfl rfl rfl g (two ha0 hT0), hok_gone I'.hok g (two na nT) I'.stkFree, na, Inv.free_none I' g.new, ha0, Inv.old_none I' rfl g.new, g.trc, hE⟩
end
section
variable {P : Program} {w : World} {K : PySem.W.Frag} {mg : Str → Option Value} {base : Heap}
/-- a def that may raise, by its body -/
theorem ok1 {x qual : Str} {st : Stmt} {f : Addr} {fd : FuncData} {N ps : List Str} {k : Nat} {sp : Sp} (F : Fun K x qual st f fd) (S : FnScope N ps (defScope st)) (len : ∀ vs H Q E, sp vs H Q E → vs.length = ps.length)
    (hbody : ∀ (cdv : Value) (A : Around) (outer : List Env) (s : Shared) (H : Hp) (vs : List V) (Q : VK) (E : XK), Room k (A.deeper (envOfC qual (defScope st) s.heap.objs.size f cdv)) → sp vs H Q E →
      ∃ t, PSs (cx1 P w K mg base N qual (defScope st) f cdv A outer s H E) (defBody st) t ∧ t { nx := fun _ H' => Q .non H', rt := Q } (start N vs) H) : FnOk P w K mg base (CX1 P w) (k + 1) f fd ps sp := by
  obtain ⟨oc, od, kV, doc, pm, an, cdv, ct, osl, rfl, lk, hcd⟩ := F.ex
  exact fn_of lk hcd S len fun A outer s H vs Q E hr hsp => hbody cdv A outer s H vs Q E hr hsp
end
/-- an own class of exceptions that stands under the built-in one B -/
structure XCls (K : PySem.W.Frag) (B newId initId : String) (bmB : List Value) (C : Addr) : Prop where
  F : ExcBaseFacts B newId initId bmB
  obj : ∀ h : Heap, K.In h → ∃ bm N nm q bs hdct sn sub ab col dd k0 k1 k2 k3 k5 mN, h.get? C = some (excClassObj nm q C N bs bm hdct sn sub ab col dd k0 k1 k2 k3 k5 newId) ∧ h.Ns N mN ∧ mN "__init__" = none ∧ OwnTail h bmB bm
section
variable {X : Cx} {E : XK} {B newId initId : String} {bmB : List Value} {C : Addr} {x : Str} {np cpos pos : Pos} {a : Expr} {ta : TE}
/-- raise C(a) -/
noncomputable def tRaise (E : XK) (C : Value) (ta : TE) : L2.TS := fun _ σ H => ta σ H fun _ H1 => E C none H1
theorem ps_raise (hx : X.ex = []) (R : Raises X E) (hc : X.calm = true) (c : XCls X.K B newId initId bmB C) (hg : Gl X x) (hm : X.mg x = some (.ref C)) (ha : PE X a ta)
    (hs : starEach [a] X.env = [(false, eval a X.env)] := by rfl) (hd : (x == ("__debug__" : Str)) = false := by decide) :
    PS X (.Raise (some (.Call (.Name x np) [a] [] cpos)) none pos) (tRaise E (.ref C) ta) := by
  intro pins s σ H D I h
  obtain ⟨bm, N, nm, q, bs, hdct, sn, sub, ab, col, dd, k0, k1, k2, k3, k5, mN, c1, c2, c3, c4⟩ := c.obj _ I.ok.mod.kin
  have bk : ∀ {σ' : St} {H' : Hp} {s' : Shared}, L2.Inv X pins σ' H' s' → ∀ b o, X.base.get? b = some o → s'.heap.get? b = some o := fun J => J.bk
  refine wpAny_Raise_call_subT (C := C) (nm := nm) (q := q) (N := N) (bs := bs) (bm := bm) (hdct := hdct) (sn := sn) (sub := sub) (ab := ab) (col := col) (dd := dd) (k0 := k0) (k1 := k1) (k2 := k2) (k3 := k3) (k5 := k5) c.F (mN := mN) (c4.hasType c.F.hasBase) (I.ok.hd hc) (by rw [hs]; rfl) c3 ?_
  refine thn (pe_glob (v := .ref C) hg hm rfl hd pins s σ H (fun v H' => v = .ref C ∧ H' = H) I ⟨rfl, rfl⟩) fun u s1 ⟨v, H1, I1, r1, e1, e2⟩ => ?_
  subst e1 e2
  refine ⟨r1, ?_⟩
  rw [hs]
  refine Calls.evalArgs_plain (Calls.spliced_cons (thn (ha pins s1 σ H1 _ I1 h) fun u s2 ⟨v, H2, I2, r2, hE⟩ => Calls.spliced_nil ?_))
  refine ⟨rfl, (by show 1 ≤ sizeLine; decide), bk I2 _ _ c1, c2.keeps (bk I2), c4.keeps (bk I2), fun h' e m => ?_⟩
  obtain ⟨t, g1, g2, g3⟩ := m.there
  exact R pins σ H2 _ e t (.ref C) (I2.kept m.keeps) g1 (Inv.old_none I2 hx m.new) (Inv.free_none I2 m.new) hE
end
end KS
end
section
set_option maxRecDepth 100000
set_option maxHeartbeats 4000000
set_option linter.all false
namespace KS
open PySem PySem.Spec L2
open PyProof.Rows hiding St
section
variable {X : Cx} {pins : List (Addr × Obj)} {σ : St} {H : Hp} {s : Shared}
theorem Inv.nfr (I : L2.Inv X pins σ H s) {b : Addr} (h1 : b ≠ X.env.locals) (h2 : b ∉ X.fs) : b ∉ frs X.stack := fun z => by
  rcases List.mem_cons.mp (I.stkSub b z) with z | z
  · exact h1 z
  · exact h2 z
/-- behind a frame that an exception noted -/
theorem Inv.gone {h' : Heap} {e T : Addr} {C : Value} {gl : List Addr} (I : L2.Inv X pins σ H s) (hx : X.ex = []) (hs : X.stack = X.env :: X.outer) (hf : X.env.frame = some X.env.locals) (g : Gone X.stack e T C gl s.heap h')
    (n0 : ∀ b ∈ gl, X.s₀.heap.get? b = none) (n1 : ∀ b ∈ gl, H b = none) (nf : ∀ b ∈ gl, ∃ o vs, s.heap.get? b = some o ∧ o.data = .fields vs) (np : ∀ p ∈ X.pn ++ pins, p.1 ∉ gl) : L2.Inv X pins σ H { s with heap := h' } := by
  have nL : X.env.locals ∉ gl := fun z => by
    obtain ⟨m, ⟨o, es, ep, ho, hd, _⟩, _⟩ := I.loc
    obtain ⟨o', vs, e1, e2⟩ := nf _ z
    rw [ho] at e1
    cases e1
    rw [hd] at e2
    cases e2
  have nC : ∀ c v, s.heap.IsCell c v → c ∉ gl := fun c v ⟨o, ho, hd⟩ z => by
    obtain ⟨o', vs, e1, e2⟩ := nf _ z
    rw [ho] at e1
    cases e1
    rw [hd] at e2
    cases e2
  have cellK : ∀ c v, s.heap.IsCell c v → h'.IsCell c v := fun c v hc => by
    obtain ⟨o, ho, hd⟩ := id hc
    obtain ⟨sl, e1⟩ := g.slot c o (nC c v hc) ho
    exact ⟨_, e1, hd⟩
  have u := un_gone I hx hs hf g n0
  refine ⟨I.ok, I.os, I.bare, by rw [hx]; exact u, ?_, fun x c e => ?_, I.free, I.freeC, fun p hp => ?_, hok_gone I.hok g n1 I.stkFree, I.len⟩
  · obtain ⟨m, ⟨o, es, ep, ho, r⟩, hl⟩ := I.loc
    obtain ⟨sl, e1⟩ := g.slot _ o nL ho
    refine ⟨m, ⟨_, es, ep, e1, r⟩, fun i x v e1 e2 e3 => ?_⟩
    obtain ⟨w, r1, q⟩ := hl i x v e1 e2 e3
    refine ⟨w, r1, ?_⟩
    rcases q with q | ⟨k, c, e, z⟩
    · exact .inl q
    · exact .inr ⟨k, c, e, cellK c _ z⟩
  · obtain ⟨v, z⟩ := I.cell x c e
    exact ⟨v, cellK c v z⟩
  · obtain ⟨e1, n, ne, nfs, d⟩ := I.pin p hp
    exact ⟨g.keep p.1 p.2 (np p hp) (Inv.nfr I ne nfs) e1, n, ne, nfs, d⟩
/-- one record of no account changed -/
theorem Inv.record {h' : Heap} {T : Addr} {t' : Nat} (I : L2.Inv X pins σ H s) (hx : X.ex = []) (keep : ∀ b o, b ≠ T → s.heap.get? b = some o → h'.get? b = some o) (n0 : X.s₀.heap.get? T = none) (n1 : H T = none) (nf : ∃ o vs, s.heap.get? T = some o ∧ o.data = .fields vs) (np : ∀ p ∈ X.pn ++ pins, p.1 ≠ T) :
    L2.Inv X pins σ H { s with heap := h', toks := t' } := by
  obtain ⟨oT, vs, hT, hd⟩ := nf
  have nL : X.env.locals ≠ T := fun z => by
    obtain ⟨m, ⟨o, es, ep, ho, hd', _⟩, _⟩ := I.loc
    rw [z, hT] at ho
    cases ho
    rw [hd] at hd'
    cases hd'
  have nC : ∀ c v, s.heap.IsCell c v → c ≠ T := fun c v ⟨o, ho, hd'⟩ z => by
    rw [z, hT] at ho
    cases ho
    rw [hd] at hd'
    cases hd'
  have cellK : ∀ c v, s.heap.IsCell c v → h'.IsCell c v := fun c v hc => by
    obtain ⟨o, ho, hd⟩ := id hc
    exact ⟨_, keep c o (nC c v hc) ho, hd⟩
  have u := I.base
  rw [hx] at u
  have ns : ∀ b o, X.s₀.heap.get? b = some o → b ≠ T := fun b o e z => by rw [z, n0] at e; cases e
  have u2 : Un X.fs [] X.H₀ H X.s₀.heap h' := by
    refine ⟨fun b o q n nb nx => keep b o (ns b o q) (u.keep b o q n nb nx), fun b o q n nb nx => ?_, u.free, fun b o q nx => ?_, u.tups, u.frzs, u.tbls⟩
    · obtain ⟨sl, e1⟩ := u.slot b o q n nb nx
      exact ⟨sl, keep b _ (ns b o q) e1⟩
    · obtain ⟨o', e1⟩ := u.there b o q nx
      exact ⟨o', keep b _ (ns b o q) e1⟩
  refine ⟨I.ok, I.os, I.bare, by rw [hx]; exact u2, ?_, fun x c e => ?_, I.free, I.freeC, fun p hp => ?_, fun a o ha => ?_, I.len⟩
  · obtain ⟨m, ⟨o, es, ep, ho, r⟩, hl⟩ := I.loc
    refine ⟨m, ⟨_, es, ep, keep _ o nL ho, r⟩, fun i x v e1 e2 e3 => ?_⟩
    obtain ⟨w, r1, q⟩ := hl i x v e1 e2 e3
    refine ⟨w, r1, ?_⟩
    rcases q with q | ⟨k, c, e, z⟩
    · exact .inl q
    · exact .inr ⟨k, c, e, cellK c _ z⟩
  · obtain ⟨v, z⟩ := I.cell x c e
    exact ⟨v, cellK c v z⟩
  · obtain ⟨e1, n, ne, nfs, d⟩ := I.pin p hp
    exact ⟨keep p.1 p.2 (np p hp) e1, n, ne, nfs, d⟩
  · have tr : ∀ b v, H b = some v → b ≠ T := fun b v hb z => by rw [z, n1] at hb; cases hb
    refine (I.hok a o ha).stay (fun b v hb hv => ?_) (fun _ q => q) fun _ _ q => q
    rcases hb with rfl | hb
    · exact keep b v (tr b o ha) hv
    · exact keep b v (tr b _ hb) hv
/-- a local name that goes -/
theorem Inv.name_gone {M : Model} {A : Around} {E : Value → Shared → Prop} {i : Nat} {n : Str} {pos : Pos} {Q : Unit → Shared → Prop} (I : L2.Inv X pins σ H s) (hN : X.N.Nodup) (hi : X.N[i]? = some n) (hl : X.env.kindOf n = some .local)
    (q : ∀ s', L2.Inv X pins (σ.set i none) H s' → Q () s') : wpAny M A (do bindName X.env n .none; unbindBehindTheSuite X.env n pos) Q E s := by
  obtain ⟨m, hn, hv⟩ := id I.loc
  have hcls : (X.env.scope.kind == .class || (X.env.scope.kind == .module && X.env.locals != X.env.globals)) = false := by rw [I.ok.kind]; rfl
  obtain ⟨oL, _, _, hoL, _⟩ := id hn
  have cne := I.cne
  refine wpAny_nameGoes_keeps hl hn hcls fun h' v hn' hs => q _ ?_
  have low : ∀ b o, X.s₀.heap.get? b = some o → b ≠ X.env.locals := fun b o e => Nat.ne_of_lt (Nat.lt_of_lt_of_le (Heap.lt_size e) I.ok.above)
  refine ⟨I.ok, I.os, I.bare, ⟨fun b o e n hb hx => (hs.2 b (low b o e)).trans (I.base.keep b o e n hb hx), fun b o e n hb hx => ?_, I.base.free, fun b o e hx => ?_, I.base.tups, I.base.frzs, I.base.tbls⟩, ⟨_, hn', fun j y v' e1 e2 e3 => ?_⟩, fun y c e => ?_, I.free, I.freeC, fun p hp => ?_, fun b ob e => ?_, by rw [List.length_set]; exact I.len⟩
  · obtain ⟨sl, e1⟩ := I.base.slot b o e n hb hx
    exact ⟨sl, (hs.2 b (low b o e)).trans e1⟩
  · obtain ⟨o', e1⟩ := I.base.there b o e hx
    exact ⟨o', (hs.2 b (low b o e)).trans e1⟩
  · by_cases hj : j = i
    · subst hj
      by_cases hlt : j < σ.length
      · rw [List.getElem?_set_self hlt] at e2
        cases e2
      · rw [List.getElem?_eq_none (by rw [List.length_set]; omega)] at e2
        cases e2
    · rw [List.getElem?_set_ne (Ne.symm hj)] at e2
      obtain ⟨u', r', z⟩ := hv j y v' e1 e2 e3
      refine ⟨u', r', ?_⟩
      rcases z with ⟨k, e⟩ | ⟨k, c, e, z⟩
      · refine .inl ⟨k, ?_⟩
        have : y ≠ n := fun e => hj (nodup_ix hN e1 (e ▸ hi))
        simp [this, e]
      · exact .inr ⟨k, c, e, z.sameBut hs (cne y c e)⟩
  · obtain ⟨w', z⟩ := I.cell y c e
    exact ⟨w', z.sameBut hs (cne y c e)⟩
  · obtain ⟨e, n, ne, nf, d⟩ := I.pin p hp
    exact ⟨(hs.2 p.1 ne).trans e, n, ne, nf, d⟩
  · refine (I.hok b ob e).stay (fun c w' hc q => (hs.2 c ?_).trans q) (fun _ q => q) fun _ _ q => q
    rintro rfl
    rcases hc with rfl | hc
    · rw [I.free] at e; cases e
    · rw [I.free] at hc; cases hc
end
/-- setFlight of a noted exception -/
theorem flight0 {M : Model} {A : Around} {E : Value → Shared → Prop} {s : Shared} {e T : Addr} {C fl : Value} {Q : Unit → Shared → Prop} (t : Trc s.heap e T C fl)
    (q : ∀ h', (∀ b o, b ≠ T → s.heap.get? b = some o → h'.get? b = some o) → Q () { s with heap := h' }) : wpAny M A (setFlight (.ref e) none) Q E s := by
  obtain ⟨⟨oe, vs, a1, a2, a3, a4, a5⟩, ne, ⟨oT, ts, b1, b2, b3⟩⟩ := t
  unfold setFlight
  refine wpAny_bind (wpAny_field a1 a4 a5 ?_)
  rw [if_pos (show (Value.ref T != Value.none) = true by simp)]
  exact wpAny_setField b1 b2 (Array.getElem?_eq_some_iff.mp b3).1 (q _ fun b o hb ho => (Heap.get?_update_other _ _ (Ne.symm hb)).trans ho)
/-- the context of an except suite -/
noncomputable def hcx (X : Cx) (a : Addr) (oe : Obj) : Cx := { X with A := X.A.mark (some (.ref a)), calm := false, pn := X.pn ++ [(a, oe)], xe := fun _ _ => False }
section
variable {X : Cx} {pins : List (Addr × Obj)} {σ : St} {H : Hp} {s : Shared} {a : Addr} {oe : Obj}
theorem Inv.into (I : L2.Inv X pins σ H s) (h1 : s.heap.get? a = some oe) (h2 : H a = none) (h3 : a ≠ X.env.locals) (h4 : a ∉ X.fs) (h5 : ∀ v, oe.data ≠ .cell v) : L2.Inv (hcx X a oe) pins σ H s := by
  refine ⟨⟨I.ok.mod, I.ok.kind, I.ok.glob, I.ok.blt, I.ok.above, I.ok.inj, I.ok.has, I.ok.cab, (fun z => nomatch z), I.ok.frames, I.ok.stk, I.ok.exf, I.ok.bs, I.ok.bsz, I.ok.noex, I.ok.exfs, I.ok.funs, I.ok.frf⟩, I.os, I.bare, I.base, I.loc, I.cell, I.free, I.freeC, fun p hp => ?_, I.hok, I.len⟩
  rcases List.mem_append.mp hp with hp | hp
  · rcases List.mem_append.mp hp with hp | hp
    · exact I.pin p (List.mem_append_left _ hp)
    · rw [List.mem_singleton.mp hp]
      exact ⟨h1, h2, h3, h4, h5⟩
  · exact I.pin p (List.mem_append_right _ hp)
theorem Inv.outof (ok : X.Ok) (I : L2.Inv (hcx X a oe) pins σ H s) : L2.Inv X pins σ H s :=
  ⟨ok, I.os, I.bare, I.base, I.loc, I.cell, I.free, I.freeC, fun p hp => I.pin p (by
    rcases List.mem_append.mp hp with hp | hp
    · exact List.mem_append_left _ (List.mem_append_left _ hp)
    · exact List.mem_append_right _ hp), I.hok, I.len⟩
end
/-- what is asked of an own class of exceptions for isinstance -/
structure XIs (K : PySem.W.Frag) (D : Addr) : Prop where
  hd : PySem.W.hasDictIn K D = true
  ha : PySem.W.findIn K (.ref D) "__class__" = some (some (.builtin "object.__class__"))
  hn : PySem.W.specialIn K (.builtin "object.__class__") "__get__" = some (some (.builtin "getset_descriptor.__get__"))
  ht : PySem.W.takesIn K (.builtin "object.__class__") = some true
  hm : PySem.W.mroIn K D (.type "object") = some true
  hb : PySem.W.mroIn K D (.type "BaseException") = some true
  hga : PySem.W.findIn K (.ref D) "__getattribute__" = some (some (.builtin "BaseException.__getattribute__"))
  hgn : PySem.W.findIn K (.ref D) "__getattr__" = some none
section
open PySem.W
variable {prog : Program} {w : World} {A : Around} {E : Value → Shared → Prop} {K : Frag} {h : Heap} {g : Array GenState} {d : Drawn} {t : Nat} {os : OsState} {a D : Addr} {ox : Obj}
theorem cls_call {tk : Tok} {R : Result → Shared → Prop} (X : K.In h) (I : InstAt h a ox D none) (c : XIs K D)
    (q : R (.ok (.ret (.ref D))) ⟨h, g, d, t, os⟩) : codeAny (model prog w) A (.call (.builtin "BaseException.__getattribute__") ⟨[.ref a, .str "__class__" tk], []⟩) R ⟨h, g, d, t, os⟩ := by
  have L0 := I.type (M := model prog w)
  have hf : findObj K D none "__class__" = some (.bind (.builtin "getset_descriptor.__get__") (.builtin "object.__class__")) := by
    obtain ⟨cd, hcd, _⟩ := any_some c.hd
    unfold findObj
    simp [hcd, c.ha, c.hn, c.ht]
  have L3 := looks_find (M := model prog w) X I hf
  have L4 := looks_mroIn (M := model prog w) X c.hb
  refine codeAny_call_builtin PySem.F.attr_ValueError.ga.plain F.entry_bexc_ga ?_
  have hk : builtinKind "BaseException.__getattribute__" = some .slot := by decide +kernel
  have hsplit : splitId "BaseException.__getattribute__" = some ("BaseException", "__getattribute__") := by decide +kernel
  have ha := F.args_bexc_ga (.ref a) (.str "__class__" tk)
  simp only [checkBuiltinCall, hk, hsplit]
  refine wpAny_bind ?_
  unfold isInstance
  refine wpAny_bind (L0.at (L4.at ?_))
  rw [if_neg (by decide)]
  have main : wpAny (model prog w) A.in1 (Builtin.«object.__getattribute__» ⟨[.ref a, .str "__class__" tk], []⟩) (fun fin s' => match fin with | .done f => R (.ok f) s' | .again c' => c'.quiet = true ∧ codeAny (model prog w) A c' R s') (fun e s' => R (.error e) s') ⟨h, g, d, t, os⟩ := by
    unfold Builtin.«object.__getattribute__»
    refine wpAny_bind (wpAny_pure (wpAny_bind (wpAny_pure (wpAny_bind (L0.at (wpAny_bind (L3.at ?_)))))))
    dsimp only
    unfold Builtin.ObjectAttr.bindTo
    dsimp only
    refine wpAny_bind (wpAny_holding (wpAny_call (class_get (od := none) X I c.hm ?_)))
    exact wpAny_pure q
  unfold argsOk at ha
  generalize Manifest.signature? "BaseException.__getattribute__" = sg at ha ⊢
  cases sg with
  | none => exact wpAny_pure main
  | some sig =>
    dsimp only at ha ⊢
    rw [ha]
    exact wpAny_pure main
theorem cls_attr {Q : Option Value → Shared → Prop} {s : Shared} (X : K.In s.heap) (I : InstAt s.heap a ox D none) (c : XIs K D)
    (q : Q (some (.ref D)) { s with toks := s.toks + 1 }) : wpAny (model prog w) A (getAttr? (.ref a) "__class__") Q E s := by
  obtain ⟨h, g, d, t, os⟩ := s
  have L0 := I.type (M := model prog w)
  have L1 := looks_findIn (M := model prog w) X c.hga
  have L2 := looks_findIn (M := model prog w) X c.hgn
  unfold getAttr? getAttrBy? getAttrBy
  refine wpAny_bind (wpAny_mkText (wpAny_bind (wpAny_attempt (wpAny_holding (wpAny_bind (L0.at (wpAny_bind (L1.at ?_))))))))
  dsimp only
  rw [if_neg (by simp [onTheHeap])]
  unfold getAttrByItsOwn hookBefore
  rw [if_pos (by rfl)]
  refine wpAny_bind (L2.at (wpAny_bind (wpAny_attempt (wpAny_holding ?_))))
  unfold callGetattribute boundAndCalled
  rw [if_neg (by decide)]
  refine wpAny_bind (wpAny_of_eq (PySem.F.attr_ValueError.ga.bind (.ref a)) ?_)
  refine wpAny_call (cls_call X I c ?_)
  refine handed_on rfl ?_
  exact wpAny_pure q
theorem kitx_exc {x : Addr} (c : XIs K D) : KitX K (.ref x) (.ref D) (fun h => InstAt h x ox D none) where
  ty := fun _ _ _ I => I.type
  it := fun _ _ X _ => by
    obtain ⟨cd, hcd, _⟩ := any_some c.hd
    unfold clsIn at hcd
    split at hcd
    · rename_i q1 q2 q3 q4 hob
      intro A1 Q1 E1 s1 kk qq
      unfold isType loadHead
      exact wpAny_bind (wpAny_loadPart (kk _ _ (X _ _ hob)) (wpAny_pure qq))
    · cases hcd
  ne := fun h tp dd its n sl X htp => by
    obtain ⟨cd, hcd, _⟩ := any_some c.hd
    refine Bool.eq_false_iff.mpr fun z => ?_
    obtain rfl : D = tp := Value.ref.inj (beq_iff_eq.mp z)
    unfold clsIn at hcd
    split at hcd
    · rename_i q1 q2 q3 q4 hob
      have zz := (X _ _ hob).symm.trans htp
      cases zz
    · cases hcd
  ca := fun X I k => cls_attr X I c k
theorem kit_self {C : Addr} : kitOne K (.ref C) (.ref C) = some true := by
  unfold kitOne
  rw [if_pos (beq_self_eq_true _)]
theorem kitc {C : Addr} {b : Bool} (h1 : isClsIn K D = true) (h2 : typeIn K (.ref D) = some (.type "type")) (h3 : mroIn K C (.ref D) = some b) : kitCls K (.ref C) (.ref D) = some b := by
  unfold isClsIn at h1
  show (if ((clsIn K D).isSome && typeIn K (.ref D) == some (.type "type")) = true then subIn K (.ref C) (.ref D) else none) = some b
  rw [h1, h2, if_pos (by rfl)]
  exact h3
theorem kit_not {C : Addr} (h0 : mroIn K C (.ref C) = some true) (h1 : isClsIn K D = true) (h2 : typeIn K (.ref D) = some (.type "type")) (h3 : mroIn K C (.ref D) = some false) : kitOne K (.ref C) (.ref D) = some false := by
  unfold kitOne
  rw [if_neg fun z => by
    obtain rfl : C = D := Value.ref.inj (beq_iff_eq.mp z)
    rw [h0] at h3
    cases h3]
  exact kitc h1 h2 h3
theorem kit_ty {C : Addr} (h : mroIn K C (.type "ValueError") = some true) : kitOne K (.ref C) (.type "ValueError") = some true := by
  unfold kitOne
  rw [if_neg (fun z => by cases beq_iff_eq.mp z)]
  show (if kitMeta "ValueError" = true then subIn K (.ref C) (.type "ValueError") else none) = some true
  rw [if_pos (by decide +kernel)]
  exact h
theorem exm_of {C : Addr} (h0 : mroIn K D (.type "BaseException") = some true) (h1 : isClsIn K D = true) (h2 : typeIn K (.ref D) = some (.type "type")) (h3 : mroIn K C (.ref D) = some true) : exmOne K (.ref C) (.ref D) = some true := by
  unfold exmOne
  rw [if_pos (by show ((mroIn K D (.type "BaseException")) == some true) = true; rw [h0]; rfl)]
  exact kitc h1 h2 h3
end
/-- an exception's own object -/
structure ExO (oe : Obj) (D : Addr) : Prop where
  cls : oe.cls = .ref D
  dict : oe.dict = none
  data : ∃ vs, oe.data = .fields vs
theorem ExO.inst {h : Heap} {a D : Addr} {oe : Obj} (x : ExO oe D) (e : h.get? a = some oe) : PySem.W.InstAt h a oe D none := by
  obtain ⟨vs, hv⟩ := x.data
  refine ⟨e, x.cls, ?_, ?_⟩
  · unfold PySem.W.notCls
    rw [hv]
  · rw [x.dict]
    trivial
section
variable {X : Cx} {K : PySem.W.Frag} {a : Addr} {oe : Obj}
/-- isinstance(n, C), n the exception that is handled -/
noncomputable def rIsE (K : PySem.W.Frag) (a : Addr) (oe : Obj) : List V → Hp → VK → Prop := fun xs H Q => ∃ (D : Addr) (v : V) (c : Value) (b : Bool), xs = [.ref a, v] ∧ (∀ u, RelV v u → u = c) ∧ ExO oe D ∧ XIs K D ∧ PySem.W.kitOne K (.ref D) c = some b ∧ Q (.bl b) H
theorem call_isE (hK : X.K = K) : CallR (hcx X a oe) (.builtin "isinstance") (rIsE K a oe) := by
  subst hK
  intro pins s σ H xs us Q I r h
  obtain ⟨D, v, c, b, rfl, hv, x, xi, e, q⟩ := h
  obtain ⟨u, v', rfl, rx, ry⟩ := r.two
  cases (show u = Value.ref a from rx)
  obtain rfl := hv _ ry
  have hp := (I.pin (a, oe) (List.mem_append_left _ (List.mem_append_right _ (List.mem_singleton.mpr rfl)))).1
  exact PySem.W.kia_one (kitx_exc (K := X.K) (x := a) (ox := oe) xi) I.kIn (x.inst hp) e (fun z => nomatch z) fun tk => ⟨.bl b, H, I.tok tk, rfl, q⟩
end
section
variable {X : Cx} {k : Nat} {f Dc : Addr} {fd : FuncData} {ps : List Str} {sp : Sp} {x y n : Str} {p cpos epos np hpos pos : Pos} {e : Expr} {es : List Expr} {ta : TA} {b₀ : Stmt} {suite : List Stmt} {th : Addr → Obj → L2.TS} {i : Nat}
end
end KS
end
section
set_option maxRecDepth 100000
set_option linter.all false
namespace KS
open PySem PySem.Spec L2
open PyProof.Rows hiding St
abbrev bmVE : List Value := [.type "ValueError", .type "Exception", .type "BaseException", .type "object"]
theorem xcls_of {K : PySem.W.Frag} {C : Addr} (q : PySem.W.excIn K C bmVE "ValueError.__new__" = true) : XCls K "ValueError" "ValueError.__new__" "ValueError.__init__" bmVE C := by
  refine ⟨PySem.F.excBase_ValueError, fun h X => ?_⟩
  unfold PySem.W.excIn at q
  split at q
  · rename_i dd cd sl hob
    split at q
    · rename_i C1 bm j0 j1 j2 j3 nw j5 g1 g2
      simp only [Bool.and_eq_true, beq_iff_eq, Bool.not_eq_true'] at q
      obtain ⟨⟨⟨⟨⟨rfl, rfl⟩, q1⟩, q2⟩, q3⟩, q4⟩ := q
      obtain ⟨nm, bs, mro, ns, qn, hd, sn, sub, ab, col, del⟩ := cd
      dsimp only at g1 q1 q3 q4
      subst g1 q1
      obtain rfl : sl = #[j0, j1, j2, j3, some (.builtin "ValueError.__new__"), j5] := by
        obtain ⟨l⟩ := sl
        simp only at g2
        rw [g2]
      exact ⟨bm, ns, nm, qn, bs, hd, sn, sub, ab, col, dd, j0, j1, j2, j3, j5, _, X _ _ hob, .of_isNs (PySem.W.isNs_of_in X q3), PySem.W.nsMap_none_of_in X q3 q4, PySem.W.tail_of_in X q2⟩
    · cases q
  · cases q
end KS
end
section
set_option maxRecDepth 100000
set_option maxHeartbeats 4000000
set_option linter.all false
namespace KS
open PySem PySem.Spec L2
open PyProof.Rows hiding St
section
variable {M : Model} {A : Around} {E : Value → Shared → Prop} {s : Shared} {base : Heap} {env : Env} {outer : List Env} {L e T : Addr} {C fl : Value}
/-- a frame noted, the flight not yet ended -/
theorem note_fl {Q : Unit → Shared → Prop} (k1 : A.frames = some (env :: outer)) (k2 : s.heap.FunFrames base (env :: outer)) (k3 : env.frame = some L) (k4 : Trc s.heap e T C fl) (hne : (fl == rawInt L) = false)
    (q : ∀ h' T', s.heap.objs.size ≤ T' → Trc h' e T' C (rawInt L) → (∀ b o, b ∉ [e, T] → b ∉ frs (env :: outer) → s.heap.get? b = some o → h'.get? b = some o) → (∀ b o, b ∉ [e, T] → s.heap.get? b = some o → ∃ sl, h'.get? b = some { o with slots := sl }) → s.heap.objs.size ≤ h'.objs.size → Q () { s with heap := h' }) :
    wpAny M A (noteFrame (.ref e) env) Q E s := by
  obtain ⟨⟨oe, vs, a1, a2, a3, a4, a5⟩, ne, ⟨oT, ts, b1, b2, b3⟩⟩ := k4
  subst a2
  unfold noteFrame
  simp only [k3]
  refine wpAny_bind (wpAny_field a1 a4 a5 ?_)
  rw [if_pos (show (Value.ref T != Value.none) = true by simp)]
  refine wpAny_bind (wpAny_field b1 b2 b3 ?_)
  rw [if_neg (by rw [hne]; decide)]
  refine wpAny_bind (wpAny_setField b1 b2 (Array.getElem?_eq_some_iff.mp b3).1 ?_)
  generalize hh0 : s.heap.update T (Obj.mapFields (·.setIfInBounds 3 Value.none)) = h0
  have ot : ∀ b, b ≠ T → h0.get? b = s.heap.get? b := fun b hb => by rw [← hh0]; exact Heap.get?_update_other _ _ (Ne.symm hb)
  have sz0 : h0.objs.size = s.heap.objs.size := by rw [← hh0]; exact Heap.size_after_update _ _ _
  have nr : ∀ b o, s.heap.get? b = some o → (∀ vs, o.data ≠ .fields vs) → b ≠ T := fun b o hb nf z => by
    rw [z, b1] at hb
    cases hb
    exact nf ts b2
  have k2' : h0.FunFrames base (env :: outer) := k2.of_keeps fun b o hb nf => ⟨o, (ot b (nr b o hb nf)).trans hb, rfl⟩
  have e0 : h0.get? e = some oe := (ot e (Ne.symm ne)).trans a1
  have nof : e ∉ frs (env :: outer) := fun z => by
    obtain ⟨_, o, ho, nf⟩ := k2'.mem z
    rw [e0] at ho
    cases ho
    exact nf vs a4
  refine wpAny_bind (wpAny_frameOf_fun k1 k2' k3 fun g1 x1 => ?_)
  refine wpAny_bind (wpAny_entryPlaceOf fun pl hpl => ?_)
  unfold EntryCells.newEntry newFields
  refine wpAny_bind (wpAny_newObj_type ?_ (hpl.sizeOk5 _ _ _ _ _))
  generalize hts : ([Value.ref T, .ref L, .none, rawInt L, .none] ++ (if pl.isEmpty then List.replicate 6 Value.none else pl)).toArray = tt
  have ht3 : tt[3]? = some (rawInt L) := by rw [← hts]; simp
  have e1 : g1.get? e = some oe := (x1.2.1 e nof).trans e0
  have e2 := Heap.get?_push_of_some (h := g1) { cls := .type "traceback", dict := none, data := .fields tt } e1
  have k7 : 1 < vs.size := (Array.getElem?_eq_some_iff.mp a5).1
  refine wpAny_setField e2 a4 k7 ?_
  have dT : g1.objs.size ≠ e := Nat.ne_of_gt (Heap.lt_size e1)
  have d3 := Obj.data_mapFields a4 (·.setIfInBounds 1 (Value.ref g1.objs.size))
  have e3 := Heap.get?_update_self (Obj.mapFields (·.setIfInBounds 1 (Value.ref g1.objs.size))) e2 (Obj.isFreed_of_fields d3)
  have t3 := (Heap.get?_update_other (g1.push { cls := .type "traceback", dict := none, data := .fields tt }) (Obj.mapFields (·.setIfInBounds 1 (Value.ref g1.objs.size))) (Ne.symm dT)).trans (Heap.get?_push_size g1 rfl)
  have oth : ∀ b o, b ≠ e → g1.get? b = some o → ((g1.push { cls := .type "traceback", dict := none, data := .fields tt }).update e (Obj.mapFields (·.setIfInBounds 1 (Value.ref g1.objs.size)))).get? b = some o := fun b o hb ho => by
    rw [Heap.get?_update_other _ _ (Ne.symm hb)]
    exact Heap.get?_push_of_some _ ho
  refine q _ g1.objs.size ?_ ⟨⟨_, _, e3, Obj.cls_mapFields _ _, ?_, d3, by simp [k7]⟩, dT, ⟨_, _, t3, rfl, ht3⟩⟩ (fun b o hb hf ho => ?_) (fun b o hb ho => ?_) ?_
  · rw [x1.1, sz0]; exact Nat.le_refl _
  · obtain ⟨c, dd, dt, sl⟩ := oe
    cases a3
    cases a4
    rfl
  · exact oth b o (fun z => hb (List.mem_cons.mpr (.inl z))) ((x1.2.1 b hf).trans ((ot b fun z => hb (z ▸ List.mem_cons_of_mem _ List.mem_cons_self)).trans ho))
  · obtain ⟨sl, hs⟩ := x1.2.2 b o ((ot b fun z => hb (z ▸ List.mem_cons_of_mem _ List.mem_cons_self)).trans ho)
    exact ⟨sl, oth b _ (fun z => hb (List.mem_cons.mpr (.inl z))) hs⟩
  · rw [Heap.size_after_update, Heap.size_push, x1.1, sz0]
    exact Nat.le_succ _
/-- the flight set anew -/
theorem flight_to {f : Option Addr} {Q : Unit → Shared → Prop} (k : Trc s.heap e T C fl) (q : ∀ h', Trc h' e T C (f.elim Value.none fun x => rawInt x) → (∀ b o, b ≠ T → s.heap.get? b = some o → h'.get? b = some o) → h'.objs.size = s.heap.objs.size → Q () { s with heap := h' }) : wpAny M A (setFlight (.ref e) f) Q E s := by
  obtain ⟨⟨oe, vs, a1, a2, a3, a4, a5⟩, ne, ⟨oT, ts, b1, b2, b3⟩⟩ := k
  unfold setFlight
  refine wpAny_bind (wpAny_field a1 a4 a5 ?_)
  rw [if_pos (show (Value.ref T != Value.none) = true by simp)]
  have h3 := (Array.getElem?_eq_some_iff.mp b3).1
  refine wpAny_setField b1 b2 h3 (q _ ⟨⟨oe, vs, (Heap.get?_update_other _ _ ne).trans a1, a2, a3, a4, a5⟩, ne, ⟨_, _, Heap.get?_update_self _ b1 (Obj.isFreed_of_fields (Obj.data_mapFields b2 _)), Obj.data_mapFields b2 _, by simp [h3]⟩⟩ (fun b o hb ho => (Heap.get?_update_other _ _ (Ne.symm hb)).trans ho) (Heap.size_after_update _ _ _))
/-- the def is left: noted already or not -/
theorem leave_fl {Q : Unit → Shared → Prop} (k1 : A.frames = some (env :: outer)) (k2 : s.heap.FunFrames base (env :: outer)) (k3 : env.frame = some L) (k4 : Trc s.heap e T C fl)
    (q : ∀ h' T', (T' = T ∨ s.heap.objs.size ≤ T') → Trc h' e T' C .none → (∀ b o, b ∉ [e, T] → b ∉ frs (env :: outer) → s.heap.get? b = some o → h'.get? b = some o) → (∀ b o, b ∉ [e, T] → s.heap.get? b = some o → ∃ sl, h'.get? b = some { o with slots := sl }) → s.heap.objs.size ≤ h'.objs.size → Q () { s with heap := h' }) :
    wpAny M A (leaving env (.ref e)) Q E s := by
  unfold leaving
  refine wpAny_bind ?_
  cases hfl : (fl == rawInt L) with
  | true =>
    obtain ⟨⟨oe, vs, a1, a2, a3, a4, a5⟩, ne, ⟨oT, ts, b1, b2, b3⟩⟩ := id k4
    unfold noteFrame
    simp only [k3]
    refine wpAny_bind (wpAny_field a1 a4 a5 ?_)
    rw [if_pos (show (Value.ref T != Value.none) = true by simp)]
    refine wpAny_bind (wpAny_field b1 b2 b3 ?_)
    rw [if_pos hfl]
    refine wpAny_pure (flight_to (f := none) k4 fun h' t' kp sz => ?_)
    exact q h' T (.inl rfl) t' (fun b o hb _ ho => kp b o (fun z => hb (z ▸ List.mem_cons_of_mem _ List.mem_cons_self)) ho) (fun b o hb ho => ⟨o.slots, kp b o (fun z => hb (z ▸ List.mem_cons_of_mem _ List.mem_cons_self)) ho⟩) (Nat.le_of_eq sz.symm)
  | false =>
    refine note_fl k1 k2 k3 k4 hfl fun h' T' n t' kp sl sz => ?_
    refine flight_to (s := { s with heap := h' }) (f := none) t' fun h2 t2 kp2 sz2 => ?_
    have nT : ∀ b o, s.heap.get? b = some o → b ≠ T' := fun b o e => Nat.ne_of_lt (Nat.lt_of_lt_of_le (Heap.lt_size e) n)
    refine q h2 T' (.inr n) t2 (fun b o hb hf ho => kp2 b o (nT b o ho) (kp b o hb hf ho)) (fun b o hb ho => ?_) (by rw [sz2]; exact sz)
    obtain ⟨l, hl⟩ := sl b o hb ho
    exact ⟨l, kp2 b _ (nT b o ho) hl⟩
end
theorem compLoop_anyE {prog : Program} {w : World} {A : Around} {R : Result → Shared → Prop} {s : Shared} {elt target iter : Expr} {ifs : List Expr} {scope : Scope} {pos : Pos} {it acc : Value} {env : Env} (Iv : Nat → Shared → Prop)
    (turn : ∀ n s, Iv n s → wpAny (model prog w) A (pyNext it) (fun r s₁ => (r = none ∧ R (.ok .next) s₁) ∨ ∃ v, r = some v ∧
        wpAny (model prog w) A (letOwnedTupleGo target it v) (fun _ t₁ => wpAny (model prog w) A (assign target env v) (fun _ s₂ =>
          wpAny (model prog w) A (forIn ifs true fun c r => if r = true then do let ok ← isTrue c env (eval c env); pure (ForInStep.yield ok) else pure (ForInStep.yield r)) (fun ok s₃ =>
            if ok = true then wpAny (model prog w) A (eval elt env) (fun x s₄ =>
              wpAny (model prog w) A (call (.builtin "list.append") [acc, x]) (fun _ s₅ => ∃ m, m < n ∧ Iv m s₅) (notedBy (model prog w) A env fun x t => R (.error x) t) s₄) (notedBy (model prog w) A env fun x t => R (.error x) t) s₃
            else ∃ m, m < n ∧ Iv m s₃) (notedBy (model prog w) A env fun x t => R (.error x) t) s₂) (notedBy (model prog w) A env fun x t => R (.error x) t) t₁) (notedBy (model prog w) A env fun x t => R (.error x) t) s₁) (notedBy (model prog w) A env fun x t => R (.error x) t) s)
    (n : Nat) (h : Iv n s) : codeAny (model prog w) A (.compLoop (.ListComp elt [⟨target, iter, ifs, 0⟩] scope pos) 0 it acc env) R s := by
  refine codeAny_loop rfl Iv (fun n s hI => ?_) n h
  show wpAny _ A ((compTurn (.ListComp elt [⟨target, iter, ifs, 0⟩] scope pos) 0 it acc env).onRaise (fun x => do noteFrame x env; theTreesLotGoes x)) _ _ s
  refine wpAny_noted ?_
  rw [compTurn_list]
  refine wpAny_bind (wpAny_standAt (wpAny_bind (wpAny_mono (turn n s hI) (fun r s₁ q1 => ?_) fun _ _ z => z)))
  rcases q1 with ⟨rfl, q⟩ | ⟨v, rfl, q⟩
  · exact wpAny_pure q
  · refine wpAny_bind (wpAny_mono q (fun _ t₁ q2 => ?_) fun _ _ z => z)
    refine wpAny_bind (wpAny_mono q2 (fun _ s₂ q3 => ?_) fun _ _ z => z)
    refine wpAny_bind (wpAny_mono q3 (fun ok s₃ q4 => ?_) fun _ _ z => z)
    cases ok with
    | false =>
      have q5 : ∃ m, m < n ∧ Iv m s₃ := q4
      exact wpAny_pure ⟨rfl, q5⟩
    | true =>
      refine wpAny_bind (wpAny_bind (wpAny_mono q4 (fun x s₄ q5 => ?_) fun _ _ z => z))
      exact wpAny_bind (wpAny_mono q5 (fun _ s₅ q6 => wpAny_pure (wpAny_pure ⟨rfl, q6⟩)) fun _ _ z => z)
theorem frames_keep {h h' base : Heap} : ∀ {l : List Env}, h.FunFrames base l → (∀ b ∈ frs l, ∀ o, h.get? b = some o → (∀ vs, o.data ≠ .fields vs) → ∃ o', h'.get? b = some o' ∧ o'.data = o.data) → h'.FunFrames base l
  | [], _, _ => trivial
  | env :: l, hl, k => by
    obtain ⟨hk, ⟨L, o, hf, hn, ho, hd⟩, hr⟩ := hl
    have hL : L ∈ frs (env :: l) := by
      unfold frs
      rw [List.filterMap_cons, hf]
      exact List.mem_cons_self
    obtain ⟨o', ho', hd'⟩ := k L hL o ho hd
    refine ⟨hk, ⟨L, o', hf, hn, ho', fun vs z => hd vs (hd' ▸ z)⟩, frames_keep hr fun b hb => k b ?_⟩
    unfold frs at hb ⊢
    rw [List.filterMap_cons, hf]
    exact List.mem_cons_of_mem _ hb
/-- how an exception lies in a comprehension's block -/
noncomputable def xeB (B : Cx) (E : XK) : Value → Shared → Prop := fun e s' => ∃ a T C H1 pins σ, e = .ref a ∧ L2.Inv B pins σ H1 s' ∧ Trc s'.heap a T C .none ∧ H1 a = none ∧ H1 T = none ∧ (a ∉ B.ex → B.s₀.heap.get? a = none) ∧ (T ∉ B.ex → B.s₀.heap.get? T = none) ∧ E C none H1
noncomputable def blkE (X : Cx) (scope : Scope) (xs : List Str) (cl : List (Str × Addr)) (C : Addr) (s₀ : Shared) (H₀ : Hp) (ex : List Addr) (E : XK) : Cx :=
  { blk X scope xs cl C s₀ H₀ ex with xe := xeB (blk X scope xs cl C s₀ H₀ ex) E }
section
variable {X : Cx} {scope : Scope} {xs : List Str} {cl : List (Str × Addr)} {C : Addr} {s₀ : Shared} {H₀ : Hp} {ex : List Addr} {Ex : XK} {pins : List (Addr × Obj)} {σ : St} {H : Hp} {s : Shared}
theorem toE (I : L2.Inv (blk X scope xs cl C s₀ H₀ ex) pins σ H s) : L2.Inv (blkE X scope xs cl C s₀ H₀ ex Ex) pins σ H s :=
  ⟨⟨I.ok.mod, I.ok.kind, I.ok.glob, I.ok.blt, I.ok.above, I.ok.inj, I.ok.has, I.ok.cab, I.ok.hd, I.ok.frames, I.ok.stk, I.ok.exf, I.ok.bs, I.ok.bsz, I.ok.noex, I.ok.exfs, I.ok.funs, I.ok.frf⟩, I.os, I.bare, I.base, I.loc, I.cell, I.free, I.freeC, I.pin, I.hok, I.len⟩
theorem ofE (I : L2.Inv (blkE X scope xs cl C s₀ H₀ ex Ex) pins σ H s) : L2.Inv (blk X scope xs cl C s₀ H₀ ex) pins σ H s :=
  ⟨⟨I.ok.mod, I.ok.kind, I.ok.glob, I.ok.blt, I.ok.above, I.ok.inj, I.ok.has, I.ok.cab, I.ok.hd, I.ok.frames, I.ok.stk, I.ok.exf, I.ok.bs, I.ok.bsz, I.ok.noex, I.ok.exfs, I.ok.funs, I.ok.frf⟩, I.os, I.bare, I.base, I.loc, I.cell, I.free, I.freeC, I.pin, I.hok, I.len⟩
/-- one that came from a callee, in a block -/
theorem passB : Passes (CX1 X.prog X.w) (blkE X scope xs cl C s₀ H₀ ex Ex) Ex := fun pins σ H1 s1 e s' I hc => by
  obtain ⟨a, T, Cl, H', rfl, os, bare, un, hok, na, nT, ha, hT, tr, hE⟩ := hc
  have I' : L2.Inv (blkE X scope xs cl C s₀ H₀ ex Ex) pins σ H' s' := I.call' (ch := []) os un hok bare fun b z => nomatch z
  have old : ∀ b, s1.heap.get? b = none → b ∉ ex → s₀.heap.get? b = none := fun b hb hx => by
    cases q : s₀.heap.get? b with
    | none => rfl
    | some o =>
      obtain ⟨o', e⟩ := I.base.there b o q hx
      rw [hb] at e
      cases e
  exact ⟨a, T, Cl, H', pins, σ, rfl, ofE I', tr, na, nT, old a ha, old T hT, hE⟩
end
section
variable {X : Cx} {elt tg iter : Expr} {ifs : List Expr} {scope : Scope} {xs : List Str} {pos : Pos} {g : TG} {tt : TT} {te : TE}
theorem comp_loopE {B : Cx} {σ : St} {n : Nat} {H : Hp} {s : Shared} {it D : Addr} {fp : List Addr} {tn : Nat → Heap → Prop} {J : It} {Q : VK} {R : Result → Shared → Prop}
    (hc : B.calm = true) (hx : ∀ e t, B.xe e t → notedBy (model B.prog B.w) B.A B.env (fun x t => R (.error x) t) e t) (hpn : B.pn = []) (hg : PG B tg g) (ht : PIf B ifs tt) (he : PE B elt te)
    (I : Inv B [] (σ ++ List.replicate n none) H s) (T : Turn B.prog B.w B.K tg J fp it tn) (st : tn 0 s.heap) (hf : ∀ b ∈ fp, FpOk B [] H b) (hfD : FpOk B [] H D) (hDf : ∀ b ∈ fp, D ≠ b)
    (hD : s.heap.get? D = some { cls := .type "list", data := .seq ([] : List Value).toArray 0 }) (W : Nat → Nat → List V → Hp → Prop) (w0 : ∃ m, W 0 m [] H) (hw : CompW n J g tt te σ Q W)
    (fin : ∀ s' H' ys its k, Inv B [] (σ ++ List.replicate n none) H' s' → H' D = none → s'.heap.get? D = some { cls := .type "list", data := .seq (List.toArray its) k } → Vals ys its → ys.length ≤ sizeLine →
      (∀ p, H' p = none → Q (.ref p) (upd H' p (.lst ys))) → R (.ok .next) s') :
    codeAny (model B.prog B.w) B.A (.compLoop (.ListComp elt [⟨tg, iter, ifs, 0⟩] scope pos) 0 (.ref it) (.ref D) B.env) R s := by
  obtain ⟨m0, w0⟩ := w0
  have no := hx
  refine compLoop_anyE (fun q s' => ∃ i H' ys its k, Inv B [] (σ ++ List.replicate n none) H' s' ∧ tn i s'.heap ∧ (∀ b ∈ fp, H' b = none) ∧ H' D = none ∧ s'.heap.get? D = some { cls := .type "list", data := .seq (List.toArray its) k } ∧ Vals ys its ∧ W i q ys H') ?_ m0
    ⟨0, H, [], [], 0, I, st, fun b hb => (hf b hb).1, hfD.1, hD, .nil, w0⟩
  rintro q s' ⟨i, H', ys, its, k, I', st', fr', hDn, hDo, rv, w'⟩
  have fD : ∀ {H2 : Hp}, H2 D = none → FpOk B [] H2 D := fun z => ⟨z, hfD.2⟩
  have Ip : Inv B [(D, { cls := .type "list", data := .seq (List.toArray its) k })] (σ ++ List.replicate n none) H' s' := I'.pins_of fun p hp => by
    obtain rfl := List.mem_singleton.mp hp
    exact ⟨hDo, hDn, hfD.2.1, hfD.2.2.1, fun v z => by cases z⟩
  have ff : ∀ {H2 : Hp}, (∀ b ∈ fp, H2 b = none) → ∀ b ∈ fp, FpOk B [(D, { cls := .type "list", data := .seq (List.toArray its) k })] H2 b := fun z b hb => by
    obtain ⟨_, f1, f2, f3, f4, _⟩ := hf b hb
    refine ⟨z b hb, f1, f2, f3, f4, fun p hp => ?_⟩
    rw [hpn] at hp
    obtain rfl := List.mem_singleton.mp hp
    exact hDf b hb
  rcases hw i q ys H' w' with ⟨stop, hz, qq⟩ | ⟨go, hz, N, hN, step⟩
  · refine wpAny_mono (T.done B rfl rfl rfl hc i _ s' _ H' (notedBy (model B.prog B.w) B.A B.env fun x t => R (.error x) t) Ip (ff fr') st' stop) (fun r s1 ⟨hr, I1⟩ => .inl ⟨hr, ?_⟩) fun _ _ z => z
    have pD := I1.pin _ (List.mem_append_right _ (List.mem_singleton.mpr rfl))
    exact fin s1 H' ys its k (I1.pins_of fun p hp => nomatch hp) hDn pD.1 rv hz qq
  · refine wpAny_mono (T.item B rfl rfl rfl hc i _ s' _ H' (notedBy (model B.prog B.w) B.A B.env fun x t => R (.error x) t) Ip (ff fr') st' go) (fun r s1 ⟨u, hr, h4⟩ => .inr ⟨u, hr, wpAny_mono h4 (fun _ s2 ⟨x, H2, I2, r2, y2, st2, fr2⟩ => ?_) fun _ _ z => z⟩) fun _ _ z => z
    have I2' := I2.pinned (ff fr2) (T.obj _ _ st2)
    refine wpAny_mono (hg _ s2 _ H2 x u _ I2' r2 (step x H2 y2)) (fun _ s3 ⟨σ3, H3, I3, tk3, q3⟩ => ?_) no
    refine wpAny_mono (ht _ s3 σ3 H3 _ I3 q3) (fun ok s4 ⟨H4, I4, q4⟩ => ?_) no
    have wk : ∀ {H9 : Hp} {s9 : Shared}, Inv B ([(D, { cls := .type "list", data := .seq (List.toArray its) k })] ++ pinsAt fp s2.heap) σ3 H9 s9 → Inv B [] (σ ++ List.replicate n none) H9 s9 := fun {H9 s9} I9 => by
      refine (I9.pins_of (pins' := []) fun p hp => nomatch hp).weak ?_ fun j v e => ?_
      · rw [I.len, I9.len]
      · have hj : j < σ.length := by
          by_cases hj : j < σ.length
          · exact hj
          · rw [List.getElem?_append_right (Nat.le_of_not_lt hj), List.getElem?_replicate] at e
            split at e <;> cases e
        rw [List.getElem?_append_left hj, ← tk3, List.getElem?_take_of_lt hj] at e
        exact e
    have pinD : ∀ {H9 : Hp} {s9 : Shared}, Inv B ([(D, { cls := .type "list", data := .seq (List.toArray its) k })] ++ pinsAt fp s2.heap) σ3 H9 s9 → s9.heap.get? D = some { cls := .type "list", data := .seq (List.toArray its) k } ∧ H9 D = none := fun I9 =>
      let z := I9.pin (D, _) (List.mem_append_right _ (List.mem_append_left _ (List.mem_singleton.mpr rfl)))
      ⟨z.1, z.2.1⟩
    have pinF : ∀ {H9 : Hp} {s9 : Shared}, Inv B ([(D, { cls := .type "list", data := .seq (List.toArray its) k })] ++ pinsAt fp s2.heap) σ3 H9 s9 → tn (i + 1) s9.heap ∧ ∀ b ∈ fp, H9 b = none := fun I9 =>
      ⟨T.keep _ _ _ st2 fun b hb o e => (I9.pin (b, o) (List.mem_append_right _ (List.mem_append_right _ (mem_pinsAt hb e)))).1, fun b hb => by
        obtain ⟨o, e, _⟩ := T.obj _ _ st2 b hb
        exact (I9.pin (b, o) (List.mem_append_right _ (List.mem_append_right _ (mem_pinsAt hb e)))).2.1⟩
    cases ok with
    | false =>
      obtain ⟨m', hm, w4⟩ := hN ys H4 (show N ys H4 from q4)
      exact ⟨m', hm, i + 1, H4, ys, its, k, wk I4, (pinF I4).1, (pinF I4).2, (pinD I4).2, (pinD I4).1, rv, w4⟩
    | true =>
      rw [if_pos rfl]
      refine wpAny_mono (he _ s4 σ3 H4 _ I4 q4) (fun v s5 ⟨y, H5, I5, r5, n5⟩ => ?_) no
      obtain ⟨m', hm, w5⟩ := hN _ H5 n5
      obtain ⟨e5, d5⟩ := pinD I5
      have hlen := rv.length
      refine call_meets F.slot_list_append ⟨_, e5, rfl⟩ F.entry_list_append (F.args_list_append_2 _ _) (PySem.list_append D its.toArray k v (by rw [List.size_toArray]; omega)) ⟨e5, ?_⟩
      have up := PySem.IsL.update e5 (·.push v)
      have up2 : ∃ k2, (s5.heap.update D (Obj.mapSeq (·.push v))).get? D = some { cls := .type "list", data := .seq (List.toArray (its ++ [v])) k2 } := by
        rw [show its.toArray.push v = List.toArray (its ++ [v]) by simp] at up
        exact ⟨_, up⟩
      obtain ⟨k2, up2⟩ := up2
      have oth : ∀ b o, b ≠ D → s5.heap.get? b = some o → (s5.heap.update D (Obj.mapSeq (·.push v))).get? b = some o := fun b o hb e => (Heap.get?_update_other s5.heap (Obj.mapSeq (·.push v)) (Ne.symm hb)).trans e
      obtain ⟨g0, g1, g2, g3, g4, g5⟩ := fD (H2 := H5) d5
      have I6 := (wk I5).turned (t' := s5.toks) oth g0 g1 g3 g4 g5
      refine ⟨m', hm, i + 1, H5, ys ++ [y], its ++ [v], k2, I6, ?_, (pinF I5).2, d5, up2, rv.append (.cons r5 .nil), w5⟩
      exact T.keep _ _ _ (pinF I5).1 fun b hb o e => oth b o (Ne.symm (hDf b hb)) e
theorem comp_blockE {pins : List (Addr × Obj)} {σ : St} {H : Hp} {s : Shared} {it : Addr} {fp : List Addr} {tn : Nat → Heap → Prop} {J : It} {Q : VK} {E : Value → Shared → Prop} {RR : Value → Addr → Result → Shared → Prop} {Ex : XK}
    (hc : X.calm = true) (K : CompOk scope xs X.env.scope X.N) (hg : ∀ cl C s₀ H₀ ex, PG (blkE X scope xs cl C s₀ H₀ ex Ex) tg g) (ht : ∀ cl C s₀ H₀ ex, PIf (blkE X scope xs cl C s₀ H₀ ex Ex) ifs tt) (he : ∀ cl C s₀ H₀ ex, PE (blkE X scope xs cl C s₀ H₀ ex Ex) elt te)
    (I : Inv X pins σ H s) (T : Turn X.prog X.w X.K tg J fp it tn) (st : tn 0 s.heap) (hf : ∀ b ∈ fp, FpOk X pins H b) (W : Nat → Nat → List V → Hp → Prop) (w0 : ∃ m, W 0 m [] H) (hw : CompW xs.length J g tt te σ Q W)
    (err : ∀ (D C : Addr) (e : Value) (t : Shared), s.heap.objs.size ≤ C → xeB (blk X scope xs (clFold X.env scope.names []) C s H fp) Ex e t → notedBy (model X.prog X.w) X.A (compEnvC scope (clFold X.env scope.names []) C X.env) (fun x t => RR (.ref D) C (.error x) t) e t)
    (fin : ∀ D C s' H' ys oC m, s'.heap.get? C = some oC → s'.heap.Ns C m → Inv X (pins ++ [(C, oC)]) σ (upd H' D (.lst ys)) s' → FpOk X pins (upd H' D (.lst ys)) C → Q (.ref D) (upd H' D (.lst ys)) → RR (.ref D) C (.ok .next) s') :
    wpAny (model X.prog X.w) X.A (newList []) (fun acc s₃ => wpAny (model X.prog X.w) X.A (newFunctionEnv scope X.env.globals (clFold X.env scope.names []) [] X.env.qual none .none (some X.env)) (fun cenv s₄ =>
      codeAny (model X.prog X.w) X.A (.compStart (.ListComp elt [⟨tg, iter, ifs, 0⟩] scope pos) 0 (.ref it) acc { cenv with scope := relabel scope X.env }) (RR acc cenv.locals) s₄) E s₃) E s := by
  have hfl : ∀ b ∈ fp, b < s.heap.objs.size := fun b hb => by
    obtain ⟨o, e, _⟩ := T.obj 0 _ st b hb
    exact Heap.lt_size e
  refine wpAny_newObj_type (wpAny_newFunctionEnv K.nocell (by intro y hy; simp at hy) (fun h₁ hns hsb => ?_) K.kind)
  dsimp only at hns hsb ⊢
  generalize hP : s.heap.push { cls := .type "list", dict := none, data := .seq ([] : List Value).toArray } = P at hns hsb ⊢
  have hCs : P.objs.size = s.heap.objs.size + 1 := by rw [← hP, Heap.size_push]
  have hDC : s.heap.objs.size ≠ P.objs.size := by rw [hCs]; exact Nat.ne_of_lt (Nat.lt_succ_self _)
  have hC : s.heap.objs.size ≤ P.objs.size := by rw [hCs]; exact Nat.le_succ _
  have keep : ∀ b o, s.heap.get? b = some o → h₁.get? b = some o := fun b o e => by
    refine hsb.extBut b o ?_ (Heap.get?_push_of_some _ (hP ▸ Heap.get?_push_of_some _ e))
    have := Heap.lt_size e
    exact Nat.ne_of_lt (Nat.lt_of_lt_of_le this hC)
  have hD : h₁.get? s.heap.objs.size = some { cls := .type "list", data := .seq ([] : List Value).toArray 0 } := hsb.extBut _ _ hDC (Heap.get?_push_of_some _ (hP ▸ Heap.get?_push_size _ rfl))
  have IB := toE (Ex := Ex) (blk_inv (scope := scope) (xs := xs) (tk := s.toks + ([] : List (Str × Value)).length) I K hC hf hfl keep hns)
  have fC : ∀ {H2 : Hp}, H2 P.objs.size = none → FpOk X pins H2 P.objs.size := fun z => I.fpOk hC z
  have look : ∀ x c, (clFold X.env scope.names []).lookup x = some c → X.env.cells.lookup x = some c := fun x c e => clFold_look scope.names [] (fun y hy hk => by
    obtain ⟨c, hc⟩ := I.ok.has y.1 (K.free y hy hk)
    rw [hc]; rfl) (fun y d z => by cases z) e
  have nstk : ∀ b, s.heap.objs.size ≤ b → b ∉ frs X.stack := fun b hb hm => by
    rcases List.mem_cons.mp (I.stkSub b hm) with z | z
    · exact absurd (Nat.lt_of_lt_of_le I.lt (z ▸ hb)) (Nat.lt_irrefl _)
    · exact I.nofs hb z
  have loop : codeAny (model X.prog X.w) X.A (.compLoop (.ListComp elt [⟨tg, iter, ifs, 0⟩] scope pos) 0 (.ref it) (.ref s.heap.objs.size) (compEnvC scope (clFold X.env scope.names []) P.objs.size X.env))
      (RR (.ref s.heap.objs.size) P.objs.size) { s with heap := h₁, toks := s.toks + ([] : List (Str × Value)).length } := by
    refine comp_loopE (B := blkE X scope xs (clFold X.env scope.names []) P.objs.size s H fp Ex) (D := s.heap.objs.size) hc (fun e t z => err _ _ e t hC z) rfl (hg _ _ _ _ _) (ht _ _ _ _ _) (he _ _ _ _ _) IB T (T.keep _ _ _ st fun b _ o e => keep b o e) (fun b hb => ?_) ?_ (fun b hb => Nat.ne_of_gt (hfl b hb)) hD W w0 hw ?_
    · refine ⟨(hf b hb).1, Nat.ne_of_lt (Nat.lt_of_lt_of_le (hfl b hb) hC), ?_, .inl hb, fun x c e => (hf b hb).2.2.2.2.1 x c (look x c e), fun p hp => absurd (show p ∈ ([] : List (Addr × Obj)) from hp) (by simp)⟩
      intro hm
      rcases List.mem_cons.mp (I.stkSub b hm) with z | z
      · exact (hf b hb).2.1 z
      · exact (hf b hb).2.2.1 z
    · refine ⟨I.hok.fresh (Nat.le_refl _), hDC, nstk _ (Nat.le_refl _), .inr (Nat.le_refl _), fun x c e z => ?_, fun p hp => absurd (show p ∈ ([] : List (Addr × Obj)) from hp) (by simp)⟩
      obtain ⟨v, q⟩ := I.cell x c (look x c e)
      exact absurd q.lt (by rw [z]; exact Nat.lt_irrefl _)
    · intro s' H' ys its k I' hDn hDo rv hz qq
      obtain ⟨m, hnC, _⟩ := id I'.loc
      obtain ⟨oC, es, ep, hoC, hdC, _⟩ := id hnC
      have u := I'.base
      have low : ∀ b o, s.heap.get? b = some o → b ≠ s.heap.objs.size := fun b o e => Nat.ne_of_lt (Heap.lt_size e)
      have lowH : ∀ b o, H b = some o → b ≠ s.heap.objs.size := fun b o e => ne_of_none e (I.hok.fresh (Nat.le_refl _))
      have u' : Un (frs X.stack) fp H (upd H' s.heap.objs.size (.lst ys)) s.heap s'.heap :=
        ⟨u.keep, u.slot, fun b o e n hx => by rw [upd_ne (low b o e)]; exact u.free b o e n hx, u.there, fun b ts e => by rw [upd_ne (lowH b _ e)]; exact u.tups b ts e,
          fun b o v e => by rw [upd_ne (lowH b _ e)]; exact u.frzs b o v e, fun b ps e => by rw [upd_ne (lowH b _ e)]; exact u.tbls b ps e⟩
      have hok' := HOk.adopt (o := .lst ys) I'.hok hDn ⟨hz, its, k, rv, hDo⟩
      have J1 : Inv X pins σ (upd H' s.heap.objs.size (.lst ys)) s' := I.call' (ch := fp) I'.os u' hok' I'.bare fun b hb => ⟨(hf b hb).2.2.2.1, (hf b hb).2.1, (hf b hb).2.2.2.2.1, (hf b hb).2.2.2.2.2⟩
      have hCn : upd H' s.heap.objs.size (.lst ys) P.objs.size = none := by rw [upd_ne (Ne.symm hDC)]; exact I'.free
      have fc := fC hCn
      refine fin _ _ s' H' ys oC m hoC hnC (J1.pins_of fun p hp => ?_) fc (qq _ hDn)
      rcases List.mem_append.mp hp with z | z
      · exact J1.pin p (List.mem_append_right _ z)
      · obtain rfl := List.mem_singleton.mp z
        exact ⟨hoC, hCn, fc.2.1, fc.2.2.1, fun v z => by rw [hdC] at z; cases z⟩
  exact codeAny_compStart_list loop (T.self _ 0 _ _ _ (T.keep _ _ _ st fun b _ o e => keep b o e) loop)
end
section
variable {P : Program} {w : World} {K : PySem.W.Frag} {mg : Str → Option Value} {base : Heap} {N : List Str} {qual : Str} {sc : Scope} {f : Addr} {cd : Value} {A : Around} {outer : List Env} {s0 : Shared} {H0 : Hp} {E : XK} {elt tg iter : Expr} {ifs : List Expr} {scope : Scope} {xs : List Str} {pos : Pos} {g : TG} {tt : TT} {te : TE}
/-- [elt for tg in iter if ..] in a def that may raise, elt may -/
theorem pe_compE {wi : TI} (Kc : CompOk scope xs sc N) (hi : PI (cx1 P w K mg base N qual sc f cd A outer s0 H0 E) tg iter wi) (hg : ∀ cl C s₀ H₀ ex, PG (blkE (cx1 P w K mg base N qual sc f cd A outer s0 H0 E) scope xs cl C s₀ H₀ ex E) tg g)
    (ht : ∀ cl C s₀ H₀ ex, PIf (blkE (cx1 P w K mg base N qual sc f cd A outer s0 H0 E) scope xs cl C s₀ H₀ ex E) ifs tt) (he : ∀ cl C s₀ H₀ ex, PE (blkE (cx1 P w K mg base N qual sc f cd A outer s0 H0 E) scope xs cl C s₀ H₀ ex E) elt te)
    (hs : ∀ x, foldedSetIterable iter (cx1 P w K mg base N qual sc f cd A outer s0 H0 E).env x = pure x := by intro _; rfl) : PE (cx1 P w K mg base N qual sc f cd A outer s0 H0 E) (.ListComp elt [⟨tg, iter, ifs, 0⟩] scope pos) (tComp xs.length wi g tt te) := by
  intro pins s σ H Q I h
  have hcl : ∀ y ∈ scope.names, y.2 = .free → ((cx1 P w K mg base N qual sc f cd A outer s0 H0 E).env.cells.lookup y.1).isSome = true := fun y hy hk => by
    obtain ⟨c, hc⟩ := I.ok.has y.1 (Kc.free y hy hk)
    rw [hc]; rfl
  rw [eval_ListComp]
  refine wpAny_comprehension_free (use := none) rfl hs (closure_eq hcl) Kc.kind Kc.loc (thn (hi pins s σ H _ I h) fun v s1 h1 => thn h1 fun itv s2 h2 => ?_)
  obtain ⟨it, fp, tn, J, H2, e, I2, T, st2, f2, W, w0, hw⟩ := h2
  subst e
  refine comp_blockE (X := cx1 P w K mg base N qual sc f cd A outer s0 H0 E) (Ex := E) (RR := fun acc C => compPost (model P w) (cx1 P w K mg base N qual sc f cd A outer s0 H0 E).A (cx1 P w K mg base N qual sc f cd A outer s0 H0 E).xe none (EP (cx1 P w K mg base N qual sc f cd A outer s0 H0 E) pins σ Q) acc C) rfl Kc hg ht he I2 T st2 f2 W w0 hw ?_ ?_
  · intro D C ev t hC hx
    obtain ⟨a, Tb, Cl, H1, pins', σ', rfl, I', tr, na, nT, ha, hT, hE⟩ := hx
    have J1 : L2.Inv (cx1 P w K mg base N qual sc f cd A outer s0 H0 E) pins σ H1 t := I2.call' (ch := fp) I'.os I'.base I'.hok I'.bare fun b hb => ⟨(f2 b hb).2.2.2.1, (f2 b hb).2.1, (f2 b hb).2.2.2.2.1, (f2 b hb).2.2.2.2.2⟩
    have old : ∀ b, (b ∉ fp → s2.heap.get? b = none) → (cx1 P w K mg base N qual sc f cd A outer s0 H0 E).s₀.heap.get? b = none := fun b hb => by
      cases q : (cx1 P w K mg base N qual sc f cd A outer s0 H0 E).s₀.heap.get? b with
      | none => rfl
      | some o =>
        have hfp : b ∉ fp := fun z => by
          rcases (f2 b z).2.2.2.1 with z2 | z2
          · exact nomatch z2
          · exact absurd (Nat.lt_of_lt_of_le (Heap.lt_size q) z2) (Nat.lt_irrefl _)
        obtain ⟨o', e'⟩ := I2.base.there b o q (fun z => nomatch z)
        rw [hb hfp] at e'
        cases e'
    have a0 := old a ha
    have T0 := old Tb hT
    have C0 : (cx1 P w K mg base N qual sc f cd A outer s0 H0 E).s₀.heap.get? C = none := Heap.get?_none_of_le (Nat.le_trans I2.sz hC)
    have Cfr : C ∉ frs (cx1 P w K mg base N qual sc f cd A outer s0 H0 E).stack := fun hm => by
      rcases List.mem_cons.mp (I2.stkSub C hm) with z | z
      · exact absurd (Nat.lt_of_lt_of_le I2.lt (z ▸ hC)) (Nat.lt_irrefl _)
      · exact I2.nofs hC z
    have HC : H1 C = none := I'.free
    obtain ⟨m, hns, _⟩ := I'.loc
    obtain ⟨oC, esC, epC, hoC, hdC, hrC⟩ := id hns
    obtain ⟨⟨oe, vs, a1, a2, a3, a4, a5⟩, ne, ⟨oT, ts, b1, b2, b3⟩⟩ := id tr
    have aC : C ≠ a := fun z => by
      rw [z] at hoC
      rw [show t.heap.get? a = some oC from hoC] at a1
      cases a1
      rw [hdC] at a4
      cases a4
    have TC : C ≠ Tb := fun z => by
      rw [z] at hoC
      rw [show t.heap.get? Tb = some oC from hoC] at b1
      cases b1
      rw [hdC] at b2
      cases b2
    have C2 : C ∉ [a, Tb] := fun z => by
      rcases List.mem_cons.mp z with z | z
      · exact aC z
      · exact TC (List.mem_singleton.mp z)
    show wpAny (model P w) (cx1 P w K mg base N qual sc f cd A outer s0 H0 E).A (noteFrame (.ref a) (cx1 P w K mg base N qual sc f cd A outer s0 H0 E).env) _ _ t
    refine note_fl (base := base) J1.ok.frames J1.stack rfl tr (by simp [rawInt]) fun h1 T1 n1 t1 kp1 sl1 sz1 => ?_
    obtain ⟨slC, hC1⟩ := sl1 C oC C2 hoC
    refine ⟨m, ⟨_, esC, epC, hC1, hdC, hrC⟩, fun h2 hsb cenv hcl => ?_⟩
    have T1C : T1 ≠ C := Nat.ne_of_gt (Nat.lt_of_lt_of_le (Heap.lt_size hoC) n1)
    obtain ⟨fl2, t2⟩ : ∃ fl2, Trc h2 a T1 Cl fl2 := by
      obtain ⟨⟨oe, vs, a1, a2, a3, a4, a5⟩, ne, ⟨oT, ts, b1, b2, b3⟩⟩ := id t1
      exact ⟨_, ⟨oe, vs, (hsb.2 a aC.symm).trans a1, a2, a3, a4, a5⟩, ne, ⟨oT, ts, (hsb.2 T1 T1C).trans b1, b2, b3⟩⟩
    unfold PySem.passOn
    obtain ⟨oe2, vs2, x1, x2, x3, x4, x5⟩ := id t2.obj
    refine wpAny_bind (wpAny_field x1 x4 x5 ?_)
    rw [if_neg (show ¬ ((Value.ref T1 == Value.none) = true) by simp)]
    refine wpAny_bind (flight_to (s := { t with heap := h2 }) t2 fun h3 t3 kp3 sz3 => wpAny_throw ?_)
    have toh3 : ∀ b o, b ∉ [a, Tb] → b ≠ C → t.heap.get? b = some o → ∃ sl, h3.get? b = some { o with slots := sl } := fun b o hb hbC ho => by
      obtain ⟨l, hl⟩ := sl1 b o hb ho
      exact ⟨l, kp3 b _ (Nat.ne_of_lt (Nat.lt_of_lt_of_le (Heap.lt_size ho) n1)) ((hsb.2 b hbC).trans hl)⟩
    have nfl : ∀ b o, t.heap.get? b = some o → (∀ vs, o.data ≠ .fields vs) → b ∉ [a, Tb] := fun b o ho nf z => by
      rcases List.mem_cons.mp z with z | z
      · rw [z, a1] at ho
        cases ho
        exact nf vs a4
      · rw [List.mem_singleton.mp z, b1] at ho
        cases ho
        exact nf ts b2
    have fr3 : h3.FunFrames base (cx1 P w K mg base N qual sc f cd A outer s0 H0 E).stack := frames_keep J1.stack fun b hb o ho nf => by
      obtain ⟨l, hl⟩ := toh3 b o (nfl b o ho nf) (fun z => Cfr (z ▸ hb)) ho
      exact ⟨_, hl, rfl⟩
    have sz13 : t.heap.objs.size ≤ h3.objs.size := by
      rw [sz3]
      exact Nat.le_trans sz1 (Nat.le_of_eq hsb.1.symm)
    refine leave_fl (base := base) (s := { t with heap := h3 }) J1.ok.frames fr3 rfl t3 fun h4 T4 hT4 t4 kp4 sl4 sz4 => ?_
    have n4 : t.heap.get? T4 = none := by
      rcases hT4 with z | z
      · rw [z]; exact Heap.get?_none_of_le n1
      · exact Heap.get?_none_of_le (Nat.le_trans sz13 z)
    have three : ∀ b, b ∉ [a, Tb, C] → b ∉ [a, Tb] ∧ b ≠ C := fun b hb => ⟨fun z => hb (by
      rcases List.mem_cons.mp z with z | z
      · exact z ▸ List.mem_cons_self
      · exact List.mem_singleton.mp z ▸ List.mem_cons_of_mem _ List.mem_cons_self), fun z => hb (z ▸ List.mem_cons_of_mem _ (List.mem_cons_of_mem _ List.mem_cons_self))⟩
    have nT1 : ∀ b o, t.heap.get? b = some o → b ∉ [a, Tb] → b ∉ [a, T1] := fun b o ho hb z => by
      rcases List.mem_cons.mp z with z | z
      · exact hb (z ▸ List.mem_cons_self)
      · exact absurd (List.mem_singleton.mp z) (Nat.ne_of_lt (Nat.lt_of_lt_of_le (Heap.lt_size ho) n1))
    have G : Gone (cx1 P w K mg base N qual sc f cd A outer s0 H0 E).stack a T4 Cl [a, Tb, C] t.heap h4 := by
      refine ⟨n4, t4, fun b o hb hf ho => ?_, fun b o hb ho => ?_, Nat.le_trans sz13 sz4⟩
      · obtain ⟨g1, g2⟩ := three b hb
        exact kp4 b o (nT1 b o ho g1) hf (kp3 b o (Nat.ne_of_lt (Nat.lt_of_lt_of_le (Heap.lt_size ho) n1)) ((hsb.2 b g2).trans (kp1 b o g1 hf ho)))
      · obtain ⟨g1, g2⟩ := three b hb
        obtain ⟨l, hl⟩ := toh3 b o g1 g2 ho
        obtain ⟨l', hl'⟩ := sl4 b _ (nT1 b o ho g1) hl
        exact ⟨l', hl'⟩
    have all3 : ∀ {p : Addr → Prop}, p a → p Tb → p C → ∀ b ∈ [a, Tb, C], p b := fun {p} h1 h2 h3 b hb => by
      rcases List.mem_cons.mp hb with rfl | hb
      · exact h1
      · rcases List.mem_cons.mp hb with rfl | hb
        · exact h2
        · rw [List.mem_singleton.mp hb]; exact h3
    exact ⟨a, T4, Cl, H1, rfl, J1.os, J1.bare, un_gone J1 rfl rfl rfl G (all3 a0 T0 C0), hok_gone J1.hok G (all3 na nT HC) J1.stkFree, na, Inv.free_none J1 n4, a0, Inv.old_none J1 rfl n4, t4, hE⟩
  · intro D C s' H' ys oC m hoC hnC J fc q
    refine ⟨m, hnC, fun h' hsb => ⟨.ref D, _, ?_, rfl, q⟩⟩
    exact (J.pins_of (pins' := pins) fun p hp => J.pin p (List.mem_append_right _ (List.mem_append_left _ hp))).turned (t' := s'.toks) (fun b o hb e => hsb.extBut b o hb e) fc.1 fc.2.1 fc.2.2.2.1 fc.2.2.2.2.1 fc.2.2.2.2.2
end
end KS
end
section
set_option maxRecDepth 100000
set_option maxHeartbeats 4000000
set_option linter.all false
namespace KS
open PySem PySem.Spec L2
open PyProof.Rows hiding St
section
variable {X : Cx} {k : Nat} {f Dc : Addr} {fd : FuncData} {ps : List Str} {sp : Sp} {x y n : Str} {p cpos epos np hpos pos : Pos} {e : Expr} {es : List Expr} {ta : TA} {b₀ : Stmt} {suite : List Stmt} {th : Addr → Obj → L2.TS} {i : Nat}
/-- try: t = f(..) except C as n: suite -/
noncomputable def tTryA (K : PySem.W.Frag) (sp : Sp) (ta : TA) (j : Nat) (Dc : Addr) (i : Nat) (th : Addr → Obj → L2.TS) : L2.TS := fun D σ H => ta σ H fun vs H1 => sp vs H1 (fun v H2 => D.nx (σ.set j (some v)) H2) fun C _ H2 =>
  ∃ Ca, C = .ref Ca ∧ PySem.W.exmOne K (.ref Ca) (.ref Dc) = some true ∧ ∀ a oe, H2 a = none → ExO oe Ca → th a oe { nx := fun σ' H' => D.nx (σ'.set i none) H', rt := D.rt } (σ.set i (some (.ref a))) H2
theorem ps_tryA {j : Nat} {t : Str} {tp : Pos} (hj : X.N[j]? = some t) (ht : Loc X.env.scope t) (hx : X.ex = []) (hs : X.stack = X.env :: X.outer) (hf : X.env.frame = some X.env.locals) (F : FnOk X.prog X.w X.K X.mg X.base (CX1 X.prog X.w) k f fd ps sp) (hr : Room k X.A) (hg : Gl X x) (hm : X.mg x = some (.ref f)) (hk : PySem.W.keepIn X.K (.ref f) = true) (hb : Binds X.K fd ps []) (ha : PA X.nox (e :: es) ta)
    (hgy : Gl X y) (hmy : X.mg y = some (.ref Dc)) (hN : X.N.Nodup) (hi : X.N[i]? = some n) (hl : X.env.kindOf n = some .local) (hh : ∀ a oe, PSs (hcx X a oe) (b₀ :: suite) (th a oe))
    (hdb : (x == ("__debug__" : Str)) = false := by decide) (hdy : (y == ("__debug__" : Str)) = false := by decide) (he : starEach (e :: es) X.env = (false, eval e X.env) :: starEach es X.env := by rfl) (hpl : (backTo cpos (starEach es X.env)).any (·.1) = false := by rfl)
    (hsw : swapsWith (.Call (.Name x p) (e :: es) [] cpos) (some (.Name t tp)) epos.line X.env = pure false := by rfl) (hft : X.fn t = true ∨ X.env.scope.names.lookup t = some .local := by first | exact .inl rfl | exact .inr rfl | assumption) :
    PS X (.Try [.Assign [.Name t tp] (.Call (.Name x p) (e :: es) [] cpos) epos] [.ExceptHandler (some (.Name y np)) (some n) (b₀ :: suite) hpos] [] [] pos) (tTryA X.K sp ta j Dc i th) := by
  intro pins s σ H D I h
  refine wpAny_Try_except (wpAny_execs_cons (wpAny_Assign_Name ?_ hsw))
  refine wpAny_Call_Name_kw (ld_glob I hg hm ?_ hdb)
  refine PySem.W.callWith_K (h₀ := X.base) I.ok.mod.kin hk (wpAny_mono (ha cpos pins s σ H _ (I.wish _) h) (fun us s1 ⟨vs, H1, I1', r, q⟩ => ?_) (fun _ _ z => z.elim)) he hpl
  have I1 := I1'.unwish
  refine ⟨I1.kIn, ?_⟩
  have hlen : us.length = ps.length := by rw [← r.length]; exact F.len _ _ _ _ q
  have hbb := hb s1 us I1.kIn (by rw [List.append_nil]; exact hlen)
  rw [List.append_nil] at hbb
  refine wpAny_call (codeAny_mono (F.run X.A X.stack s1 H1 ⟨us, []⟩ us vs _ _ hr I1.env0 hbb r q) fun rr s' hq => ?_)
  cases rr with
  | ok fl =>
    cases fl with
    | ret u =>
      obtain ⟨v, H2, I2, rv, q2⟩ := I1.after hq
      exact store_ok I2 hN hj ht rv (fun s2 I3 => wpAny_execs_nil (wpAny_execs_nil ⟨_, H2, I3, q2⟩)) hft
    | next => exact False.elim hq
    | brk => exact False.elim hq
    | cont => exact False.elim hq
  | error ee =>
    obtain ⟨a, T, C, H2, rfl, os, bare, un, hok, na, nT, ha0, hT0, tr, Ca, rfl, hm1, hE⟩ := hq
    have I2 : L2.Inv X pins σ H2 s' := I1.call' (ch := []) os un hok bare fun b z => nomatch z
    have two : ∀ {p : Addr → Prop}, p a → p T → ∀ b ∈ [a, T], p b := fun {p} h1 h2 b hb => by
      rcases List.mem_cons.mp hb with rfl | hb
      · exact h1
      · rw [List.mem_singleton.mp hb]; exact h2
    have oa := Inv.old_none I1 hx ha0
    have oT := Inv.old_none I1 hx hT0
    refine noted_on (base := X.base) (env := X.env) (outer := X.outer) (by rw [I2.ok.frames, hs]) (by rw [← hs]; exact I2.stack) hf tr fun h' T' g => ?_
    rw [← hs] at g
    have I3 : L2.Inv X pins σ H2 { s' with heap := h' } := by
      refine Inv.gone I2 hx hs hf g (two oa oT) (two na nT) (two ?_ ?_) fun p hp z => ?_
      · obtain ⟨⟨oe, vs, a1, _, _, a4, _⟩, _, _⟩ := tr
        exact ⟨oe, vs, a1, a4⟩
      · obtain ⟨_, _, ⟨oT, ts, b1, b2, _⟩⟩ := tr
        exact ⟨oT, ts, b1, b2⟩
      · have hp1 := (I1.pin p hp).1
        rcases List.mem_cons.mp z with z | z
        · rw [z, ha0] at hp1; cases hp1
        · rw [List.mem_singleton.mp z, hT0] at hp1; cases hp1
    obtain ⟨⟨oe, vs, a1, a2, a3, a4, a5⟩, ne, stn⟩ := id g.trc
    have xo : ExO oe Ca := ⟨a2, a3, vs, a4⟩
    have aL : a ≠ X.env.locals := fun z => by
      obtain ⟨m, ⟨o, es, ep, ho, hd, _⟩, _⟩ := I3.loc
      rw [← z] at ho
      rw [show h'.get? a = some o from ho] at a1
      cases a1
      rw [hd] at a4
      cases a4
    have aF : a ∉ X.fs := fun z => by
      obtain ⟨_, o, ho, nf⟩ := I3.funs.mem z
      rw [show h'.get? a = some o from ho] at a1
      cases a1
      exact nf vs a4
    have I4 : L2.Inv (hcx X a oe) pins σ H2 { s' with heap := h' } := Inv.into I3 a1 na aL aF fun v z => by rw [a4] at z; cases z
    refine wpAny_handleBy_cons (codeAny_handlers_test ?_) (by intro z; cases z)
    refine ld_glob (X := hcx X a oe) I4 hgy hmy ?_ hdy
    refine (PySem.W.exm_one (M := model X.prog X.w) I3.kIn (xo.inst a1).type hm1).here ?_
    show codeAny _ _ _ _ _
    refine codeAny_handlers_suite_as ?_
    refine flight0 g.trc fun h2 hk2 => ?_
    have I5 : L2.Inv (hcx X a oe) pins σ H2 { s' with heap := h2, toks := s'.toks } := by
      refine Inv.record (s := { s' with heap := h' }) (t' := s'.toks) I4 hx hk2 (Inv.old_none I2 hx g.new) (Inv.free_none I2 g.new) ?_ fun p hp z => ?_
      · obtain ⟨oT, ts, b1, b2, _⟩ := stn
        exact ⟨oT, ts, b1, b2⟩
      · rcases List.mem_append.mp hp with hp | hp
        · rcases List.mem_append.mp hp with hp | hp
          · have := (I2.pin p (List.mem_append_left _ hp)).1
            rw [z, g.new] at this
            cases this
          · rw [List.mem_singleton.mp hp] at z
            exact ne z.symm
        · have := (I2.pin p (List.mem_append_right _ hp)).1
          rw [z, g.new] at this
          cases this
    refine store_ok (X := hcx X a oe) (v := .ref a) I5 hN hi (.inl hl) rfl (fun s6 I6 => ?_) (.inr hl)
    refine wpAny_mono (hh a oe pins s6 _ H2 _ I6 (hE a oe na xo)) (fun fl s7 q7 => ?_) (fun _ _ z => z.elim)
    cases fl with
    | next =>
      obtain ⟨σ7, H7, I7, n7⟩ := q7
      exact Inv.name_gone (Inv.outof I3.ok I7) hN hi hl fun s8 I8 => ⟨_, H7, I8, n7⟩
    | ret u =>
      obtain ⟨v, σ7, H7, I7, r7, n7⟩ := q7
      exact Inv.name_gone (Inv.outof I3.ok I7) hN hi hl fun s8 I8 => ⟨v, _, H7, I8, r7, n7⟩
    | brk =>
      obtain ⟨σ7, H7, I7, n7⟩ := q7
      exact n7.elim
    | cont =>
      obtain ⟨σ7, H7, I7, n7⟩ := q7
      exact n7.elim
end
end KS
end
set_option Elab.async false
set_option maxRecDepth 100000
set_option maxHeartbeats 4000000
set_option linter.all false
namespace KS
open PySem PySem.Spec L2
open PyProof.Rows hiding St
noncomputable def top (i : Nat) : Stmt := PySem.Challenge.pw_keenscale_k13_texts_refused.main.body.getD i (.Pass ⟨0, 0, 0, 0⟩)
/-- Python's own names are free -/
structure Bl (mg : Str → Option Value) : Prop where
  len : mg "len" = none
  range : mg "range" = none
  list : mg "list" = none
  sorted : mg "sorted" = none
  set : mg "set" = none
  isinstance : mg "isinstance" = none
  int : mg "int" = none
  bool : mg "bool" = none
  tuple : mg "tuple" = none
  str : mg "str" = none
  max : mg "max" = none
  min : mg "min" = none
  zip : mg "zip" = none
  ValueError : mg "ValueError" = none
/-- a def of the text -/
structure Df (K : PySem.W.Frag) (mg : Str → Option Value) (x : Str) (st : Stmt) (f : Addr) (fd : FuncData) : Prop where
  F : Fun K x x st f fd
  m : mg x = some (.ref f)
noncomputable abbrev mkSc (names : List (Str × NameKind)) : Scope := { kind := .function, names := names, isGenerator := false, isCoroutine := false, more := [] }
theorem us1 {n : Nat} {us : List Value} (h : us.length = n + 1) : ∃ u r, us = u :: r ∧ r.length = n := by
  cases us with
  | nil => cases h
  | cons u r => exact ⟨u, r, rfl, Nat.succ.inj h⟩
theorem bd1 {K : PySem.W.Frag} {x : Str} {st : Stmt} {f : Addr} {fd : FuncData} {p0 : Str} (F : Fun K x x st f fd) (h : ∀ (kV doc pm : Value) (an : Option Addr) (cdv ct u0 : Value), bindArgs (PySem.W.fnOf x x (defArgs st) (defBody st) (defScope st) .none kV doc pm an cdv ct) ⟨[u0], []⟩ = pure [(p0, u0)]) : Binds K fd [p0] [] :=
  F.binds fun _ _ _ _ _ _ us hl => by
    obtain ⟨u0, r0, rfl, h0⟩ := us1 hl
    obtain rfl := List.eq_nil_of_length_eq_zero h0
    exact h _ _ _ _ _ _ _
theorem bd2 {K : PySem.W.Frag} {x : Str} {st : Stmt} {f : Addr} {fd : FuncData} {p0 p1 : Str} (F : Fun K x x st f fd) (h : ∀ (kV doc pm : Value) (an : Option Addr) (cdv ct u0 u1 : Value), bindArgs (PySem.W.fnOf x x (defArgs st) (defBody st) (defScope st) .none kV doc pm an cdv ct) ⟨[u0, u1], []⟩ = pure [(p0, u0), (p1, u1)]) : Binds K fd [p0, p1] [] :=
  F.binds fun _ _ _ _ _ _ us hl => by
    obtain ⟨u0, r0, rfl, h0⟩ := us1 hl
    obtain ⟨u1, r1, rfl, h1⟩ := us1 h0
    obtain rfl := List.eq_nil_of_length_eq_zero h1
    exact h _ _ _ _ _ _ _ _
theorem bd3 {K : PySem.W.Frag} {x : Str} {st : Stmt} {f : Addr} {fd : FuncData} {p0 p1 p2 : Str} (F : Fun K x x st f fd) (h : ∀ (kV doc pm : Value) (an : Option Addr) (cdv ct u0 u1 u2 : Value), bindArgs (PySem.W.fnOf x x (defArgs st) (defBody st) (defScope st) .none kV doc pm an cdv ct) ⟨[u0, u1, u2], []⟩ = pure [(p0, u0), (p1, u1), (p2, u2)]) : Binds K fd [p0, p1, p2] [] :=
  F.binds fun _ _ _ _ _ _ us hl => by
    obtain ⟨u0, r0, rfl, h0⟩ := us1 hl
    obtain ⟨u1, r1, rfl, h1⟩ := us1 h0
    obtain ⟨u2, r2, rfl, h2⟩ := us1 h1
    obtain rfl := List.eq_nil_of_length_eq_zero h2
    exact h _ _ _ _ _ _ _ _ _
theorem bd4 {K : PySem.W.Frag} {x : Str} {st : Stmt} {f : Addr} {fd : FuncData} {p0 p1 p2 p3 : Str} (F : Fun K x x st f fd) (h : ∀ (kV doc pm : Value) (an : Option Addr) (cdv ct u0 u1 u2 u3 : Value), bindArgs (PySem.W.fnOf x x (defArgs st) (defBody st) (defScope st) .none kV doc pm an cdv ct) ⟨[u0, u1, u2, u3], []⟩ = pure [(p0, u0), (p1, u1), (p2, u2), (p3, u3)]) : Binds K fd [p0, p1, p2, p3] [] :=
  F.binds fun _ _ _ _ _ _ us hl => by
    obtain ⟨u0, r0, rfl, h0⟩ := us1 hl
    obtain ⟨u1, r1, rfl, h1⟩ := us1 h0
    obtain ⟨u2, r2, rfl, h2⟩ := us1 h1
    obtain ⟨u3, r3, rfl, h3⟩ := us1 h2
    obtain rfl := List.eq_nil_of_length_eq_zero h3
    exact h _ _ _ _ _ _ _ _ _ _
theorem bd5 {K : PySem.W.Frag} {x : Str} {st : Stmt} {f : Addr} {fd : FuncData} {p0 p1 p2 p3 p4 : Str} (F : Fun K x x st f fd) (h : ∀ (kV doc pm : Value) (an : Option Addr) (cdv ct u0 u1 u2 u3 u4 : Value), bindArgs (PySem.W.fnOf x x (defArgs st) (defBody st) (defScope st) .none kV doc pm an cdv ct) ⟨[u0, u1, u2, u3, u4], []⟩ = pure [(p0, u0), (p1, u1), (p2, u2), (p3, u3), (p4, u4)]) : Binds K fd [p0, p1, p2, p3, p4] [] :=
  F.binds fun _ _ _ _ _ _ us hl => by
    obtain ⟨u0, r0, rfl, h0⟩ := us1 hl
    obtain ⟨u1, r1, rfl, h1⟩ := us1 h0
    obtain ⟨u2, r2, rfl, h2⟩ := us1 h1
    obtain ⟨u3, r3, rfl, h3⟩ := us1 h2
    obtain ⟨u4, r4, rfl, h4⟩ := us1 h3
    obtain rfl := List.eq_nil_of_length_eq_zero h4
    exact h _ _ _ _ _ _ _ _ _ _ _
/-- a def: where it stands, what it is -/
structure TxD (K : PySem.W.Frag) (mg : Str → Option Value) (x : Str) (st : Stmt) where
  a : Addr
  f : FuncData
  d : Df K mg x st a f
set_option genInjectivity false in
set_option genSizeOfSpec false in
/-- all defs of the text -/
structure Tx (K : PySem.W.Frag) (mg : Str → Option Value) where
  B : Bl mg
  t_MOST_THINGS : Tok
  v_MOST_THINGS : mg "MOST_THINGS" = some (.int 12 t_MOST_THINGS)
  t_MOST_SAYINGS : Tok
  v_MOST_SAYINGS : mg "MOST_SAYINGS" = some (.int 200 t_MOST_SAYINGS)
  c_KeenError : Addr
  mc_KeenError : mg "KeenError" = some (.ref c_KeenError)
  c_BadSay : Addr
  mc_BadSay : mg "BadSay" = some (.ref c_BadSay)
  c_NoSay : Addr
  mc_NoSay : mg "NoSay" = some (.ref c_NoSay)
  c_NoWidth : Addr
  mc_NoWidth : mg "NoWidth" = some (.ref c_NoWidth)
  c_BadLine : Addr
  mc_BadLine : mg "BadLine" = some (.ref c_BadLine)
  kx_BadLine : XCls K "ValueError" "ValueError.__new__" "ValueError.__init__" bmVE c_BadLine
  ki_BadLine : XIs K c_BadLine
  em_BadLine : PySem.W.exmOne K (.ref c_BadLine) (.ref c_KeenError) = some true
  kv_BadLine : PySem.W.kitOne K (.ref c_BadLine) (.type "ValueError") = some true
  kk_BadLine_BadSay : PySem.W.kitOne K (.ref c_BadLine) (.ref c_BadSay) = some false
  kk_BadLine_NoSay : PySem.W.kitOne K (.ref c_BadLine) (.ref c_NoSay) = some false
  kk_BadLine_NoWidth : PySem.W.kitOne K (.ref c_BadLine) (.ref c_NoWidth) = some false
  kk_BadLine_BadLine : PySem.W.kitOne K (.ref c_BadLine) (.ref c_BadLine) = some true
  x_number_in : TxD K mg "number_in" (top 9)
  x_saying_in : TxD K mg "saying_in" (top 10)
  x_read : TxD K mg "read" (top 11)
  x__law_cell_at : TxD K mg "_law_cell_at" (top 13)
  x__law_whole : TxD K mg "_law_whole" (top 14)
  x__law_sign_by : TxD K mg "_law_sign_by" (top 15)
  x__law_odd : TxD K mg "_law_odd" (top 16)
  x__law_number : TxD K mg "_law_number" (top 17)
  x__law_due : TxD K mg "_law_due" (top 18)
  x__law_told : TxD K mg "_law_told" (top 19)
  x__law_spoiled : TxD K mg "_law_spoiled" (top 20)
  x_law : TxD K mg "law" (top 21)
noncomputable abbrev Tx.a_number_in {K : PySem.W.Frag} {mg : Str → Option Value} (T : Tx K mg) : Addr := T.x_number_in.a
noncomputable abbrev Tx.f_number_in {K : PySem.W.Frag} {mg : Str → Option Value} (T : Tx K mg) : FuncData := T.x_number_in.f
theorem Tx.d_number_in {K : PySem.W.Frag} {mg : Str → Option Value} (T : Tx K mg) : Df K mg "number_in" (top 9) T.a_number_in T.f_number_in := T.x_number_in.d
noncomputable abbrev Tx.a_saying_in {K : PySem.W.Frag} {mg : Str → Option Value} (T : Tx K mg) : Addr := T.x_saying_in.a
noncomputable abbrev Tx.f_saying_in {K : PySem.W.Frag} {mg : Str → Option Value} (T : Tx K mg) : FuncData := T.x_saying_in.f
theorem Tx.d_saying_in {K : PySem.W.Frag} {mg : Str → Option Value} (T : Tx K mg) : Df K mg "saying_in" (top 10) T.a_saying_in T.f_saying_in := T.x_saying_in.d
noncomputable abbrev Tx.a_read {K : PySem.W.Frag} {mg : Str → Option Value} (T : Tx K mg) : Addr := T.x_read.a
noncomputable abbrev Tx.f_read {K : PySem.W.Frag} {mg : Str → Option Value} (T : Tx K mg) : FuncData := T.x_read.f
theorem Tx.d_read {K : PySem.W.Frag} {mg : Str → Option Value} (T : Tx K mg) : Df K mg "read" (top 11) T.a_read T.f_read := T.x_read.d
noncomputable abbrev Tx.a__law_cell_at {K : PySem.W.Frag} {mg : Str → Option Value} (T : Tx K mg) : Addr := T.x__law_cell_at.a
noncomputable abbrev Tx.f__law_cell_at {K : PySem.W.Frag} {mg : Str → Option Value} (T : Tx K mg) : FuncData := T.x__law_cell_at.f
theorem Tx.d__law_cell_at {K : PySem.W.Frag} {mg : Str → Option Value} (T : Tx K mg) : Df K mg "_law_cell_at" (top 13) T.a__law_cell_at T.f__law_cell_at := T.x__law_cell_at.d
noncomputable abbrev Tx.a__law_whole {K : PySem.W.Frag} {mg : Str → Option Value} (T : Tx K mg) : Addr := T.x__law_whole.a
noncomputable abbrev Tx.f__law_whole {K : PySem.W.Frag} {mg : Str → Option Value} (T : Tx K mg) : FuncData := T.x__law_whole.f
theorem Tx.d__law_whole {K : PySem.W.Frag} {mg : Str → Option Value} (T : Tx K mg) : Df K mg "_law_whole" (top 14) T.a__law_whole T.f__law_whole := T.x__law_whole.d
noncomputable abbrev Tx.a__law_sign_by {K : PySem.W.Frag} {mg : Str → Option Value} (T : Tx K mg) : Addr := T.x__law_sign_by.a
noncomputable abbrev Tx.f__law_sign_by {K : PySem.W.Frag} {mg : Str → Option Value} (T : Tx K mg) : FuncData := T.x__law_sign_by.f
theorem Tx.d__law_sign_by {K : PySem.W.Frag} {mg : Str → Option Value} (T : Tx K mg) : Df K mg "_law_sign_by" (top 15) T.a__law_sign_by T.f__law_sign_by := T.x__law_sign_by.d
noncomputable abbrev Tx.a__law_odd {K : PySem.W.Frag} {mg : Str → Option Value} (T : Tx K mg) : Addr := T.x__law_odd.a
noncomputable abbrev Tx.f__law_odd {K : PySem.W.Frag} {mg : Str → Option Value} (T : Tx K mg) : FuncData := T.x__law_odd.f
theorem Tx.d__law_odd {K : PySem.W.Frag} {mg : Str → Option Value} (T : Tx K mg) : Df K mg "_law_odd" (top 16) T.a__law_odd T.f__law_odd := T.x__law_odd.d
noncomputable abbrev Tx.a__law_number {K : PySem.W.Frag} {mg : Str → Option Value} (T : Tx K mg) : Addr := T.x__law_number.a
noncomputable abbrev Tx.f__law_number {K : PySem.W.Frag} {mg : Str → Option Value} (T : Tx K mg) : FuncData := T.x__law_number.f
theorem Tx.d__law_number {K : PySem.W.Frag} {mg : Str → Option Value} (T : Tx K mg) : Df K mg "_law_number" (top 17) T.a__law_number T.f__law_number := T.x__law_number.d
noncomputable abbrev Tx.a__law_due {K : PySem.W.Frag} {mg : Str → Option Value} (T : Tx K mg) : Addr := T.x__law_due.a
noncomputable abbrev Tx.f__law_due {K : PySem.W.Frag} {mg : Str → Option Value} (T : Tx K mg) : FuncData := T.x__law_due.f
theorem Tx.d__law_due {K : PySem.W.Frag} {mg : Str → Option Value} (T : Tx K mg) : Df K mg "_law_due" (top 18) T.a__law_due T.f__law_due := T.x__law_due.d
noncomputable abbrev Tx.a__law_told {K : PySem.W.Frag} {mg : Str → Option Value} (T : Tx K mg) : Addr := T.x__law_told.a
noncomputable abbrev Tx.f__law_told {K : PySem.W.Frag} {mg : Str → Option Value} (T : Tx K mg) : FuncData := T.x__law_told.f
theorem Tx.d__law_told {K : PySem.W.Frag} {mg : Str → Option Value} (T : Tx K mg) : Df K mg "_law_told" (top 19) T.a__law_told T.f__law_told := T.x__law_told.d
noncomputable abbrev Tx.a__law_spoiled {K : PySem.W.Frag} {mg : Str → Option Value} (T : Tx K mg) : Addr := T.x__law_spoiled.a
noncomputable abbrev Tx.f__law_spoiled {K : PySem.W.Frag} {mg : Str → Option Value} (T : Tx K mg) : FuncData := T.x__law_spoiled.f
theorem Tx.d__law_spoiled {K : PySem.W.Frag} {mg : Str → Option Value} (T : Tx K mg) : Df K mg "_law_spoiled" (top 20) T.a__law_spoiled T.f__law_spoiled := T.x__law_spoiled.d
noncomputable abbrev Tx.a_law {K : PySem.W.Frag} {mg : Str → Option Value} (T : Tx K mg) : Addr := T.x_law.a
noncomputable abbrev Tx.f_law {K : PySem.W.Frag} {mg : Str → Option Value} (T : Tx K mg) : FuncData := T.x_law.f
theorem Tx.d_law {K : PySem.W.Frag} {mg : Str → Option Value} (T : Tx K mg) : Df K mg "law" (top 21) T.a_law T.f_law := T.x_law.d
section
variable {P : Program} {w : World} {K : PySem.W.Frag} {mg : Str → Option Value} {base : Heap}
noncomputable def cell (ns : List Int) (k : Int) : Int := ns.getD k.toNat 0
noncomputable def spCell (K : PySem.W.Frag) : Sp := fun vs H Q _ => ∃ (a : Addr) (ns : List Int) (k : Int), vs = [.ref a, .int k] ∧ SqL K H a (ns.map V.int) ∧ 0 ≤ k ∧ Q (.int (cell ns k)) H
noncomputable abbrev sCell : Stmt := (top 13)
noncomputable abbrev nCell : List Str := ["script", "k"]
noncomputable abbrev pCell : List Str := ["script", "k"]
theorem scCell : FnScope nCell pCell (defScope sCell) := ⟨rfl, rfl, rfl, by decide +kernel, rfl, by decide +kernel, by decide +kernel⟩
theorem ok_cell {f : Addr} {fd : FuncData} (D : Df K mg "_law_cell_at" sCell f fd) (B : Bl mg) : FnOk P w K mg base CX0 1 f fd ["script", "k"] (spCell K) := by
  refine D.F.ok scCell (fun vs H Q E h => ?_) (fun cdv A outer s H vs Q E hr h => ?_)
  · obtain ⟨a, ns, k, rfl, _⟩ := h
    rfl
  · obtain ⟨a, ns, k, rfl, hS, h0, q⟩ := h
    refine ⟨_, pss_cons (ps_if (pt_cmpR op_lt (pv 1) (pe_callB (lenS (K := K) rfl) (by rfl) B.len PySem.boot_len (pa_cons (pv 0) pa_nil)) (nomark _)) (pss_one (ps_ret (pe_ix (ixL (K := K) rfl) (pv 0) (pv 1) (fun _ _ => rfl)))) pss_nil)
      (pss_one (ps_ret pe_int)), ?_⟩
    refine ⟨_, rfl, _, rfl, a, _, rfl, .inl hS, _, _, rfl, rfl, _, rfl, ?_⟩
    rw [List.length_map]
    refine ite2 (fun h => ?_) (fun h => ?_)
    · have h' : k < (ns.length : Int) := of_decide_eq_true h
      have e1 : ns[k.toNat]? = some (cell ns k) := by
        have hl : k.toNat < ns.length := by omega
        unfold cell
        simp [hl]
      have e2 : atI (ns.map V.int) k = some (.int (cell ns k)) := by
        have := atI_nat (xs := ns.map V.int) (j := k.toNat) (v := .int (cell ns k)) (by rw [List.getElem?_map, e1]; rfl)
        rw [Int.toNat_of_nonneg h0] at this
        exact this
      exact ⟨_, rfl, _, rfl, a, _, _, _, rfl, rfl, hS, e2, q⟩
    · have h' : ¬ k < (ns.length : Int) := fun z => h (decide_eq_true z)
      have e1 : cell ns k = 0 := by
        unfold cell
        have hl : ns.length ≤ k.toNat := by omega
        simp [hl]
      rw [e1] at q
      exact q
end
noncomputable def Pr (H : Hp) (r : Addr) (p : Int × Int) : Prop := H r = some (.tup [.int p.1, .int p.2])
/-- at l stands a list of these pairs -/
noncomputable def Prs (K : PySem.W.Frag) (H : Hp) (l : Addr) (ps : List (Int × Int)) : Prop := ∃ rs : List Addr, SqL K H l (rs.map V.ref) ∧ Paired (Pr H) rs ps
theorem Prs.same {K : PySem.W.Frag} {H H' : Hp} {l : Addr} {ps : List (Int × Int)} (h : Prs K H l ps) (s : Same H H') : Prs K H' l ps := by
  obtain ⟨rs, h1, h2⟩ := h
  exact ⟨rs, s.seq h1, Paired.mapP h2 fun a b q => s _ _ q⟩
theorem Paired.at {α β : Type} {F : α → β → Prop} : ∀ {l₁ : List α} {l₂ : List β} {i : Nat} {a : α}, Paired F l₁ l₂ → l₁[i]? = some a → ∃ b, l₂[i]? = some b ∧ F a b
  | _, _, _, _, .nil, e => by simp at e
  | _, _, 0, _, .cons r _, e => by simp at e; subst e; exact ⟨_, rfl, r⟩
  | _, _, i + 1, a, .cons _ t, e => by
    obtain ⟨b, h1, h2⟩ := Paired.at (i := i) (a := a) t (by simpa using e)
    exact ⟨b, by simpa using h1, h2⟩
theorem refs_at {rs : List Addr} {i : Nat} {y : V} (h : (rs.map V.ref)[i]? = some y) : ∃ r, rs[i]? = some r ∧ y = .ref r := by
  rw [List.getElem?_map] at h
  cases e : rs[i]? with
  | none => rw [e] at h; cases h
  | some r => rw [e] at h; exact ⟨r, rfl, (Option.some.inj h).symm⟩
theorem _root_.L2.Same.put {H H' : Hp} {p : Addr} {o : HO} (s : Same H H') (h : H p = none) : Same H (upd H' p o) := fun b u e => by
  rw [upd_ne (ne_of_none e h)]
  exact s b u e
theorem _root_.L2.Same.new {H : Hp} {p : Addr} {o : HO} (h : H p = none) : Same H (upd H p o) := Same.put (Same.refl H) h
/-- things: all of them below n -/
noncomputable def In (n : Nat) (ps : List (Int × Int)) : Prop := ∀ p ∈ ps, (0 ≤ p.1 ∧ p.1 < n) ∧ 0 ≤ p.2 ∧ p.2 < n
/-- who is better than whom, by these pairs -/
noncomputable def better (ps : List (Int × Int)) (i j : Nat) : Bool := decide (((i : Int), (j : Int)) ∈ ps)
noncomputable def Iv (xs : List Nat) : List V := xs.map fun x : Nat => V.int (x : Int)
theorem iv_at {xs : List Nat} {i : Nat} {y : V} (h : (Iv xs)[i]? = some y) : ∃ x, xs[i]? = some x ∧ y = .int (x : Int) := by
  unfold Iv at h
  rw [List.getElem?_map] at h
  cases e : xs[i]? with
  | none => rw [e] at h; cases h
  | some r => rw [e] at h; exact ⟨r, rfl, (Option.some.inj h).symm⟩
theorem iv_len (xs : List Nat) : (Iv xs).length = xs.length := by unfold Iv; rw [List.length_map]
theorem iv_app (xs ys : List Nat) : Iv (xs ++ ys) = Iv xs ++ Iv ys := by unfold Iv; rw [List.map_append]
theorem iv_ints (xs : List Nat) : Iv xs = (xs.map fun x : Nat => (x : Int)).map V.int := by unfold Iv; rw [List.map_map]; rfl
theorem iv_flat (xs : List Nat) : (Iv xs).all flatV = true := by unfold Iv; simp [flatV]
theorem iv_in (x : Nat) (xs : List Nat) : inV (.int x) (Iv xs) = decide (x ∈ xs) := by
  unfold inV Iv
  rw [List.any_map, Bool.eq_iff_iff]
  simp only [List.any_eq_true, Function.comp_apply, eqV, beq_iff_eq, decide_eq_true_eq]
  constructor
  · rintro ⟨y, h, e⟩
    have : y = x := by omega
    exact this ▸ h
  · exact fun h => ⟨x, h, rfl⟩
theorem filter_succ {xs : List Nat} {i x : Nat} {p : Nat → Bool} (h : xs[i]? = some x) : (xs.take (i + 1)).filter p = (xs.take i).filter p ++ (if p x = true then [x] else []) := by
  rw [List.take_add_one, h, List.filter_append]
  simp only [Option.toList_some]
  cases e : p x <;> simp [e]
theorem drop_cut (xs : List V) (i : Nat) (hi : i ≤ xs.length) : cutV xs (some (i : Int)) none = xs.drop i := by
  unfold cutV
  rw [HT.sIx_nat, HT.sIx_none, Nat.min_eq_left hi]
  rw [List.take_of_length_le (by rw [List.length_drop]; exact Nat.le_refl _)]
/-- the tuples of a heap, as ints -/
noncomputable def kfH (H : Hp) (r : Addr) : List Int := match H r with
  | some (.tup [.int a, .int b]) => [a, b]
  | _ => []
theorem kfH_of {H : Hp} {r : Addr} {p : Int × Int} (h : Pr H r p) : kfH H r = [p.1, p.2] := by
  have h' : H r = some (.tup [.int p.1, .int p.2]) := h
  unfold kfH
  rw [h']
theorem tups_of {H : Hp} : ∀ {rs : List Addr} {ps : List (Int × Int)}, Paired (Pr H) rs ps → Tups H (kfH H) rs ∧ rs.map (kfH H) = ps.map fun p => [p.1, p.2]
  | [], _, .nil => ⟨fun r hr => (nomatch hr), rfl⟩
  | r :: rs, _, .cons (b := p) h t => by
    obtain ⟨t1, t2⟩ := tups_of t
    refine ⟨fun a ha => ?_, by rw [List.map_cons, List.map_cons, t2, kfH_of h]⟩
    rcases List.mem_cons.mp ha with rfl | ha
    · rw [kfH_of h]; exact h
    · exact t1 a ha
theorem mem_pairs {ps : List (Int × Int)} {a b : Int} : [a, b] ∈ ps.map (fun p => [p.1, p.2]) ↔ (a, b) ∈ ps := by
  rw [List.mem_map]
  constructor
  · rintro ⟨⟨x, y⟩, h, e⟩
    simp only [List.cons.injEq, and_true] at e
    rw [← e.1, ← e.2]; exact h
  · exact fun h => ⟨_, h, rfl⟩
theorem nodup_cast : ∀ {c : List Nat}, c.Nodup → (c.map fun x : Nat => (x : Int)).Nodup
  | [], _ => List.nodup_nil
  | a :: c, h => by
    obtain ⟨h1, h2⟩ := List.nodup_cons.mp h
    rw [List.map_cons]
    refine List.nodup_cons.mpr ⟨fun z => ?_, nodup_cast h2⟩
    obtain ⟨b, hb, e⟩ := List.mem_map.mp z
    exact h1 (by rw [show a = b by omega]; exact hb)
theorem for_range0 {n : Nat} {g : TG} {tb : L2.TS} {D : Ends} {σ : St} {H : Hp} (Pv : Nat → St → Hp → Prop) (h0 : Pv 0 σ H)
    (hs : ∀ i σ H, i < n → Pv i σ H → g (.int i) σ H fun σ2 H2 => tb { D with nx := Pv (i + 1), ct := Pv (i + 1), bk := D.nx } σ2 H2) (hd : ∀ σ H, Pv n σ H → D.nx σ H) :
    ∃ W : Nat → Nat → St → Hp → Prop, (∃ m, W 0 m σ H) ∧ ∀ i m σ H, W i m σ H →
      ((Itr 0 n).stop i H ∧ D.nx σ H) ∨ ((Itr 0 n).go i H ∧ ∃ N : St → Hp → Prop, (∀ σ' H', N σ' H' → ∃ m', m' < m ∧ W (i + 1) m' σ' H') ∧ ∀ x H', (Itr 0 n).yld i H x H' → g x σ H' fun σ2 H2 => tb { D with nx := N, ct := N, bk := D.nx } σ2 H2) :=
  for_range (lo := 0) Pv h0 (fun i σ H hi h => by rw [Int.zero_add]; exact hs i σ H hi h) hd
theorem comp_range0 {n k : Nat} {g : TG} {tt : TT} {te : TE} {σ : St} {Q : VK} {H : Hp} (Pv : Nat → List V → Hp → Prop) (h0 : Pv 0 [] H) (hn : n < sizeLine) (hl : ∀ i ys H, Pv i ys H → ys.length ≤ i)
    (hs : ∀ i ys H, i < n → Pv i ys H → g (.int i) (σ ++ List.replicate k none) H fun σ2 H2 => σ2.take σ.length = σ ∧ tt σ2 H2 fun c H3 => if c = true then te σ2 H3 fun v H4 => Pv (i + 1) (ys ++ [v]) H4 else Pv (i + 1) ys H3)
    (hd : ∀ ys H p, Pv n ys H → H p = none → Q (.ref p) (upd H p (.lst ys))) : ∃ W : Nat → Nat → List V → Hp → Prop, (∃ m, W 0 m [] H) ∧ CompW k (Itr 0 n) g tt te σ Q W :=
  comp_range (lo := 0) Pv h0 hn hl (fun i ys H hi h => by rw [Int.zero_add]; exact hs i ys H hi h) hd
/-- (x, y) in pairs, the tuple just made -/
theorem inP {K : PySem.W.Frag} {H : Hp} {pl p : Addr} {ps : List (Int × Int)} (hP : Prs K H pl ps) {x y : Int} (hp : H p = none) {neg : Bool} {Q : VK} (q : Q (.bl (if neg then !decide ((x, y) ∈ ps) else decide ((x, y) ∈ ps))) (upd H p (.tup [.int x, .int y]))) :
    rInT K neg (.ref p) (.ref pl) (upd H p (.tup [.int x, .int y])) Q := by
  obtain ⟨rs, hS, hPr⟩ := hP
  have s := Same.new (o := .tup [.int x, .int y]) hp
  have hP3 : Paired (Pr (upd H p (.tup [.int x, .int y]))) rs ps := Paired.mapP hPr fun a b z => s _ _ z
  obtain ⟨t1, t2⟩ := tups_of hP3
  have hk : kfH (upd H p (.tup [.int x, .int y])) p = [x, y] := kfH_of (p := (x, y)) upd_same
  refine ⟨p, pl, rs, kfH (upd H p (.tup [.int x, .int y])), rfl, rfl, s.seq hS, t1, by rw [hk]; exact upd_same, ?_⟩
  rw [t2, hk]
  have e : decide ([x, y] ∈ ps.map fun p => [p.1, p.2]) = decide ((x, y) ∈ ps) := by
    rw [Bool.eq_iff_iff, decide_eq_true_eq, decide_eq_true_eq]
    exact mem_pairs
  rw [e]
  exact q
theorem better_mem {ps : List (Int × Int)} {x y : Nat} : decide (((x : Int), (y : Int)) ∈ ps) = better ps x y := rfl
/-- the pairs as things -/
theorem In.nat {n : Nat} {ps : List (Int × Int)} (h : In n ps) {p : Int × Int} (hp : p ∈ ps) : ∃ x y : Nat, x < n ∧ y < n ∧ p = ((x : Int), (y : Int)) := by
  obtain ⟨⟨h1, h2⟩, h3, h4⟩ := h p hp
  refine ⟨p.1.toNat, p.2.toNat, by omega, by omega, ?_⟩
  rw [Int.toNat_of_nonneg h1, Int.toNat_of_nonneg h3]
theorem mem_take1 {α : Type} {xs : List α} {i : Nat} {x y : α} (h : xs[i]? = some x) (hy : y ∈ xs.take (i + 1)) : y ∈ xs.take i ∨ y = x := by
  rw [List.take_add_one, h] at hy
  simpa using hy
theorem two0 {a b : V} : atI [a, b] 0 = some a := atI_nat (j := 0) rfl
theorem two1 {a b : V} : atI [a, b] 1 = some b := atI_nat (j := 1) rfl
theorem three0 {a b c : V} : atI [a, b, c] 0 = some a := atI_nat (j := 0) rfl
theorem three1 {a b c : V} : atI [a, b, c] 1 = some b := atI_nat (j := 1) rfl
theorem three2 {a b c : V} : atI [a, b, c] 2 = some c := atI_nat (j := 2) rfl
theorem iteNN {c A B : Prop} [Decidable c] (hc : ¬ c) (h : A) : if (!decide c) = true then A else B := by
  rw [decide_eq_false hc]
  exact h
section
variable {P : Program} {w : World} {K : PySem.W.Frag} {mg : Str → Option Value} {base : Heap}
noncomputable def spWhole (_ : PySem.W.Frag) : Sp := fun vs H Q _ => ∃ i : Int, vs = [.int i] ∧ Q (.bl true) H
noncomputable abbrev sWhole : Stmt := (top 14)
noncomputable abbrev nWhole : List Str := ["found"]
noncomputable abbrev pWhole : List Str := ["found"]
theorem scWhole : FnScope nWhole pWhole (defScope sWhole) := ⟨rfl, rfl, rfl, by decide +kernel, rfl, by decide +kernel, by decide +kernel⟩
theorem ok_whole {f : Addr} {fd : FuncData} (D : Df K mg "_law_whole" sWhole f fd) (B : Bl mg) : FnOk P w K mg base CX0 1 f fd ["found"] (spWhole K) := by
  refine D.F.ok scWhole (fun vs H Q E h => ?_) (fun cdv A outer s H vs Q E hr h => ?_)
  · obtain ⟨a, rfl, _⟩ := h
    rfl
  · obtain ⟨i, rfl, q⟩ := h
    refine ⟨_, pss_one (ps_ret (pe_and (pe_callB (isinS (K := K) rfl) (by rfl) B.isinstance boot_isinstance (pa_cons (pv 0) (pa_cons (pe_bltn (v := .ty "int") (by rfl) B.int PyProof.Rows.boot_int rfl) pa_nil)))
      (pe_one (pe_not (pe_callB (isinS (K := K) rfl) (by rfl) B.isinstance boot_isinstance (pa_cons (pv 0) (pa_cons (pe_bltn (v := .ty "bool") (by rfl) B.bool PyProof.Rows.boot_bool rfl) pa_nil))))))), ?_⟩
    exact ⟨_, rfl, _, _, _, _, rfl, .int _, kit1 K, _, rfl, _, rfl, _, _, _, _, rfl, .int _, kit2 K, _, rfl, q⟩
end
theorem map_snoc {α : Type} (f : Nat → α) (i : Nat) : (List.range (i + 1)).map f = (List.range i).map f ++ [f i] := by
  rw [List.range_succ, List.map_append]
  rfl
theorem paired_app {α β : Type} {F : α → β → Prop} : ∀ {l₁ : List α} {l₂ : List β} {m₁ : List α} {m₂ : List β}, Paired F l₁ l₂ → Paired F m₁ m₂ → Paired F (l₁ ++ m₁) (l₂ ++ m₂) := by
  intro l₁ l₂ m₁ m₂ h1 h
  induction h1 with
  | nil => exact h
  | cons r _ ih => exact .cons r ih
/-- an own list of pairs -/
noncomputable def PrsO (H : Hp) (l : Addr) (ps : List (Int × Int)) : Prop := ∃ rs : List Addr, H l = some (.lst (rs.map V.ref)) ∧ Paired (Pr H) rs ps
theorem PrsO.prs {K : PySem.W.Frag} {H : Hp} {l : Addr} {ps : List (Int × Int)} (h : PrsO H l ps) : Prs K H l ps := by
  obtain ⟨rs, h1, h2⟩ := h
  exact ⟨rs, SqL.of h1, h2⟩
theorem PrsO.same {H H' : Hp} {l : Addr} {ps : List (Int × Int)} (h : PrsO H l ps) (s : Same H H') : PrsO H' l ps := by
  obtain ⟨rs, h1, h2⟩ := h
  exact ⟨rs, s _ _ h1, Paired.mapP h2 fun a b q => s _ _ q⟩
theorem prs_same {H H' : Hp} {rs : List Addr} {ps : List (Int × Int)} (h : Paired (Pr H) rs ps) (s : Same H H') : Paired (Pr H') rs ps := Paired.mapP h fun a b q => s _ _ q
noncomputable def rowP (p : Nat → Bool) (a j : Nat) : List (Int × Int) := ((List.range j).filter p).map fun b : Nat => ((a : Int), (b : Int))
noncomputable def gridP (n : Nat) (p : Nat → Nat → Bool) (i : Nat) : List (Int × Int) := (List.range i).flatMap fun a => rowP (p a) a n
theorem rowP_succ (p : Nat → Bool) (a j : Nat) : rowP p a (j + 1) = rowP p a j ++ (if p j = true then [((a : Int), (j : Int))] else []) := by
  unfold rowP
  rw [List.range_succ, List.filter_append, List.map_append]
  cases e : p j <;> simp [e]
theorem rowP_len (p : Nat → Bool) (a j : Nat) : (rowP p a j).length ≤ j := by
  unfold rowP
  rw [List.length_map]
  have := List.length_filter_le p (List.range j)
  rw [List.length_range] at this
  exact this
theorem gridP_succ (n : Nat) (p : Nat → Nat → Bool) (i : Nat) : gridP n p (i + 1) = gridP n p i ++ rowP (p i) i n := by
  unfold gridP
  rw [List.range_succ, List.flatMap_append]
  simp
theorem gridP_le (n : Nat) (p : Nat → Nat → Bool) : ∀ i : Nat, (gridP n p i).length ≤ i * n
  | 0 => Nat.zero_le _
  | i + 1 => by
    rw [gridP_succ, List.length_append, Nat.add_mul, Nat.one_mul]
    have := gridP_le n p i
    have := rowP_len (p i) i n
    omega
theorem gridP_len (n : Nat) (p : Nat → Nat → Bool) : ∀ i : Nat, (gridP n p i).length = ((List.range i).map fun a => ((List.range n).filter fun b => p a b).length).sum
  | 0 => rfl
  | i + 1 => by
    rw [gridP_succ, List.length_append, gridP_len n p i, List.range_succ, List.map_append, List.sum_append]
    unfold rowP
    simp
theorem gridP_in (n : Nat) (p : Nat → Nat → Bool) : In n (gridP n p n) := by
  intro q hq
  unfold gridP rowP at hq
  simp only [List.mem_flatMap, List.mem_range, List.mem_map, List.mem_filter] at hq
  obtain ⟨a, ha, b, ⟨hb, _⟩, rfl⟩ := hq
  simp only
  omega
theorem ints_at {n i : Nat} (f : Nat → Int) (hi : i < n) : atI ((List.range n).map fun k => V.int (f k)) ((0 : Int) + (i : Int)) = some (.int (f i)) := by
  rw [Int.zero_add]
  exact atI_nat (by rw [List.getElem?_map, List.getElem?_range hi]; rfl)
/-- a builder: at most m sayings of the n things -/
noncomputable def spBuild (m : Nat) (K : PySem.W.Frag) : Sp := fun vs H Q _ => ∃ (a : Addr) (ns : List Int) (k : Int) (n : Nat), vs = [.ref a, .int k, .int n] ∧ SqL K H a (ns.map V.int) ∧ 0 ≤ k ∧ 1 ≤ n ∧ n ≤ 12 ∧
  ∀ l ps H', Same H H' → H l = none → PrsO H' l ps → In n ps → ps.length ≤ m → Q (.ref l) H'
/-- law's: a list of at most 63 ints is handed in, True comes out -/
noncomputable def spLaw (K : PySem.W.Frag) : Sp := fun vs H Q _ => ∃ (a : Addr) (ns : List Int), vs = [.ref a] ∧ SqL K H a (ns.map V.int) ∧ ns.length ≤ 63 ∧ ∀ H', Q (.bl true) H'
theorem better_iff {sp tp : List (Int × Int)} (h : ∀ p, p ∈ sp ↔ p ∈ tp) : better sp = better tp := by
  funext i j
  unfold better
  rw [Bool.eq_iff_iff, decide_eq_true_eq, decide_eq_true_eq]
  exact h _
noncomputable abbrev dS (i : Int) : Str := Str.ofString (toString i)
noncomputable def decI (i : Int) : List Nat := (dS i).cps.toList
noncomputable abbrev tx (l : List Nat) : Str := ⟨l.toArray⟩
theorem tx_dec (i : Int) : tx (decI i) = dS i := by
  show (⟨(dS i).cps.toList.toArray⟩ : Str) = _
  rw [Array.toArray_toList]
theorem dec_tx (i : Int) : Str.ofString (toString i) = tx (decI i) := (tx_dec i).symm
theorem tx_app (a b : List Nat) : tx a ++ tx b = tx (a ++ b) := by
  show (⟨a.toArray ++ b.toArray⟩ : Str) = _
  rw [List.append_toArray]
theorem tx_len (a : List Nat) : (tx a).length = a.length := by
  show a.toArray.size = _
  rw [List.size_toArray]
theorem tx_nil : (Str.empty : Str) = tx [] := rfl
theorem c58 : Str.ofString ":" = tx [58] := by decide +kernel
theorem c32 : Str.ofString " " = tx [32] := by decide +kernel
theorem c62 : Str.ofString ">" = tx [62] := by decide +kernel
theorem c0 : Str.ofString "" = tx [] := by decide +kernel
theorem dec_facts : ((List.range 13).all fun k => ((decI (k : Int)).all fun a => decide (48 ≤ a) && decide (a ≤ 57)) && decide ((decI (k : Int)).length ≤ 2)) = true := by decide +kernel
theorem dec_differ : ((List.range 13).all fun j => (List.range 13).all fun k => decide (decI (j : Int) = decI (k : Int) → j = k)) = true := by decide +kernel
theorem dec_ok {i : Int} (h0 : 0 ≤ i) (h : i ≤ 12) : (∀ a ∈ decI i, 48 ≤ a ∧ a ≤ 57) ∧ (decI i).length ≤ 2 := by
  have := List.all_eq_true.mp dec_facts i.toNat (List.mem_range.mpr (by omega))
  rw [Int.toNat_of_nonneg h0, Bool.and_eq_true, List.all_eq_true, decide_eq_true_eq] at this
  refine ⟨fun a ha => ?_, this.2⟩
  have h2 := this.1 a ha
  rw [Bool.and_eq_true, decide_eq_true_eq, decide_eq_true_eq] at h2
  exact h2
theorem dec_inj {i j : Int} (h0 : 0 ≤ i) (h : i ≤ 12) (g0 : 0 ≤ j) (g : j ≤ 12) (e : dS i = dS j) : i = j := by
  have h1 := List.all_eq_true.mp (List.all_eq_true.mp dec_differ i.toNat (List.mem_range.mpr (by omega))) j.toNat (List.mem_range.mpr (by omega))
  rw [decide_eq_true_eq, Int.toNat_of_nonneg h0, Int.toNat_of_nonneg g0] at h1
  have := h1 (by show (dS i).cps.toList = (dS j).cps.toList; rw [e])
  omega
theorem small {i : Int} (h0 : 0 ≤ i) (h : i ≤ 12) : i.natAbs.log2 < 1920 := Nat.lt_of_le_of_lt (Nat.log2_le_self _) (by omega)
/-- a saying's text; a telling's -/
noncomputable def wrd (p : Int × Int) : List Nat := decI p.1 ++ 62 :: decI p.2
noncomputable def bdy (ps : List (Int × Int)) : List Nat := ps.flatMap fun p => 32 :: wrd p
noncomputable def txt (n : Int) (ps : List (Int × Int)) : List Nat := decI n ++ 58 :: bdy ps
theorem In.le12 {n : Nat} (hn : n ≤ 12) {ps : List (Int × Int)} (h : In n ps) {p : Int × Int} (hp : p ∈ ps) : (0 ≤ p.1 ∧ p.1 ≤ 12) ∧ 0 ≤ p.2 ∧ p.2 ≤ 12 := by
  have := h p hp
  omega
theorem wrd_ok {p : Int × Int} (h : (0 ≤ p.1 ∧ p.1 ≤ 12) ∧ 0 ≤ p.2 ∧ p.2 ≤ 12) : (∀ a ∈ wrd p, 48 ≤ a ∧ a ≤ 62 ∧ a ≠ 58) ∧ (wrd p).length ≤ 5 := by
  have h1 := dec_ok h.1.1 h.1.2
  have h2 := dec_ok h.2.1 h.2.2
  unfold wrd
  refine ⟨fun a ha => ?_, ?_⟩
  · rcases List.mem_append.mp ha with z | z
    · have := h1.1 a z
      omega
    · rcases List.mem_cons.mp z with z | z
      · omega
      · have := h2.1 a z
        omega
  · rw [List.length_append, List.length_cons]
    omega
theorem bdy_ok {n : Nat} (hn : n ≤ 12) : ∀ {ps : List (Int × Int)}, In n ps → (∀ a ∈ bdy ps, a ≤ 62 ∧ a ≠ 58) ∧ (bdy ps).length ≤ 6 * ps.length
  | [], _ => ⟨(fun a ha => nomatch ha), Nat.le_refl _⟩
  | p :: ps, h => by
    have ih := bdy_ok hn (ps := ps) fun q hq => h q (List.mem_cons_of_mem _ hq)
    have hw := wrd_ok (h.le12 hn List.mem_cons_self)
    have e : bdy (p :: ps) = (32 :: wrd p) ++ bdy ps := by unfold bdy; rw [List.flatMap_cons]
    rw [e]
    refine ⟨fun a ha => ?_, ?_⟩
    · rcases List.mem_append.mp ha with z | z
      · rcases List.mem_cons.mp z with z | z
        · omega
        · have := hw.1 a z
          omega
      · exact ih.1 a z
    · rw [List.length_append, List.length_cons, List.length_cons]
      omega
theorem gl_bdy : ∀ (ps : List (Int × Int)), KT.gl 32 ([] :: ps.map wrd) = bdy ps
  | [] => rfl
  | p :: ps => by
    have ih := gl_bdy ps
    have e : bdy (p :: ps) = (32 :: wrd p) ++ bdy ps := by unfold bdy; rw [List.flatMap_cons]
    rw [e, ← ih]
    show [] ++ 32 :: KT.gl 32 (wrd p :: ps.map wrd) = _
    cases ps with
    | nil => simp [KT.gl]
    | cons q ps =>
      show [] ++ 32 :: (wrd p ++ 32 :: KT.gl 32 (wrd q :: ps.map wrd)) = _
      rw [List.nil_append, List.map_cons]
      show 32 :: (wrd p ++ 32 :: _) = 32 :: wrd p ++ ([] ++ 32 :: _)
      rfl
theorem bdy_snoc (ps : List (Int × Int)) (p : Int × Int) : bdy (ps ++ [p]) = bdy ps ++ 32 :: wrd p := by
  unfold bdy
  rw [List.flatMap_append]
  simp
noncomputable def splitC (c : Nat) : List Nat → List (List Nat)
  | [] => [[]]
  | a :: l => if a = c then [] :: splitC c l else match splitC c l with
    | [] => [[a]]
    | p :: ps => (a :: p) :: ps
theorem split_ne (c : Nat) : ∀ l : List Nat, splitC c l ≠ []
  | [] => by unfold splitC; exact List.cons_ne_nil _ _
  | a :: l => by
    unfold splitC
    split
    · exact List.cons_ne_nil _ _
    · split <;> exact List.cons_ne_nil _ _
theorem split_no (c : Nat) : ∀ l : List Nat, ∀ p ∈ splitC c l, c ∉ p
  | [], p, hp => by
    unfold splitC at hp
    rw [List.mem_singleton.mp hp]
    exact fun z => nomatch z
  | a :: l, p, hp => by
    unfold splitC at hp
    split at hp
    · rcases List.mem_cons.mp hp with rfl | hp
      · exact fun z => nomatch z
      · exact split_no c l p hp
    · rename_i hac
      have ih := split_no c l
      revert hp ih
      cases splitC c l with
      | nil =>
        intro hp _
        rw [List.mem_singleton.mp hp]
        exact fun z => hac (List.mem_singleton.mp z).symm
      | cons q qs =>
        intro hp ih
        rcases List.mem_cons.mp hp with rfl | hp
        · intro z
          rcases List.mem_cons.mp z with z | z
          · exact hac z.symm
          · exact ih q List.mem_cons_self z
        · exact ih p (List.mem_cons_of_mem _ hp)
theorem split_gl (c : Nat) : ∀ l : List Nat, KT.gl c (splitC c l) = l
  | [] => rfl
  | a :: l => by
    have ih := split_gl c l
    have hne := split_ne c l
    unfold splitC
    revert ih hne
    cases splitC c l with
    | nil => intro _ hne; exact absurd rfl hne
    | cons q qs =>
      intro ih _
      split
      · rename_i e
        show [] ++ c :: KT.gl c (q :: qs) = _
        rw [ih, e]
        rfl
      · show KT.gl c ((a :: q) :: qs) = _
        cases qs with
        | nil =>
          have : q = l := ih
          rw [this]
          rfl
        | cons r rs =>
          have : q ++ c :: KT.gl c (r :: rs) = l := ih
          rw [← this]
          rfl
theorem split_len (c : Nat) : ∀ l : List Nat, (splitC c l).length ≤ l.length + 1
  | [] => Nat.le_refl _
  | a :: l => by
    have ih := split_len c l
    unfold splitC
    split
    · rw [List.length_cons, List.length_cons]; omega
    · revert ih
      cases splitC c l with
      | nil => intro _; show 1 ≤ _; omega
      | cons q qs => intro ih; rw [List.length_cons] at ih ⊢; rw [List.length_cons]; omega
theorem split_part (c : Nat) : ∀ (l p : List Nat), p ∈ splitC c l → (∀ a ∈ p, a ∈ l) ∧ p.length ≤ l.length
  | [], p, hp => by
    unfold splitC at hp
    rw [List.mem_singleton.mp hp]
    exact ⟨fun a z => z, Nat.le_refl _⟩
  | a :: l, p, hp => by
    unfold splitC at hp
    have ih := split_part c l
    split at hp
    · rcases List.mem_cons.mp hp with rfl | hp
      · exact ⟨(fun a z => nomatch z), Nat.zero_le _⟩
      · obtain ⟨h1, h2⟩ := ih p hp
        exact ⟨fun b hb => List.mem_cons_of_mem _ (h1 b hb), by rw [List.length_cons]; omega⟩
    · revert hp ih
      cases splitC c l with
      | nil =>
        intro _ hp
        rw [List.mem_singleton.mp hp]
        exact ⟨fun b hb => (List.mem_singleton.mp hb) ▸ List.mem_cons_self, by rw [List.length_cons, List.length_cons]; show 0 + 1 ≤ _; omega⟩
      | cons q qs =>
        intro ih hp
        rcases List.mem_cons.mp hp with rfl | hp
        · obtain ⟨h1, h2⟩ := ih q List.mem_cons_self
          refine ⟨fun b hb => ?_, by rw [List.length_cons, List.length_cons]; omega⟩
          rcases List.mem_cons.mp hb with rfl | hb
          · exact List.mem_cons_self
          · exact List.mem_cons_of_mem _ (h1 b hb)
        · obtain ⟨h1, h2⟩ := ih p (List.mem_cons_of_mem _ hp)
          exact ⟨fun b hb => List.mem_cons_of_mem _ (h1 b hb), by rw [List.length_cons]; omega⟩
theorem split_one {c : Nat} : ∀ {l : List Nat}, c ∉ l → splitC c l = [l]
  | [], _ => rfl
  | a :: l, h => by
    unfold splitC
    rw [if_neg fun e : a = c => h (e ▸ List.mem_cons_self), split_one fun z => h (List.mem_cons_of_mem _ z)]
theorem split_at {c : Nat} {v : List Nat} : ∀ {u : List Nat}, c ∉ u → splitC c (u ++ c :: v) = u :: splitC c v
  | [], _ => by
    show splitC c (c :: v) = _
    rw [splitC, if_pos rfl]
  | a :: u, h => by
    show splitC c (a :: (u ++ c :: v)) = _
    rw [splitC, if_neg fun e : a = c => h (e ▸ List.mem_cons_self), split_at fun z => h (List.mem_cons_of_mem _ z)]
theorem at_find {c : Nat} {l : List Nat} (h : c ∈ l) : l = l.take (l.idxOf c) ++ c :: l.drop (l.idxOf c + 1) ∧ c ∉ l.take (l.idxOf c) := by
  have hlt := List.idxOf_lt_length_of_mem h
  refine ⟨?_, fun z => ?_⟩
  · have e := List.getElem_idxOf hlt
    have e2 := List.take_append_drop (l.idxOf c) l
    rw [List.drop_eq_getElem_cons hlt, e] at e2
    exact e2.symm
  · obtain ⟨j, hj⟩ := List.mem_iff_getElem?.mp z
    obtain ⟨hj1, hj2⟩ := List.getElem?_eq_some_iff.mp hj
    rw [List.length_take] at hj1
    rw [List.getElem_take] at hj2
    exact idx_noN (by omega) (by omega) hj2
/-- the number from lo to hi that is written w -/
noncomputable def numOf (lo hi : Nat) (w : List Nat) : Option Nat := (List.range (hi + 1)).find? fun k => decide (lo ≤ k) && decide (decI (k : Int) = w)
theorem numOf_some {lo hi : Nat} {w : List Nat} {k : Nat} (h : numOf lo hi w = some k) : lo ≤ k ∧ k ≤ hi ∧ decI (k : Int) = w := by
  unfold numOf at h
  have h1 := List.find?_some h
  have h2 := List.mem_of_find?_eq_some h
  rw [Bool.and_eq_true, decide_eq_true_eq, decide_eq_true_eq] at h1
  rw [List.mem_range] at h2
  exact ⟨h1.1, by omega, h1.2⟩
theorem numOf_none {lo hi : Nat} {w : List Nat} (h : numOf lo hi w = none) : ∀ k, lo ≤ k → k ≤ hi → decI (k : Int) ≠ w := by
  unfold numOf at h
  rw [List.find?_eq_none] at h
  intro k h1 h2 e
  exact h k (List.mem_range.mpr (by omega)) (by rw [decide_eq_true h1, decide_eq_true e]; rfl)
theorem decI_inj {i j : Nat} (h : i ≤ 12) (g : j ≤ 12) (e : decI (i : Int) = decI (j : Int)) : i = j := by
  have e' : dS (i : Int) = dS (j : Int) := by rw [← tx_dec, ← tx_dec, e]
  have := dec_inj (by omega) (by omega) (by omega) (by omega) e'
  omega
theorem numOf_eq {lo hi k : Nat} {w : List Nat} (hh : hi ≤ 12) (h1 : lo ≤ k) (h2 : k ≤ hi) (e : decI (k : Int) = w) : numOf lo hi w = some k := by
  cases q : numOf lo hi w with
  | none => exact absurd e (numOf_none q k h1 h2)
  | some j =>
    obtain ⟨g1, g2, g3⟩ := numOf_some q
    rw [decI_inj (by omega) (by omega) (g3.trans e.symm)]
/-- what the number tells, or -1 -/
noncomputable def lnum (w : List Nat) (m : Nat) : Int := match numOf 0 m w with
  | some k => (k : Int)
  | none => -1
theorem lnum_some {w : List Nat} {m k : Nat} (h : numOf 0 m w = some k) : lnum w m = k := by unfold lnum; rw [h]
theorem lnum_none {w : List Nat} {m : Nat} (h : numOf 0 m w = none) : lnum w m = -1 := by unfold lnum; rw [h]
theorem lnum_ge {w : List Nat} {m : Nat} (h : 0 ≤ lnum w m) : ∃ k : Nat, numOf 0 m w = some k ∧ lnum w m = k := by
  cases q : numOf 0 m w with
  | none => rw [lnum_none q] at h; omega
  | some k => exact ⟨k, rfl, lnum_some q⟩
theorem num_sign {lo hi : Nat} {w : List Nat} {k : Nat} (hh : hi ≤ 12) (h : numOf lo hi w = some k) : ∀ a ∈ w, 48 ≤ a ∧ a ≤ 57 := by
  obtain ⟨_, h2, h3⟩ := numOf_some h
  rw [← h3]
  exact (dec_ok (i := (k : Int)) (by omega) (by omega)).1
/-- what a word tells -/
noncomputable def sayOf (n : Nat) (w : List Nat) : Option (Int × Int) := match splitC 62 w with
  | [a, b] => match numOf 0 (n - 1) a, numOf 0 (n - 1) b with
    | some x, some y => some ((x : Int), (y : Int))
    | _, _ => none
  | _ => none
theorem sayOf_some {n : Nat} {w : List Nat} {p : Int × Int} (h : sayOf n w = some p) : ∃ a b x y, splitC 62 w = [a, b] ∧ numOf 0 (n - 1) a = some x ∧ numOf 0 (n - 1) b = some y ∧ p = ((x : Int), (y : Int)) := by
  unfold sayOf at h
  split at h
  · rename_i a b e
    split at h
    · rename_i x y e1 e2
      exact ⟨a, b, x, y, e, e1, e2, (Option.some.inj h).symm⟩
    · cases h
  · cases h
theorem say_sign {n : Nat} (hn : n ≤ 12) {w : List Nat} {p : Int × Int} (h : sayOf n w = some p) : ∀ c ∈ w, c ≠ 58 ∧ c ≠ 32 := by
  obtain ⟨a, b, x, y, e, e1, e2, _⟩ := sayOf_some h
  have hw := split_gl 62 w
  rw [e] at hw
  have hw' : a ++ 62 :: b = w := hw
  rw [← hw']
  intro c hc
  rcases List.mem_append.mp hc with hc | hc
  · have := num_sign (by omega) e1 c hc
    omega
  · rcases List.mem_cons.mp hc with rfl | hc
    · omega
    · have := num_sign (by omega) e2 c hc
      omega
/-- the law's reading of a word -/
theorem sayOf_find {n : Nat} (hn : n ≤ 12) {w : List Nat} : sayOf n w = if findC 62 w < 0 ∨ lnum (w.take (findC 62 w).toNat) (n - 1) < 0 ∨ lnum (w.drop (findC 62 w + 1).toNat) (n - 1) < 0 then none else some (lnum (w.take (findC 62 w).toNat) (n - 1), lnum (w.drop (findC 62 w + 1).toNat) (n - 1)) := by
  by_cases h : 62 ∈ w
  · obtain ⟨e1, e2⟩ := at_find h
    have ef : findC 62 w = (w.idxOf 62 : Nat) := by unfold findC; rw [if_pos h]
    rw [ef, show (((w.idxOf 62 : Nat) : Int) + 1).toNat = w.idxOf 62 + 1 by omega, Int.toNat_natCast]
    revert e1 e2
    generalize w.take (w.idxOf 62) = u
    generalize w.drop (w.idxOf 62 + 1) = v
    intro e1 e2
    unfold sayOf
    rw [e1, split_at e2]
    by_cases hv : 62 ∈ v
    · have hn0 : numOf 0 (n - 1) v = none := by
        cases q : numOf 0 (n - 1) v with
        | none => rfl
        | some k =>
          have := num_sign (by omega) q 62 hv
          omega
      rw [if_pos (.inr (.inr (by rw [lnum_none hn0]; decide)))]
      have hsp : ∀ x, splitC 62 v ≠ [x] := fun x z => by
        have := split_gl 62 v
        rw [z] at this
        have hx : x = v := this
        exact split_no 62 v x (by rw [z]; exact List.mem_cons_self) (hx ▸ hv)
      revert hsp
      cases splitC 62 v with
      | nil => intro _; rfl
      | cons x xs =>
        cases xs with
        | nil => intro hsp; exact absurd rfl (hsp x)
        | cons y ys => intro _; rfl
    · rw [split_one hv]
      show (match numOf 0 (n - 1) u, numOf 0 (n - 1) v with | some x, some y => some ((x : Int), (y : Int)) | _, _ => none) = _
      cases q1 : numOf 0 (n - 1) u with
      | none => rw [if_pos (.inr (.inl (by rw [lnum_none q1]; decide)))]
      | some x =>
        cases q2 : numOf 0 (n - 1) v with
        | none => rw [if_pos (.inr (.inr (by rw [lnum_none q2]; decide)))]
        | some y =>
          rw [if_neg, lnum_some q1, lnum_some q2]
          rw [lnum_some q1, lnum_some q2]
          omega
  · have ef : findC 62 w = -1 := by unfold findC; rw [if_neg h]
    rw [if_pos (.inl (by rw [ef]; decide))]
    unfold sayOf
    rw [split_one h]
/-- l tells n things and these sayings -/
noncomputable def Parse (l : List Nat) (n : Nat) (ps : List (Int × Int)) : Prop := ∃ h r ws, splitC 58 l = [h, r] ∧ numOf 1 12 h = some n ∧ splitC 32 r = [] :: ws ∧ ws.length ≤ 200 ∧ Paired (fun w p => sayOf n w = some p) ws ps
theorem parse_head {l : List Nat} {n : Nat} {ps : List (Int × Int)} (h : Parse l n ps) : 58 ∈ l ∧ numOf 1 12 (l.take (l.idxOf 58)) = some n ∧ ∃ ws, splitC 32 (l.drop (l.idxOf 58 + 1)) = [] :: ws ∧ ws.length ≤ 200 ∧ Paired (fun w p => sayOf n w = some p) ws ps := by
  obtain ⟨a, r, ws, e, e1, e2, e3, e4⟩ := h
  have hm : 58 ∈ l := Classical.byContradiction fun z => by
    rw [split_one z] at e
    cases e
  obtain ⟨g1, g2⟩ := at_find hm
  rw [g1, split_at g2] at e
  obtain ⟨z1, z2⟩ := List.cons.inj e
  have hr : l.drop (l.idxOf 58 + 1) = r := by
    have := split_gl 58 (l.drop (l.idxOf 58 + 1))
    rw [z2] at this
    exact this.symm
  rw [z1, hr]
  exact ⟨hm, e1, ws, e2, e3, e4⟩
theorem say_in {n : Nat} (hn1 : 1 ≤ n) (hn : n ≤ 12) {w : List Nat} {p : Int × Int} (h : sayOf n w = some p) : (0 ≤ p.1 ∧ p.1 < n) ∧ 0 ≤ p.2 ∧ p.2 < n := by
  obtain ⟨a, b, x, y, _, e1, e2, rfl⟩ := sayOf_some h
  have h1 := (numOf_some e1).2.1
  have h2 := (numOf_some e2).2.1
  show (0 ≤ (x : Int) ∧ (x : Int) < n) ∧ 0 ≤ (y : Int) ∧ (y : Int) < n
  omega
theorem no58 {n : Nat} (hn : n ≤ 12) : ∀ {ws : List (List Nat)} {ps : List (Int × Int)}, Paired (fun w p => sayOf n w = some p) ws ps → 58 ∉ KT.gl 32 ws
  | [], _, .nil => fun z => nomatch z
  | [w], _, .cons h .nil => fun z => (say_sign hn h 58 z).1 rfl
  | w :: v :: ws, _, .cons h t => fun z => by
    have z' : 58 ∈ w ++ 32 :: KT.gl 32 (v :: ws) := z
    rcases List.mem_append.mp z' with z1 | z1
    · exact (say_sign hn h 58 z1).1 rfl
    · rcases List.mem_cons.mp z1 with z2 | z2
      · cases z2
      · exact no58 hn t z2
theorem app_le {a b : Str} {m n : Nat} (ha : a.length ≤ m) (hb : b.length ≤ n) : (a ++ b).length ≤ m + n := by
  rw [strLen_append]
  omega
theorem dS_le {i : Int} (h0 : 0 ≤ i) (h : i ≤ 12) : (dS i).length ≤ 2 := by
  rw [← tx_dec, tx_len]
  exact (dec_ok h0 h).2
theorem rep_le {w : List Nat} (h : ∀ c ∈ w, c < 128) (hl : w.length ≤ 2000) : (reprText ⟨w.toArray⟩).length ≤ 20002 := by
  refine Nat.le_trans (StrLaws.reprText_len ⟨w.toArray⟩ fun c hc => ?_) ?_
  · have : c ∈ w := by simpa using hc
    have := h c this
    omega
  · show 10 * w.toArray.size + 2 ≤ _
    rw [List.size_toArray]
    omega
noncomputable def numsX (lo m : Nat) : List Str := (List.range m).map fun j : Nat => dS ((lo : Int) + (j : Int))
theorem numsX_idx {lo m j : Nat} (hj : j < m) (hm : lo + m ≤ 13) : dS ((lo + j : Nat) : Int) ∈ numsX lo m ∧ (numsX lo m).idxOf (dS ((lo + j : Nat) : Int)) = j := by
  have hmem : dS ((lo + j : Nat) : Int) ∈ numsX lo m := List.mem_map.mpr ⟨j, List.mem_range.mpr hj, by rw [Int.natCast_add]⟩
  refine ⟨hmem, ?_⟩
  have hlt := List.idxOf_lt_length_iff.mpr hmem
  have hget := List.getElem_idxOf hlt
  generalize hi : (numsX lo m).idxOf (dS ((lo + j : Nat) : Int)) = i at hlt hget
  have hlen : (numsX lo m).length = m := by unfold numsX; rw [List.length_map, List.length_range]
  have e : (numsX lo m)[i] = dS ((lo : Int) + (i : Int)) := by
    have e2 : (numsX lo m)[i]? = some (dS ((lo : Int) + (i : Int))) := by
      unfold numsX
      rw [List.getElem?_map, List.getElem?_range (hlen ▸ hlt)]
      rfl
    rw [List.getElem?_eq_getElem hlt] at e2
    exact Option.some.inj e2
  rw [e] at hget
  have := dec_inj (by omega) (by omega) (by omega) (by omega) hget
  omega
theorem dS_cps {k : Nat} {w : List Nat} (e : decI (k : Int) = w) : dS (k : Int) = ⟨w.toArray⟩ := by
  rw [← tx_dec, e]
section
variable {P : Program} {w : World} {K : PySem.W.Frag} {mg : Str → Option Value} {base : Heap}
noncomputable def spNumX (T : Tx K mg) : Sp := fun vs H Q E => ∃ (w : List Nat) (lo hi : Nat), vs = [.str ⟨w.toArray⟩, .int lo, .int hi] ∧ lo ≤ hi ∧ hi ≤ 12 ∧ (∀ c ∈ w, c < 128) ∧ w.length ≤ 2000 ∧ (∀ k, numOf lo hi w = some k → ∀ H', Same H H' → Q (.int k) H') ∧ (numOf lo hi w = none → ∀ H', Same H H' → E (.ref T.c_BadLine) none H')
noncomputable abbrev sNumX : Stmt := (top 9)
noncomputable abbrev nNumX : List Str := ["word", "least", "most", "written"]
noncomputable abbrev pNumX : List Str := ["word", "least", "most"]
theorem scNumX : FnScope nNumX pNumX (defScope sNumX) := ⟨rfl, rfl, rfl, by decide +kernel, rfl, by decide +kernel, by decide +kernel⟩
theorem coNumX1 : CompOk (mkSc [(".0", .local), ("number", .local), ("str", .globalImplicit)]) ["number"] (defScope sNumX) nNumX := ⟨rfl, by decide +kernel, by decide +kernel, by decide +kernel, by decide +kernel, by decide +kernel⟩
theorem cnNumX1 : (blkN nNumX ["number"]).Nodup := by decide +kernel
theorem ok_numX (T : Tx K mg) : FnOk P w K mg base (CX1 P w) 1 T.a_number_in T.f_number_in pNumX (spNumX T) := by
  refine ok1 T.d_number_in.F scNumX (fun vs H Q E h => ?_) (fun cdv A outer s H vs Q E hr h => ?_)
  · obtain ⟨_, _, _, rfl, _⟩ := h
    rfl
  · obtain ⟨w, lo, hi, rfl, h1, h2, hc, hl, q, qe⟩ := h
    have hz := sizeLine_eq
    refine ⟨_, (pss_cons (ps_comp (i := 3) scNumX.nd rfl rfl rfl coNumX1 (pi_range2 rfl T.B.range (pa_cons (pv 1) (pa_cons (pe_op op_add (pv 2) pe_int) pa_nil))) (fun _ _ _ _ _ => pg_name (i := 4) cnNumX1 rfl (Or.inl rfl) (Or.inr rfl)) (fun _ _ _ _ _ => pif_nil)
        (fun _ _ _ _ _ => pe_callTy call_strI (by rfl) T.B.str (by decide +kernel) (pa_cons (pv 4) pa_nil)) (by rfl))
      (pss_cons (ps_if (pt_cmpR (notInTx (K := K) rfl) (pv 0) (pv 3) (by with_unfolding_all rfl)) (pss_one (ps_raise rfl raises1 rfl T.kx_BadLine rfl T.mc_BadLine (pe_jn (.cons pe_str (.cons (pe_fv (pv 1)) (.cons pe_str (.cons (pe_fv (pv 2)) (.cons pe_str (.cons (pe_fr (pv 0)) .nil))))))))) pss_nil)
      (pss_one (ps_ret (pe_op op_add (pv 1) (peM (K := K) rfl PySem.F.plainAttrs_list PySem.F.slot_list_index PySem.F.type_list_index (indexS (K := K) rfl) (pv 3) (pa_cons (pv 0) pa_nil))))))), ?_⟩
    refine ⟨_, rfl, _, rfl, _, _, rfl, rfl, _, _, rfl, ⟨by omega, by omega, by omega, by omega⟩, ?_⟩
    have e : ((hi : Int) + 1 - (lo : Int)).toNat = hi + 1 - lo := by omega
    rw [e]
    refine comp_range (k := 1) (lo := (lo : Int)) (fun i ys H2 => H2 = H ∧ ys = (numsX lo i).map V.str) ⟨rfl, rfl⟩ (by omega) (fun i ys H2 ⟨_, e⟩ => by rw [e]; unfold numsX; rw [List.length_map, List.length_map, List.length_range]; exact Nat.le_refl _) ?_ ?_
    · rintro i ys H2 hi' ⟨rfl, rfl⟩
      refine ⟨rfl, _, rfl, _, rfl, small (by omega) (by omega), rfl, ?_⟩
      unfold numsX
      rw [map_snoc, List.map_append]
      rfl
    · rintro ys H2 wl ⟨rfl, rfl⟩ hwl
      have s1 := Same.new (o := .lst ((numsX lo (hi + 1 - lo)).map V.str)) hwl
      refine ⟨_, rfl, _, rfl, wl, _, _, rfl, rfl, SqL.of upd_same, _, rfl, ?_⟩
      cases hk : numOf lo hi w with
      | some k =>
        obtain ⟨g1, g2, g3⟩ := numOf_some hk
        have hj := numsX_idx (lo := lo) (m := hi + 1 - lo) (j := k - lo) (by omega) (by omega)
        rw [show lo + (k - lo) = k by omega, dS_cps g3] at hj
        rw [decide_eq_true hj.1]
        refine iteF ⟨_, rfl, _, rfl, .inl ⟨rfl, _, SqL.of upd_same⟩, _, rfl, wl, _, _, rfl, rfl, SqL.of upd_same, hj.1, _, _, rfl, rfl, ?_⟩
        rw [hj.2]
        show Q (V.int ((lo : Int) + ((k - lo : Nat) : Int))) _
        rw [show (lo : Int) + ((k - lo : Nat) : Int) = (k : Int) by omega]
        exact q k hk _ s1
      | none =>
        have hno : (⟨w.toArray⟩ : Str) ∉ numsX lo (hi + 1 - lo) := fun z => by
          obtain ⟨j, hj, ej⟩ := List.mem_map.mp z
          have hj' := List.mem_range.mp hj
          refine numOf_none hk (lo + j) (by omega) (by omega) ?_
          have e1 : (dS ((lo : Int) + (j : Int))).cps.toList = w := by rw [ej]
          rw [← e1, Int.natCast_add]
          rfl
        rw [decide_eq_false hno]
        have r0 := rep_le hc hl
        have l1 := app_le (a := Str.empty) (b := Str.ofString "this is no number from ") (m := 0) (n := 30) (by decide) (by decide +kernel)
        have l2 := app_le l1 (dS_le (i := (lo : Int)) (by omega) (by omega))
        have l3 := app_le (b := Str.ofString " to ") (n := 4) l2 (by decide +kernel)
        have l4 := app_le l3 (dS_le (i := (hi : Int)) (by omega) (by omega))
        have l5 := app_le (b := Str.ofString ": ") (n := 2) l4 (by decide +kernel)
        have l6 := app_le l5 r0
        exact iteT ⟨_, rfl, Nat.le_trans l1 (by omega), _, rfl, _, rfl, small (by omega) (by omega), _, rfl, Nat.le_trans l2 (by omega), _, rfl, Nat.le_trans l3 (by omega), _, rfl, _, rfl, small (by omega) (by omega), _, rfl, Nat.le_trans l4 (by omega), _, rfl, Nat.le_trans l5 (by omega), _, rfl, _, rfl, Nat.le_trans r0 (by omega), _, rfl, Nat.le_trans l6 (by omega), qe hk _ s1⟩
noncomputable def spSayX (T : Tx K mg) : Sp := fun vs H Q E => ∃ (w : List Nat) (n : Nat), vs = [.str ⟨w.toArray⟩, .int n] ∧ 1 ≤ n ∧ n ≤ 12 ∧ (∀ c ∈ w, c < 128) ∧ w.length ≤ 2000 ∧ (∀ p, sayOf n w = some p → ∀ t H', Same H H' → H t = none → H' t = some (.tup [.int p.1, .int p.2]) → Q (.ref t) H') ∧ (sayOf n w = none → ∀ H', Same H H' → E (.ref T.c_BadLine) none H')
noncomputable abbrev sSayX : Stmt := (top 10)
noncomputable abbrev nSayX : List Str := ["word", "many", "things"]
noncomputable abbrev pSayX : List Str := ["word", "many"]
theorem scSayX : FnScope nSayX pSayX (defScope sSayX) := ⟨rfl, rfl, rfl, by decide +kernel, rfl, by decide +kernel, by decide +kernel⟩
theorem ok_sayX (T : Tx K mg) : FnOk P w K mg base (CX1 P w) 2 T.a_saying_in T.f_saying_in pSayX (spSayX T) := by
  have GNumX : FnOk P w K mg base (CX1 P w) 1 T.a_number_in T.f_number_in pNumX (spNumX T) := ok_numX T
  have bNumX : Binds K T.f_number_in pNumX [] := bd3 T.d_number_in.F fun _ _ _ _ _ _ _ _ _ => rfl
  refine ok1 T.d_saying_in.F scSayX (fun vs H Q E h => ?_) (fun cdv A outer s H vs Q E hr h => ?_)
  · obtain ⟨_, _, rfl, _⟩ := h
    rfl
  · obtain ⟨w, n, rfl, hn1, hn, hc, hl, q, qe⟩ := h
    have hz := sizeLine_eq
    refine ⟨_, (pss_cons (ps_set (i := 2) scSayX.nd rfl (Or.inl rfl) (peM (K := K) rfl PySem.F.plainAttrs_str PySem.F.slot_str_split PySem.F.type_str_split mt_split (pv 0) (pa_cons pe_str pa_nil)))
      (pss_cons (ps_if (pt_cmpR op_ne (pe_callB (lenS (K := K) rfl) (by rfl) T.B.len PySem.boot_len (pa_cons (pv 2) pa_nil)) pe_int (nomark _)) (pss_one (ps_raise rfl raises1 rfl T.kx_BadLine rfl T.mc_BadLine (pe_jn (.cons pe_str (.cons (pe_fr (pv 0)) .nil))))) pss_nil)
      (pss_one (ps_ret (pe_tup (pa_cons (pe_call GNumX hr rfl T.d_number_in.m T.d_number_in.F.kp bNumX .nil pass1 (pa_cons (pe_ix (ixL (K := K) rfl) (pv 2) pe_int (fun _ _ => rfl)) (pa_cons pe_int (pa_cons (pe_op op_sub (pv 1) pe_int) pa_nil))))
        (pa_cons (pe_call GNumX hr rfl T.d_number_in.m T.d_number_in.F.kp bNumX .nil pass1 (pa_cons (pe_ix (ixL (K := K) rfl) (pv 2) pe_int (fun _ _ => rfl)) (pa_cons pe_int (pa_cons (pe_op op_sub (pv 1) pe_int) pa_nil)))) pa_nil))))))), ?_⟩
    have hsl := split_len 62 w
    refine ⟨_, rfl, rfl, 62, splitC 62 w, (by rw [split_gl]), (by rw [c62]), split_ne _ _, split_no _ _, by decide, (fun z hz' => by rw [split_gl] at hz'; have := hc z hz'; omega), (by rw [split_gl]; omega), by omega, fun l hl0 => ?_⟩
    have s1 := Same.new (o := .lst ((splitC 62 w).map fun p => V.str ⟨p.toArray⟩)) hl0
    have hl' := upd_same (H := H) (a := l) (o := .lst ((splitC 62 w).map fun p => V.str ⟨p.toArray⟩))
    revert s1 hl'
    generalize upd H l (.lst ((splitC 62 w).map fun p => V.str ⟨p.toArray⟩)) = H1
    intro s1 hl'
    refine ⟨_, rfl, l, _, rfl, .inl (SqL.of hl'), rfl, _, rfl, ?_⟩
    have hgl := split_gl 62 w
    by_cases h2 : (splitC 62 w).length = 2
    · obtain ⟨a, b, eab⟩ : ∃ a b, splitC 62 w = [a, b] := by
        revert h2
        match splitC 62 w with
        | [] => intro h; cases h
        | [_] => intro h; cases h
        | [a, b] => intro _; exact ⟨a, b, rfl⟩
        | _ :: _ :: _ :: _ => intro h; simp at h
      rw [eab] at hl' hgl ⊢
      have hab : a ++ 62 :: b = w := hgl
      have ha : ∀ c ∈ a, c < 128 := fun c h => hc c (hab ▸ List.mem_append_left _ h)
      have hb : ∀ c ∈ b, c < 128 := fun c h => hc c (hab ▸ List.mem_append_right _ (List.mem_cons_of_mem _ h))
      have hlab : a.length + (b.length + 1) = w.length := by rw [← hab, List.length_append, List.length_cons]
      have en : ((n : Int) - 1) = ((n - 1 : Nat) : Int) := by omega
      refine iteNS rfl ?_
      have es : sayOf n w = (match numOf 0 (n - 1) a, numOf 0 (n - 1) b with | some x, some y => some ((x : Int), (y : Int)) | _, _ => none) := by unfold sayOf; rw [eab] <;> rfl
      refine ⟨_, rfl, l, _, _, _, rfl, rfl, SqL.of hl', two0, _, rfl, _, _, rfl, rfl, a, 0, n - 1, (by rw [← en]; rfl), by omega, by omega, ha, by omega, (fun x hx H2 s2 => ?_), (fun hx H2 s2 => ?_)⟩
      · refine ⟨_, rfl, l, _, _, _, rfl, rfl, SqL.of (s2 _ _ hl'), two1, _, rfl, _, _, rfl, rfl, b, 0, n - 1, (by rw [← en]; rfl), by omega, by omega, hb, by omega, (fun y hy H3 s3 => ?_), (fun hy H3 s3 => ?_)⟩
        · refine ⟨(by show 2 ≤ sizeLine; decide), fun t ht => ?_⟩
          have s13 := s1.trans (s2.trans s3)
          exact q ((x : Int), (y : Int)) (by rw [es, hx, hy]) t _ (s13.put (s13.free ht)) (s13.free ht) upd_same
        · exact qe (by rw [es, hx, hy]) _ (s1.trans (s2.trans s3))
      · exact qe (by rw [es, hx]) _ (s1.trans s2)
    · have hne : ¬ (V.int (((splitC 62 w).map fun p => V.str ⟨p.toArray⟩).length : Int) = V.int 2) := fun z => h2 (by
        injection z with z
        rw [List.length_map] at z
        omega)
      have hno : sayOf n w = none := by
        unfold sayOf
        revert h2
        match splitC 62 w with
        | [] => intro _; rfl
        | [_] => intro _; rfl
        | [a, b] => intro h; exact absurd rfl h
        | _ :: _ :: _ :: _ => intro _; rfl
      have r0 := rep_le hc hl
      have l1 := app_le (a := Str.empty) (b := Str.ofString "this is no saying: ") (m := 0) (n := 30) (by decide) (by decide +kernel)
      have l2 := app_le l1 r0
      exact iteNN hne ⟨_, rfl, Nat.le_trans l1 (by omega), _, rfl, _, rfl, Nat.le_trans r0 (by omega), _, rfl, Nat.le_trans l2 (by omega), qe hno _ s1⟩
end
theorem Paired.to {α β : Type} {F : α → β → Prop} : ∀ {l₁ : List α} {l₂ : List β} {i : Nat} {a : α}, Paired F l₁ l₂ → l₁[i]? = some a → ∃ b, F a b := fun h e => by
  obtain ⟨b, _, hb⟩ := Paired.at h e
  exact ⟨b, hb⟩
section
variable {P : Program} {w : World} {K : PySem.W.Frag} {mg : Str → Option Value} {base : Heap}
noncomputable def spReadX (T : Tx K mg) : Sp := fun vs H Q E => ∃ (l : List Nat), vs = [.str ⟨l.toArray⟩] ∧ (∀ c ∈ l, c < 128) ∧ l.length ≤ 2000 ∧ (∀ n ps, Parse l n ps → ∀ t r H', Same H H' → H t = none → H r = none → H' t = some (.tup [.int (n : Nat), .ref r]) → PrsO H' r ps → Q (.ref t) H') ∧ ((∀ n ps, ¬ Parse l n ps) → ∀ H', Same H H' → E (.ref T.c_BadLine) none H')
noncomputable abbrev sReadX : Stmt := (top 11)
noncomputable abbrev nReadX : List Str := ["text", "parts", "many", "words"]
noncomputable abbrev pReadX : List Str := ["text"]
theorem scReadX : FnScope nReadX pReadX (defScope sReadX) := ⟨rfl, rfl, rfl, by decide +kernel, rfl, by decide +kernel, by decide +kernel⟩
theorem coReadX1 : CompOk (mkSc [(".0", .local), ("word", .local), ("saying_in", .globalImplicit), ("many", .free)]) ["word"] (defScope sReadX) nReadX := ⟨rfl, by decide +kernel, by decide +kernel, by decide +kernel, by decide +kernel, by decide +kernel⟩
theorem cnReadX1 : (blkN nReadX ["word"]).Nodup := by decide +kernel
theorem ok_readX (T : Tx K mg) : FnOk P w K mg base (CX1 P w) 3 T.a_read T.f_read pReadX (spReadX T) := by
  have GNumX : FnOk P w K mg base (CX1 P w) 1 T.a_number_in T.f_number_in pNumX (spNumX T) := ok_numX T
  have bNumX : Binds K T.f_number_in pNumX [] := bd3 T.d_number_in.F fun _ _ _ _ _ _ _ _ _ => rfl
  have GSayX : FnOk P w K mg base (CX1 P w) 2 T.a_saying_in T.f_saying_in pSayX (spSayX T) := ok_sayX T
  have bSayX : Binds K T.f_saying_in pSayX [] := bd2 T.d_saying_in.F fun _ _ _ _ _ _ _ _ => rfl
  refine ok1 T.d_read.F scReadX (fun vs H Q E h => ?_) (fun cdv A outer s H vs Q E hr h => ?_)
  · obtain ⟨_, rfl, _⟩ := h
    rfl
  · obtain ⟨l, rfl, hc, hl, q, qe⟩ := h
    have hz := sizeLine_eq
    have hr1 : Room 1 _ := hr.mono (by decide)
    refine ⟨_, (pss_cons (ps_set (i := 1) scReadX.nd rfl (Or.inl rfl) (peM (K := K) rfl PySem.F.plainAttrs_str PySem.F.slot_str_split PySem.F.type_str_split mt_split (pv 0) (pa_cons pe_str pa_nil)))
      (pss_cons (ps_if (pt_cmpR op_ne (pe_callB (lenS (K := K) rfl) (by rfl) T.B.len PySem.boot_len (pa_cons (pv 1) pa_nil)) pe_int (nomark _)) (pss_one (ps_raise rfl raises1 rfl T.kx_BadLine rfl T.mc_BadLine pe_str)) pss_nil)
      (pss_cons (ps_set (i := 2) scReadX.nd rfl (Or.inr rfl) (pe_call GNumX hr1 rfl T.d_number_in.m T.d_number_in.F.kp bNumX .nil pass1 (pa_cons (pe_ix (ixL (K := K) rfl) (pv 1) pe_int (fun _ _ => rfl)) (pa_cons pe_int (pa_cons (pe_glob (v := .int 12) rfl T.v_MOST_THINGS ⟨_, rfl⟩) pa_nil)))))
      (pss_cons (ps_set (i := 3) scReadX.nd rfl (Or.inl rfl) (peM (K := K) rfl PySem.F.plainAttrs_str PySem.F.slot_str_split PySem.F.type_str_split mt_split (pe_ix (ixL (K := K) rfl) (pv 1) pe_int (fun _ _ => rfl)) (pa_cons pe_str pa_nil)))
      (pss_cons (ps_if (pt_cmpR op_ne (pe_ix (ixL (K := K) rfl) (pv 3) pe_int (fun _ _ => rfl)) pe_str (nomark _)) (pss_one (ps_raise rfl raises1 rfl T.kx_BadLine rfl T.mc_BadLine pe_str)) pss_nil)
      (pss_cons (ps_if (pt_cmpR op_gt (pe_op op_sub (pe_callB (lenS (K := K) rfl) (by rfl) T.B.len PySem.boot_len (pa_cons (pv 3) pa_nil)) pe_int) (pe_glob (v := .int 200) rfl T.v_MOST_SAYINGS ⟨_, rfl⟩) (nomark _)) (pss_one (ps_raise rfl raises1 rfl T.kx_BadLine rfl T.mc_BadLine (pe_jn (.cons pe_str (.cons (pe_fv (pe_glob (v := .int 200) rfl T.v_MOST_SAYINGS ⟨_, rfl⟩)) (.cons pe_str .nil)))))) pss_nil)
      (pss_one (ps_ret (pe_tup (pa_cons (pv 2) (pa_cons (pe_compE coReadX1 (piL (K := K) rfl (pe_slice (slL (K := K) rfl) (pv 3) (po_some pe_int) po_none)) (fun _ _ _ _ _ => pg_name (i := 4) cnReadX1 rfl (Or.inl rfl) (Or.inr rfl)) (fun _ _ _ _ _ => pif_nil)
        (fun _ _ _ _ _ => pe_call GSayX hr rfl T.d_saying_in.m T.d_saying_in.F.kp bSayX .nil passB (pa_cons (pv 4) (pa_cons (pv 2) pa_nil)))) pa_nil))))))))))), ?_⟩
    have hsl := split_len 58 l
    refine ⟨_, rfl, rfl, 58, splitC 58 l, (by rw [split_gl]), (by rw [c58]), split_ne _ _, split_no _ _, by decide, (fun z hz' => by rw [split_gl] at hz'; have := hc z hz'; omega), (by rw [split_gl]; omega), by omega, fun p1 hp1 => ?_⟩
    have s1 := Same.new (o := .lst ((splitC 58 l).map fun p => V.str ⟨p.toArray⟩)) hp1
    have hl' := upd_same (H := H) (a := p1) (o := .lst ((splitC 58 l).map fun p => V.str ⟨p.toArray⟩))
    revert s1 hl'
    generalize upd H p1 (.lst ((splitC 58 l).map fun p => V.str ⟨p.toArray⟩)) = H1
    intro s1 hl'
    refine ⟨_, rfl, p1, _, rfl, .inl (SqL.of hl'), rfl, _, rfl, ?_⟩
    have hgl := split_gl 58 l
    by_cases h2 : (splitC 58 l).length = 2
    · obtain ⟨a, b, eab⟩ : ∃ a b, splitC 58 l = [a, b] := by
        revert h2
        match splitC 58 l with
        | [] => intro h; cases h
        | [_] => intro h; cases h
        | [a, b] => intro _; exact ⟨a, b, rfl⟩
        | _ :: _ :: _ :: _ => intro h; simp at h
      rw [eab] at hl' hgl ⊢
      have hab : a ++ 58 :: b = l := hgl
      have ha : ∀ c ∈ a, c < 128 := fun c h => hc c (hab ▸ List.mem_append_left _ h)
      have hb : ∀ c ∈ b, c < 128 := fun c h => hc c (hab ▸ List.mem_append_right _ (List.mem_cons_of_mem _ h))
      have hlab : a.length + (b.length + 1) = l.length := by rw [← hab, List.length_append, List.length_cons]
      refine iteNS rfl ?_
      refine ⟨_, rfl, p1, _, _, _, rfl, rfl, SqL.of hl', two0, a, 1, 12, rfl, by decide, by decide, ha, by omega, (fun n hx H2 s2 => ?_), (fun hx H2 s2 => ?_)⟩
      · obtain ⟨hn1, hn, _⟩ := numOf_some hx
        have hsb := split_len 32 b
        refine ⟨_, rfl, p1, _, _, _, rfl, rfl, SqL.of (s2 _ _ hl'), two1, rfl, 32, splitC 32 b, (by rw [split_gl]), (by rw [c32]), split_ne _ _, split_no _ _, by decide, (fun z hz' => by rw [split_gl] at hz'; have := hb z hz'; omega), (by rw [split_gl]; omega), by omega, fun p2 hp2 => ?_⟩
        have s3 := (s1.trans s2).put (o := .lst ((splitC 32 b).map fun p => V.str ⟨p.toArray⟩)) ((s1.trans s2).free hp2)
        have hl2 := upd_same (H := H2) (a := p2) (o := .lst ((splitC 32 b).map fun p => V.str ⟨p.toArray⟩))
        revert s3 hl2
        generalize upd H2 p2 (.lst ((splitC 32 b).map fun p => V.str ⟨p.toArray⟩)) = H3
        intro s3 hl2
        have hglb := split_gl 32 b
        cases ews : splitC 32 b with
        | nil => exact absurd ews (split_ne 32 b)
        | cons w0 ws =>
          rw [ews] at hl2 hsb
          rw [List.length_cons] at hsb
          refine ⟨_, rfl, p2, _, _, _, rfl, rfl, SqL.of hl2, atI_nat (j := 0) rfl, rfl, _, rfl, ?_⟩
          by_cases hw0 : w0 = []
          · subst hw0
            refine iteNS (by show V.str (tx []) = V.str (Str.ofString ""); rw [c0]) ?_
            refine ⟨_, rfl, p2, _, rfl, .inl (SqL.of hl2), _, _, rfl, rfl, _, _, rfl, rfl, _, rfl, ?_⟩
            by_cases h200 : ws.length ≤ 200
            · rw [decide_eq_false (by rw [List.length_map, List.length_cons]; omega)]
              refine iteF ?_
              refine ⟨_, rfl, _, rfl, 1, rfl, p2, _, rfl, SqL.of hl2, fun l3 hl3 => ?_⟩
              have ecut : cutV (([] :: ws).map fun p => V.str ⟨p.toArray⟩) (some ((1 : Nat) : Int)) none = ws.map fun p => V.str ⟨p.toArray⟩ := by
                rw [drop_cut _ _ (by rw [List.length_map, List.length_cons]; omega)]
                rfl
              have ecut' : cutV (([] :: ws).map fun p => V.str ⟨p.toArray⟩) (some 1) none = ws.map fun p => V.str ⟨p.toArray⟩ := ecut
              rw [ecut']
              have s4 := s3.put (o := .lst (ws.map fun p => V.str ⟨p.toArray⟩)) (s3.free hl3)
              have hl3' := upd_same (H := H3) (a := l3) (o := .lst (ws.map fun p => V.str ⟨p.toArray⟩))
              revert s4 hl3'
              generalize upd H3 l3 (.lst (ws.map fun p => V.str ⟨p.toArray⟩)) = H4
              intro s4 hl3'
              have hwc : ∀ u ∈ ws, (∀ c ∈ u, c < 128) ∧ u.length ≤ 2000 := fun u hu => by
                have hm : u ∈ splitC 32 b := by rw [ews]; exact List.mem_cons_of_mem _ hu
                obtain ⟨h1, h2⟩ := split_part 32 b u hm
                exact ⟨fun c hc' => hb c (h1 c hc'), by omega⟩
              refine ⟨l3, rfl, ⟨_, SqL.of hl3'⟩, comp_list (k := 1) (K := K) (a := l3) (xs := ws.map fun p => V.str ⟨p.toArray⟩) (fun i ys H5 => ∃ (rs : List Addr) (ps : List (Int × Int)), ys = rs.map V.ref ∧ Same H4 H5 ∧ Paired (fun w p => sayOf n w = some p) (ws.take i) ps ∧ Paired (Pr H5) rs ps) ⟨[], [], rfl, Same.refl _, by rw [List.take_zero]; exact .nil, .nil⟩ (by rw [List.length_map]; omega) (fun i ys H5 ⟨rs, ps, e, s5, h, h'⟩ => ⟨by
                  have e1 := Paired.length h
                  have e2 := Paired.length h'
                  rw [e, List.length_map, e2, ← e1]
                  exact List.length_take_le _ _, SqL.of (s5 _ _ hl3')⟩) ?_ ?_⟩
              · rintro i y ys H5 hy ⟨rs, ps, rfl, s5, hS, hP⟩
                rw [List.getElem?_map] at hy
                cases hpi : ws[i]? with
                | none => rw [hpi] at hy; cases hy
                | some u =>
                  rw [hpi] at hy
                  obtain rfl : y = .str ⟨u.toArray⟩ := (Option.some.inj hy).symm
                  obtain ⟨hu1, hu2⟩ := hwc u (List.mem_of_getElem? hpi)
                  refine ⟨rfl, _, rfl, _, rfl, u, n, rfl, hn1, hn, hu1, hu2, (fun p hp t H6 s6 ht0 ht => ⟨rs ++ [t], ps ++ [p], by rw [List.map_append]; rfl, s5.trans s6, ?_, paired_app (prs_same hP s6) (.cons ht .nil)⟩), (fun hno H6 s6 => ?_)⟩
                  · rw [List.take_add_one, hpi]
                    exact paired_app hS (.cons hp .nil)
                  · refine qe (fun n' ps' hp' => ?_) _ ((s4.trans s5).trans s6)
                    obtain ⟨h', r', ws', e1, e2, e3, _, e5⟩ := hp'
                    rw [eab] at e1
                    obtain ⟨z1, z2⟩ := List.cons.inj e1
                    obtain ⟨z2, _⟩ := List.cons.inj z2
                    subst z1 z2
                    rw [hx] at e2
                    cases e2
                    rw [ews] at e3
                    obtain ⟨_, rfl⟩ := List.cons.inj e3
                    obtain ⟨p, hp⟩ := Paired.to e5 hpi
                    rw [hno] at hp
                    cases hp
              · rintro ys H5 l4 ⟨rs, ps, rfl, s5, hS, hP⟩ hl4
                rw [List.length_map, List.take_length] at hS
                have s45 := s4.trans s5
                have s46 := s45.put (o := .lst (rs.map V.ref)) (s45.free hl4)
                refine ⟨(by show 2 ≤ sizeLine; decide), fun t ht => ?_⟩
                have s7 := Same.new (o := .tup [.int n, .ref l4]) ht
                exact q n ps ⟨a, b, ws, eab, hx, ews, h200, hS⟩ t l4 _ (s46.trans s7) (s46.free ht) (s45.free hl4) upd_same ⟨rs, s7 _ _ upd_same, prs_same hP ((Same.new hl4).trans s7)⟩
            · rw [decide_eq_true (by rw [List.length_map, List.length_cons]; omega)]
              have l1 := app_le (a := Str.empty) (b := Str.ofString "there are more than ") (m := 0) (n := 30) (by decide) (by decide +kernel)
              have l2 := app_le (b := dS 200) (n := 3) l1 (by decide +kernel)
              have l3 := app_le (b := Str.ofString " sayings") (n := 10) l2 (by decide +kernel)
              refine iteT ⟨_, rfl, Nat.le_trans l1 (by omega), _, rfl, by decide +kernel, _, rfl, Nat.le_trans l2 (by omega), _, rfl, Nat.le_trans l3 (by omega), qe (fun n' ps' hp' => ?_) _ s3⟩
              obtain ⟨h', r', ws', e1, e2, e3, e4, e5⟩ := hp'
              rw [eab] at e1
              obtain ⟨z1, z2⟩ := List.cons.inj e1
              obtain ⟨z2, _⟩ := List.cons.inj z2
              subst z1 z2
              rw [ews] at e3
              obtain ⟨_, rfl⟩ := List.cons.inj e3
              exact h200 e4
          · refine iteNN (fun z => hw0 ?_) (qe (fun n' ps' hp' => ?_) _ s3)
            · have z' : V.str (tx w0) = V.str (tx []) := by rw [← c0]; exact z
              injection z' with z'
              have := congrArg (fun x : Str => x.cps.toList) z'
              simpa using this
            · obtain ⟨h', r', ws', e1, e2, e3, e4, e5⟩ := hp'
              rw [eab] at e1
              obtain ⟨z1, z2⟩ := List.cons.inj e1
              obtain ⟨z2, _⟩ := List.cons.inj z2
              subst z1 z2
              rw [ews] at e3
              exact hw0 (List.cons.inj e3).1
      · refine qe (fun n' ps' hp' => ?_) _ (s1.trans s2)
        obtain ⟨h', r', ws', e1, e2, _⟩ := hp'
        rw [eab] at e1
        obtain ⟨z1, z2⟩ := List.cons.inj e1
        subst z1
        rw [hx] at e2
        cases e2
    · have hne : ¬ (V.int (((splitC 58 l).map fun p => V.str ⟨p.toArray⟩).length : Int) = V.int 2) := fun z => h2 (by
        injection z with z
        rw [List.length_map] at z
        omega)
      refine iteNN hne (qe (fun n' ps' hp' => ?_) _ s1)
      obtain ⟨h', r', ws', e1, _⟩ := hp'
      rw [e1] at h2
      exact h2 rfl
end
theorem dec_short : ((List.range 13).all fun k => decide (1 ≤ (decI (k : Int)).length) && decide ((decI (k : Int)).length ≤ 2) && !(decide ((decI (k : Int)).length = 2) && decide ((decI (k : Int))[0]? = some 48))) = true := by decide +kernel
theorem dec_one : ((List.range 10).all fun d => decide (decI (d : Int) = [48 + d]) && decide (PySem.intText? ⟨#[48 + d]⟩ = some (d : Int))) = true := by decide +kernel
theorem dec_two : ((List.range 9).all fun e => (List.range 10).all fun d => decide (decI ((10 * (e + 1) + d : Nat) : Int) = [48 + (e + 1), 48 + d]) && decide (PySem.intText? ⟨#[48 + (e + 1), 48 + d]⟩ = some ((10 * (e + 1) + d : Nat) : Int))) = true := by decide +kernel
theorem num_len {m : Nat} (hm : m ≤ 12) {w : List Nat} {k : Nat} (h : numOf 0 m w = some k) : 1 ≤ w.length ∧ w.length ≤ 2 ∧ ¬ (w.length = 2 ∧ w[0]? = some 48) := by
  obtain ⟨_, h2, rfl⟩ := numOf_some h
  have := List.all_eq_true.mp dec_short k (List.mem_range.mpr (by omega))
  simp only [Bool.and_eq_true, decide_eq_true_eq, Bool.not_eq_true', Bool.and_eq_false_iff, decide_eq_false_iff_not] at this
  refine ⟨this.1.1, this.1.2, fun z => ?_⟩
  rcases this.2 with g | g
  · exact g z.1
  · exact g z.2
/-- digits alone: the value, and how it is written -/
theorem num_val {w : List Nat} (h1 : 1 ≤ w.length) (h2 : w.length ≤ 2) (h3 : ¬ (w.length = 2 ∧ w[0]? = some 48)) (hd : ∀ c ∈ w, 48 ≤ c ∧ c ≤ 57) : ∃ v : Nat, decI (v : Int) = w ∧ PySem.intText? ⟨w.toArray⟩ = some (v : Int) := by
  match w, h1, h2, h3, hd with
  | [a], _, _, _, hd =>
    have ha := hd a List.mem_cons_self
    have := List.all_eq_true.mp dec_one (a - 48) (List.mem_range.mpr (by omega))
    rw [Bool.and_eq_true, decide_eq_true_eq, decide_eq_true_eq, show 48 + (a - 48) = a by omega] at this
    exact ⟨a - 48, this.1, this.2⟩
  | [a, b], _, _, h3, hd =>
    have ha := hd a List.mem_cons_self
    have hb := hd b (List.mem_cons_of_mem _ List.mem_cons_self)
    have ha' : a ≠ 48 := fun z => h3 ⟨rfl, by rw [z]; rfl⟩
    have := List.all_eq_true.mp (List.all_eq_true.mp dec_two (a - 49) (List.mem_range.mpr (by omega))) (b - 48) (List.mem_range.mpr (by omega))
    rw [Bool.and_eq_true, decide_eq_true_eq, decide_eq_true_eq, show 48 + (a - 49 + 1) = a by omega, show 48 + (b - 48) = b by omega] at this
    exact ⟨10 * (a - 49 + 1) + (b - 48), this.1, this.2⟩
theorem digs : Str.ofString "0123456789" = tx [48, 49, 50, 51, 52, 53, 54, 55, 56, 57] := by decide +kernel
theorem c48 : Str.ofString "0" = tx [48] := by decide +kernel
theorem big_dec : ((List.range 100).all fun v => (List.range 13).all fun k => decide (decI (v : Int) = decI (k : Int) → v = k)) = true := by decide +kernel
theorem val_small {w : List Nat} (h1 : 1 ≤ w.length) (h2 : w.length ≤ 2) (h3 : ¬ (w.length = 2 ∧ w[0]? = some 48)) (hd : ∀ c ∈ w, 48 ≤ c ∧ c ≤ 57) : ∃ v : Nat, v < 100 ∧ decI (v : Int) = w ∧ PySem.intText? ⟨w.toArray⟩ = some (v : Int) := by
  match w, h1, h2, h3, hd with
  | [a], _, _, _, hd =>
    have ha := hd a List.mem_cons_self
    have := List.all_eq_true.mp dec_one (a - 48) (List.mem_range.mpr (by omega))
    rw [Bool.and_eq_true, decide_eq_true_eq, decide_eq_true_eq, show 48 + (a - 48) = a by omega] at this
    exact ⟨a - 48, by omega, this.1, this.2⟩
  | [a, b], _, _, h3, hd =>
    have ha := hd a List.mem_cons_self
    have hb := hd b (List.mem_cons_of_mem _ List.mem_cons_self)
    have ha' : a ≠ 48 := fun z => h3 ⟨rfl, by rw [z]; rfl⟩
    have := List.all_eq_true.mp (List.all_eq_true.mp dec_two (a - 49) (List.mem_range.mpr (by omega))) (b - 48) (List.mem_range.mpr (by omega))
    rw [Bool.and_eq_true, decide_eq_true_eq, decide_eq_true_eq, show 48 + (a - 49 + 1) = a by omega, show 48 + (b - 48) = b by omega] at this
    exact ⟨10 * (a - 49 + 1) + (b - 48), by omega, this.1, this.2⟩
theorem val_num {w : List Nat} {v m : Nat} (hv : v < 100) (hm : m ≤ 12) (e : decI (v : Int) = w) : numOf 0 m w = if v ≤ m then some v else none := by
  by_cases h : v ≤ m
  · rw [if_pos h]; exact numOf_eq hm (Nat.zero_le _) h e
  · rw [if_neg h]
    cases q : numOf 0 m w with
    | none => rfl
    | some k =>
      obtain ⟨_, g2, g3⟩ := numOf_some q
      have := List.all_eq_true.mp (List.all_eq_true.mp big_dec v (List.mem_range.mpr hv)) k (List.mem_range.mpr (by omega))
      have := of_decide_eq_true this (e.trans g3.symm)
      omega
section
variable {P : Program} {w : World} {K : PySem.W.Frag} {mg : Str → Option Value} {base : Heap}
noncomputable def spLNum (K : PySem.W.Frag) : Sp := fun vs H Q _ => ∃ (w : List Nat) (m : Nat), vs = [.str ⟨w.toArray⟩, .int m] ∧ m ≤ 12 ∧ (∀ c ∈ w, c < 128) ∧ w.length ≤ 2000 ∧ Q (.int (lnum w m)) H
noncomputable abbrev sLNum : Stmt := (top 17)
noncomputable abbrev nLNum : List Str := ["word", "most", "sign"]
noncomputable abbrev pLNum : List Str := ["word", "most"]
theorem scLNum : FnScope nLNum pLNum (defScope sLNum) := ⟨rfl, rfl, rfl, by decide +kernel, rfl, by decide +kernel, by decide +kernel⟩
theorem ok_lnum (T : Tx K mg) : FnOk P w K mg base CX0 1 T.a__law_number T.f__law_number pLNum (spLNum K) := by
  refine T.d__law_number.F.ok scLNum (fun vs H Q E h => ?_) (fun cdv A outer s H vs Q E hr h => ?_)
  · obtain ⟨_, _, rfl, _⟩ := h
    rfl
  · obtain ⟨w, m, rfl, hm, hc, hl, q⟩ := h
    have hz := sizeLine_eq
    refine ⟨_, (pss_cons (ps_cut (ps_if (PW.pt (pw_or (pt_cmpR op_lt (pe_callB call_len_str (by rfl) T.B.len PySem.boot_len (pa_cons (pv 0) pa_nil)) pe_int (nomark _)) (pw_or (pt_cmpR op_gt (pe_callB call_len_str (by rfl) T.B.len PySem.boot_len (pa_cons (pv 0) pa_nil)) pe_int (nomark _))
        (pw_or1 (PW.pt (pw_and (pt_cmpR op_gt (pe_callB call_len_str (by rfl) T.B.len PySem.boot_len (pa_cons (pv 0) pa_nil)) pe_int (nomark _)) (pw_and1 (pt_cmpR op_eq (pe_ix ix_str (pv 0) pe_int (fun _ _ => rfl)) pe_str (nomark _))))))))) (pss_one (ps_ret (pe_un un_neg pe_int))) pss_nil))
      (pss_cons (ps_for PassesOwn.never rfl (pi_str (pv 0)) (pg_name (i := 2) scLNum.nd rfl (Or.inl rfl)) (pss_one (ps_if (pt_cmpR op_notin_str (pv 2) pe_str (by with_unfolding_all rfl)) (pss_one (ps_ret (pe_un un_neg pe_int))) pss_nil)))
      (pss_cons (ps_if (pt_cmpR op_gt (pe_callTy call_intS (by rfl) T.B.int (by decide +kernel) (pa_cons (pv 0) pa_nil)) (pv 1) (nomark _)) (pss_one (ps_ret (pe_un un_neg pe_int))) pss_nil)
      (pss_one (ps_ret (pe_callTy call_intS (by rfl) T.B.int (by decide +kernel) (pa_cons (pv 0) pa_nil))))))), ?_⟩
    have hwl : (⟨w.toArray⟩ : Str).length = w.length := by show w.toArray.size = _; rw [List.size_toArray]
    have bad : numOf 0 m w = none → Q (.int (-1)) H := fun h => by rw [lnum_none h] at q; exact q
    have none_of : ¬ (1 ≤ w.length ∧ w.length ≤ 2 ∧ ¬ (w.length = 2 ∧ w[0]? = some 48)) → numOf 0 m w = none := fun h => by
      cases e : numOf 0 m w with
      | none => rfl
      | some k => exact absurd (num_len hm e) h
    refine ⟨fun σ H' => σ = [some (.str ⟨w.toArray⟩), some (.int m), none] ∧ H' = H ∧ 1 ≤ w.length ∧ w.length ≤ 2 ∧ ¬ (w.length = 2 ∧ w[0]? = some 48), ?_, ?_⟩
    · refine ⟨_, rfl, _, rfl, by omega, _, _, rfl, rfl, _, rfl, ?_⟩
      rw [hwl]
      by_cases h1 : 1 ≤ w.length
      · rw [decide_eq_false (by omega)]
        refine iteF ⟨_, rfl, _, rfl, by omega, _, _, rfl, rfl, _, rfl, ?_⟩
        rw [hwl]
        by_cases h2 : w.length ≤ 2
        · rw [decide_eq_false (by omega)]
          refine iteF ⟨_, rfl, _, rfl, by omega, _, _, rfl, rfl, _, rfl, ?_⟩
          rw [hwl]
          by_cases h3 : w.length = 2
          · rw [decide_eq_true (by omega)]
            obtain ⟨a, ha⟩ : ∃ a, w[0]? = some a := ⟨w[0], List.getElem?_eq_getElem (by omega)⟩
            refine iteT ⟨_, rfl, _, _, a, rfl, rfl, by omega, atI_nat (j := 0) ha, rfl, _, rfl, ?_⟩
            rw [c48]
            by_cases h4 : a = 48
            · rw [decide_eq_true (by rw [h4])]
              exact iteT ⟨_, rfl, bad (none_of fun z => z.2.2 ⟨h3, by rw [ha, h4]⟩)⟩
            · rw [decide_eq_false fun z => h4 (by injection z with z; injection z with z; simpa using z)]
              exact iteF ⟨rfl, rfl, h1, h2, fun z => h4 (by rw [ha] at z; exact Option.some.inj z.2)⟩
          · rw [decide_eq_false (by omega)]
            exact iteF ⟨rfl, rfl, h1, h2, fun z => h3 z.1⟩
        · rw [decide_eq_true (by omega)]
          exact iteT ⟨_, rfl, bad (none_of fun z => h2 z.2.1)⟩
      · rw [decide_eq_true (by omega)]
        exact iteT ⟨_, rfl, bad (none_of fun z => h1 z.1)⟩
    · rintro σ H' ⟨rfl, rfl, h1, h2, h3⟩
      refine ⟨_, rfl, w, rfl, hc, for_str (fun i σ H2 => ∃ v, σ = [some (.str ⟨w.toArray⟩), some (.int m), v] ∧ H2 = H' ∧ ∀ c ∈ w.take i, 48 ≤ c ∧ c ≤ 57) ⟨none, rfl, rfl, fun c hc' => by rw [List.take_zero] at hc'; cases hc'⟩ ?_ ?_⟩
      · rintro i c σ H2 hi ⟨v, rfl, rfl, hd⟩
        refine ⟨_, rfl, _, _, rfl, rfl, _, rfl, ?_⟩
        rw [digs, StrLaws.found_one]
        by_cases hcd : 48 ≤ c ∧ c ≤ 57
        · rw [decide_eq_true (by show c ∈ [48, 49, 50, 51, 52, 53, 54, 55, 56, 57]; simp only [List.mem_cons, List.not_mem_nil, or_false]; omega)]
          refine iteF ⟨_, rfl, rfl, fun b hb => ?_⟩
          rw [List.take_add_one, hi] at hb
          rcases List.mem_append.mp hb with hb | hb
          · exact hd b hb
          · have : b = c := by simpa using hb
            rw [this]; exact hcd
        · rw [decide_eq_false (by show c ∉ [48, 49, 50, 51, 52, 53, 54, 55, 56, 57]; simp only [List.mem_cons, List.not_mem_nil, or_false]; omega)]
          refine iteT ⟨_, rfl, bad ?_⟩
          cases e : numOf 0 m w with
          | none => rfl
          | some k => exact absurd (num_sign hm e c (List.mem_of_getElem? hi)) hcd
      · rintro σ H2 ⟨v, rfl, rfl, hd⟩
        rw [List.take_length] at hd
        obtain ⟨x, hx, e1, e2⟩ := val_small h1 h2 h3 hd
        have en := val_num hx hm e1
        refine ⟨_, rfl, _, _, rfl, e2, by omega, _, rfl, _, _, rfl, rfl, _, rfl, ?_⟩
        by_cases hxm : x ≤ m
        · rw [if_pos hxm] at en
          rw [decide_eq_false (by omega)]
          rw [lnum_some en] at q
          exact iteF ⟨_, rfl, _, _, rfl, e2, by omega, q⟩
        · rw [if_neg hxm] at en
          rw [decide_eq_true (by omega)]
          exact iteT ⟨_, rfl, bad en⟩
end
section
variable {P : Program} {w : World} {K : PySem.W.Frag} {mg : Str → Option Value} {base : Heap}
noncomputable def spDue (K : PySem.W.Frag) : Sp := fun vs H Q _ => ∃ (l : List Nat), vs = [.str ⟨l.toArray⟩] ∧ (∀ c ∈ l, c < 128) ∧ l.length ≤ 2000 ∧ (∀ n ps, Parse l n ps → ∀ t r H', Same H H' → H t = none → H r = none → H' t = some (.tup [.int (n : Nat), .ref r]) → PrsO H' r ps → Q (.ref t) H') ∧ ((∀ n ps, ¬ Parse l n ps) → ∀ H', Same H H' → Q .non H')
theorem max0 {i : Int} : (if (0 : Int) > i then (0 : Int) else i) = ((i.toNat : Nat) : Int) := by split <;> omega
noncomputable abbrev sDue : Stmt := (top 18)
noncomputable abbrev nDue : List Str := ["text", "cut", "many", "rest", "pairs", "word", "at", "pair"]
noncomputable abbrev pDue : List Str := ["text"]
theorem scDue : FnScope nDue pDue (defScope sDue) := ⟨rfl, rfl, rfl, by decide +kernel, rfl, by decide +kernel, by decide +kernel⟩
theorem ok_due (T : Tx K mg) : FnOk P w K mg base CX0 2 T.a__law_due T.f__law_due pDue (spDue K) := by
  have GLNum : FnOk P w K mg base CX0 1 T.a__law_number T.f__law_number pLNum (spLNum K) := ok_lnum T
  have bLNum : Binds K T.f__law_number pLNum [] := bd2 T.d__law_number.F fun _ _ _ _ _ _ _ _ => rfl
  refine T.d__law_due.F.ok scDue (fun vs H Q E h => ?_) (fun cdv A outer s H vs Q E hr h => ?_)
  · obtain ⟨_, rfl, _⟩ := h
    rfl
  · obtain ⟨l, rfl, hc, hl, q, qn⟩ := h
    have hz := sizeLine_eq
    refine ⟨_, (pss_cons (ps_set (i := 1) scDue.nd rfl (Or.inl rfl) (peM (K := K) rfl PySem.F.plainAttrs_str PySem.F.slot_str_find PySem.F.type_str_find mt_find (pv 0) (pa_cons pe_str pa_nil)))
      (pss_cons (ps_set (i := 2) scDue.nd rfl (Or.inl rfl) (pe_call GLNum hr rfl T.d__law_number.m T.d__law_number.F.kp bLNum .nil pass0 (pa_cons (pe_slice sl_str (pv 0) po_none (po_some (pe_callB (call_max2 rfl) (by rfl) T.B.max (by decide +kernel) (pa_cons (pv 1) (pa_cons pe_int pa_nil))))) (pa_cons pe_int pa_nil))))
      (pss_cons (ps_if (pt_cmpR op_lt (pv 2) pe_int (nomark _)) (pss_one (ps_ret pe_non)) pss_nil)
      (pss_cons (ps_set (i := 3) scDue.nd rfl (Or.inl rfl) (pe_slice sl_str (pv 0) (po_some (pe_op op_add (pv 1) pe_int)) po_none))
      (pss_cons (ps_set (i := 4) scDue.nd rfl (Or.inl rfl) (pe_lst pa_nil))
      (pss_cons (ps_if (pt_cmpR op_eq (pv 3) pe_str (nomark _)) (pss_one (ps_ret (pe_tup (pa_cons (pv 2) (pa_cons (pv 4) pa_nil))))) pss_nil)
      (pss_cons (ps_if (pt_cmpR op_ne (pe_ix ix_str (pv 3) pe_int (fun _ _ => rfl)) pe_str (nomark _)) (pss_one (ps_ret pe_non)) pss_nil)
      (pss_cons (ps_for PassesOwn.never rfl (piL (K := K) rfl (peM (K := K) rfl PySem.F.plainAttrs_str PySem.F.slot_str_split PySem.F.type_str_split mt_split (pe_slice sl_str (pv 3) (po_some pe_int) po_none) (pa_cons pe_str pa_nil))) (pg_name (i := 5) scDue.nd rfl (Or.inl rfl)) (pss_cons (ps_set (i := 6) scDue.nd rfl (Or.inl rfl) (peM (K := K) rfl PySem.F.plainAttrs_str PySem.F.slot_str_find PySem.F.type_str_find mt_find (pv 5) (pa_cons pe_str pa_nil)))
      (pss_cons (ps_set (i := 7) scDue.nd rfl (Or.inl rfl) (pe_tup (pa_cons (pe_call GLNum hr rfl T.d__law_number.m T.d__law_number.F.kp bLNum .nil pass0 (pa_cons (pe_slice sl_str (pv 5) po_none (po_some (pe_callB (call_max2 rfl) (by rfl) T.B.max (by decide +kernel) (pa_cons (pv 6) (pa_cons pe_int pa_nil))))) (pa_cons (pe_op op_sub (pv 2) pe_int) pa_nil)))
          (pa_cons (pe_call GLNum hr rfl T.d__law_number.m T.d__law_number.F.kp bLNum .nil pass0 (pa_cons (pe_slice sl_str (pv 5) (po_some (pe_op op_add (pv 6) pe_int)) po_none) (pa_cons (pe_op op_sub (pv 2) pe_int) pa_nil))) pa_nil))))
      (pss_cons (ps_if (PW.pt (pw_or (pt_cmpR op_lt (pv 6) pe_int (nomark _)) (pw_or1 (pt_cmpR op_lt (pe_callB (call_minT rfl) (by rfl) T.B.min (by decide +kernel) (pa_cons (pv 7) pa_nil)) pe_int (nomark _))))) (pss_one (ps_ret pe_non)) pss_nil)
      (pss_one (ps_expr (peM (K := K) rfl PySem.F.plainAttrs_list PySem.F.slot_list_append PySem.F.type_list_append mt_append (pv 4) (pa_cons (pv 7) pa_nil))))))))
      (pss_cons (ps_if (pt_cmpR op_gt (pe_callB (lenS (K := K) rfl) (by rfl) T.B.len PySem.boot_len (pa_cons (pv 4) pa_nil)) pe_int (nomark _)) (pss_one (ps_ret pe_non)) pss_nil)
      (pss_one (ps_ret (pe_tup (pa_cons (pv 2) (pa_cons (pv 4) pa_nil)))))))))))))), ?_⟩
    refine ⟨_, rfl, rfl, l, 58, rfl, (by rw [c58]), ?_⟩
    have hcut : -1 ≤ findC 58 l := by unfold findC; split <;> omega
    refine ⟨_, rfl, _, rfl, _, _, rfl, _, rfl, l, (findC 58 l).toNat, rfl, by omega, .inl ⟨rfl, (by rw [max0]), ?_⟩⟩
    refine ⟨l.take (findC 58 l).toNat, 12, rfl, Nat.le_refl _, fun c hc' => hc c (List.mem_of_mem_take hc'), (by rw [List.length_take]; omega), ?_⟩
    refine ⟨_, rfl, _, _, rfl, rfl, _, rfl, ?_⟩
    by_cases hmany : lnum (l.take (findC 58 l).toNat) 12 < 1
    · rw [decide_eq_true hmany]
      refine iteT (qn (fun n ps hp => ?_) _ (Same.refl _))
      obtain ⟨h1, h2, _⟩ := parse_head hp
      have ef : findC 58 l = (l.idxOf 58 : Nat) := by unfold findC; rw [if_pos h1]
      rw [ef, Int.toNat_natCast] at hmany
      obtain ⟨g1, g2, g3⟩ := numOf_some h2
      rw [lnum_some (numOf_eq (by decide) (Nat.zero_le _) g2 g3)] at hmany
      omega
    · rw [decide_eq_false hmany]
      refine iteF ?_
      obtain ⟨n, hn0, hnl⟩ := lnum_ge (w := l.take (findC 58 l).toNat) (m := 12) (by omega)
      rw [hnl] at hmany ⊢
      have hn1 : 1 ≤ n := by omega
      obtain ⟨_, hn, hdec⟩ := numOf_some hn0
      have hm58 : 58 ∈ l := Classical.byContradiction fun z => by
        have ef : findC 58 l = -1 := by unfold findC; rw [if_neg z]
        have := (num_len (by decide) hn0).1
        rw [ef] at this
        simp at this
      have ef : findC 58 l = (l.idxOf 58 : Nat) := by unfold findC; rw [if_pos hm58]
      obtain ⟨e1, e2⟩ := at_find hm58
      rw [ef, Int.toNat_natCast] at hn0 hdec
      have hnum1 : numOf 1 12 (l.take (l.idxOf 58)) = some n := numOf_eq (by decide) hn1 hn hdec
      rw [ef]
      refine ⟨_, rfl, _, rfl, _, _, rfl, rfl, _, rfl, l, l.idxOf 58 + 1, rfl, by omega, .inr ⟨(by rw [Int.natCast_add]; rfl), rfl, ?_⟩⟩
      have hsp0 : splitC 58 l = l.take (l.idxOf 58) :: splitC 58 (l.drop (l.idxOf 58 + 1)) := by
        have := split_at (v := l.drop (l.idxOf 58 + 1)) e2
        rw [← e1] at this
        exact this
      have hrl : (l.drop (l.idxOf 58 + 1)).length ≤ 2000 := by rw [List.length_drop]; omega
      have hrc : ∀ c ∈ l.drop (l.idxOf 58 + 1), c < 128 := fun c h => hc c (List.mem_of_mem_drop h)
      have parse_of : ∀ n' ps', Parse l n' ps' → n' = n ∧ ∃ ws, splitC 32 (l.drop (l.idxOf 58 + 1)) = [] :: ws ∧ ws.length ≤ 200 ∧ Paired (fun w p => sayOf n w = some p) ws ps' := fun n' ps' hp => by
        obtain ⟨_, g2, g3⟩ := parse_head hp
        rw [hnum1] at g2
        cases g2
        exact ⟨rfl, g3⟩
      revert hsp0 hrl hrc parse_of
      generalize l.drop (l.idxOf 58 + 1) = rest
      intro hsp0 hrl hrc parse_of
      refine ⟨Nat.zero_le _, fun pl hpl => ?_⟩
      have s1 := Same.new (o := .lst []) hpl
      have hpl1 := upd_same (H := H) (a := pl) (o := .lst [])
      refine ⟨_, rfl, rfl, _, rfl, ?_⟩
      have hV : (V.str (⟨rest.toArray⟩ : Str) = V.str (Str.ofString "")) ↔ rest = [] := by
        rw [c0]
        constructor
        · intro z
          injection z with z
          have := congrArg (fun x : Str => x.cps.toList) z
          simpa using this
        · intro z; rw [z]
      by_cases hr0 : rest = []
      · rw [decide_eq_true (hV.mpr hr0)]
        refine iteT ⟨_, rfl, _, rfl, (by show 2 ≤ sizeLine; decide), fun t ht => ?_⟩
        have s2 := Same.new (o := .tup [.int n, .ref pl]) ht
        have hp : Parse l n [] := ⟨_, rest, [], by rw [hsp0, hr0]; rfl, hnum1, by rw [hr0]; rfl, Nat.zero_le _, .nil⟩
        exact q n [] hp t pl _ (s1.trans s2) (s1.free ht) hpl upd_same ⟨[], s2 _ _ hpl1, .nil⟩
      · rw [decide_eq_false fun z => hr0 (hV.mp z)]
        refine iteF ?_
        obtain ⟨c0', r2, rfl⟩ : ∃ c r, rest = c :: r := by
          cases rest with
          | nil => exact absurd rfl hr0
          | cons c r => exact ⟨c, r, rfl⟩
        refine ⟨_, rfl, _, _, c0', rfl, rfl, (by show (c0' :: r2).toArray.size ≤ _; rw [List.size_toArray]; omega), atI_nat (j := 0) rfl, rfl, _, rfl, ?_⟩
        by_cases h32 : c0' = 32
        · subst h32
          refine iteNS (by rw [c32]) ?_
          refine ⟨_, rfl, _, rfl, (32 :: r2), 1, rfl, by omega, .inr ⟨rfl, rfl, ?_⟩⟩
          have esp : splitC 32 (32 :: r2) = [] :: splitC 32 r2 := by rw [splitC, if_pos rfl]
          have hr2c : ∀ c ∈ r2, c < 128 := fun c h => hrc c (List.mem_cons_of_mem _ h)
          have hr2l : r2.length ≤ 2000 := by rw [List.length_cons] at hrl; omega
          have hsl := split_len 32 r2
          refine ⟨rfl, 32, splitC 32 r2, (by rw [split_gl]; rfl), (by rw [c32]), split_ne _ _, split_no _ _, by decide, (fun z hz' => by rw [split_gl] at hz'; have := hr2c z hz'; omega), (by rw [split_gl]; omega), by omega, fun wl hwl => ?_⟩
          have s2 := Same.new (o := .lst ((splitC 32 r2).map fun p => V.str ⟨p.toArray⟩)) hwl
          have hwl' := upd_same (H := upd H pl (.lst [])) (a := wl) (o := .lst ((splitC 32 r2).map fun p => V.str ⟨p.toArray⟩))
          have hpl2 := s2 _ _ hpl1
          have hwn : wl ≠ pl := fun z => by rw [z, hpl1] at hwl; cases hwl
          have hwlH : H wl = none := s1.free hwl
          have s12 := s1.trans s2
          revert hwl' hpl2 s12
          clear s2
          generalize upd (upd H pl (.lst [])) wl (.lst ((splitC 32 r2).map fun p => V.str ⟨p.toArray⟩)) = H2
          intro hwl' hpl2 s12
          have hwc : ∀ u ∈ splitC 32 r2, (∀ c ∈ u, c < 128) ∧ u.length ≤ 2000 := fun u hu => by
            obtain ⟨h1, h2⟩ := split_part 32 r2 u hu
            exact ⟨fun c hc' => hr2c c (h1 c hc'), by omega⟩
          have en : ((n : Int) - 1) = ((n - 1 : Nat) : Int) := by omega
          refine ⟨wl, rfl, ⟨_, SqL.of hwl'⟩, for_list (K := K) (a := wl) (xs := (splitC 32 r2).map fun p => V.str ⟨p.toArray⟩) (fun i σ H3 => ∃ v5 v6 v7 rs ps, σ = [some (.str ⟨l.toArray⟩), some (.int ((l.idxOf 58 : Nat) : Int)), some (.int n), some (.str ⟨(32 :: r2).toArray⟩), some (.ref pl), v5, v6, v7] ∧ Same H H3 ∧ H3 wl = some (.lst ((splitC 32 r2).map fun p => V.str ⟨p.toArray⟩)) ∧ H3 pl = some (.lst (rs.map V.ref)) ∧ Paired (Pr H3) rs ps ∧ Paired (fun w p => sayOf n w = some p) ((splitC 32 r2).take i) ps)
            ⟨none, none, none, [], [], rfl, s12, hwl', hpl2, .nil, by rw [List.take_zero]; exact .nil⟩ (fun i σ H3 _ ⟨_, _, _, _, _, _, _, h, _⟩ => SqL.of h) ?_ ?_⟩
          · rintro i y σ H3 hy ⟨v5, v6, v7, rs, ps, rfl, s3, hwl3, hpl3, hP, hS⟩
            rw [List.getElem?_map] at hy
            cases hpi : (splitC 32 r2)[i]? with
            | none => rw [hpi] at hy; cases hy
            | some u =>
              rw [hpi] at hy
              obtain rfl : y = .str ⟨u.toArray⟩ := (Option.some.inj hy).symm
              obtain ⟨hu1, hu2⟩ := hwc u (List.mem_of_getElem? hpi)
              have hat : -1 ≤ findC 62 u := by unfold findC; split <;> omega
              have hlps : ps.length ≤ 2001 := by
                have e1 := Paired.length hS
                rw [List.length_take] at e1
                omega
              have sf := sayOf_find hn (w := u)
              refine ⟨_, rfl, rfl, u, 62, rfl, (by rw [c62]), ?_⟩
              refine ⟨_, rfl, _, rfl, _, _, rfl, _, rfl, u, (findC 62 u).toNat, rfl, by omega, .inl ⟨rfl, (by rw [max0]), ?_⟩⟩
              refine ⟨_, rfl, _, _, rfl, rfl, u.take (findC 62 u).toNat, n - 1, (by rw [← en]; rfl), by omega, fun c hc' => hu1 c (List.mem_of_mem_take hc'), (by rw [List.length_take]; omega), ?_⟩
              refine ⟨_, rfl, _, rfl, _, _, rfl, rfl, _, rfl, u, (findC 62 u + 1).toNat, rfl, by omega, .inr ⟨(by congr 1; omega), rfl, ?_⟩⟩
              refine ⟨_, rfl, _, _, rfl, rfl, u.drop (findC 62 u + 1).toNat, n - 1, (by rw [← en]; rfl), by omega, fun c hc' => hu1 c (List.mem_of_mem_drop hc'), (by rw [List.length_drop]; omega), ?_⟩
              refine ⟨(by show 2 ≤ sizeLine; decide), fun t ht => ?_⟩
              revert sf
              generalize lnum (u.take (findC 62 u).toNat) (n - 1) = x
              generalize lnum (u.drop (findC 62 u + 1).toNat) (n - 1) = y'
              intro sf
              have s4 := Same.new (o := .tup [.int x, .int y']) ht
              have hbad : (findC 62 u < 0 ∨ x < 0 ∨ y' < 0) → ∀ H', Same H H' → Q .non H' := fun h => qn fun n' ps' hp => by
                obtain ⟨rfl, ws, g1, g2, g3⟩ := parse_of n' ps' hp
                rw [esp] at g1
                obtain ⟨_, rfl⟩ := List.cons.inj g1
                obtain ⟨p, hp'⟩ := Paired.to g3 hpi
                rw [sf, if_pos h] at hp'
                cases hp'
              refine ⟨_, rfl, _, _, rfl, rfl, _, rfl, ?_⟩
              by_cases hat0 : findC 62 u < 0
              · rw [decide_eq_true hat0]
                exact iteT (hbad (.inl hat0) _ (s3.trans s4))
              · rw [decide_eq_false hat0]
                refine iteF ⟨_, rfl, t, x, y', rfl, upd_same, _, _, rfl, rfl, _, rfl, ?_⟩
                by_cases hmin : x < 0 ∨ y' < 0
                · rw [decide_eq_true (by split <;> omega)]
                  exact iteT (hbad (.inr hmin) _ (s3.trans s4))
                · rw [decide_eq_false (by split <;> omega)]
                  have hpl4 := s4 _ _ hpl3
                  have e1 := Paired.length hP
                  refine iteF ⟨_, rfl, .inl ⟨rfl, _, SqL.of hpl4⟩, _, rfl, pl, _, _, rfl, rfl, hpl4, by rw [List.length_map]; omega, ?_⟩
                  refine ⟨_, _, _, rs ++ [t], ps ++ [(x, y')], rfl, (s3.trans s4).put hpl, ?_, by rw [upd_same, List.map_append]; rfl, ?_, ?_⟩
                  · rw [upd_ne hwn]
                    exact s4 _ _ hwl3
                  · refine paired_app (Paired.mapP hP fun r p h => ?_) (.cons ?_ .nil)
                    · have hr' : H3 r = some (.tup [.int p.1, .int p.2]) := h
                      show upd _ pl _ r = _
                      rw [upd_ne (ne_of hr' hpl3 (by intro z; cases z))]
                      exact s4 _ _ hr'
                    · show upd _ pl _ t = _
                      rw [upd_ne (ne_of_none hpl3 ht).symm]
                      exact upd_same
                  · rw [List.take_add_one, hpi]
                    refine paired_app hS (.cons ?_ .nil)
                    rw [sf, if_neg fun z => z.elim (fun g => hat0 g) hmin]
          · rintro σ H3 ⟨v5, v6, v7, rs, ps, rfl, s3, hwl3, hpl3, hP, hS⟩
            rw [List.length_map, List.take_length] at hS
            have e1 := Paired.length hP
            have e2 := Paired.length hS
            refine ⟨_, rfl, pl, _, rfl, .inl (SqL.of hpl3), _, _, rfl, rfl, _, rfl, ?_⟩
            by_cases h200 : ps.length ≤ 200
            · rw [decide_eq_false (by rw [List.length_map]; omega)]
              refine iteF ⟨_, rfl, _, rfl, (by show 2 ≤ sizeLine; decide), fun t ht => ?_⟩
              have s4 := Same.new (o := .tup [.int n, .ref pl]) ht
              have h58 : 58 ∉ (32 :: r2) := fun z => by
                rcases List.mem_cons.mp z with z | z
                · cases z
                · have := no58 hn hS
                  rw [split_gl] at this
                  exact this z
              have hp : Parse l n ps := ⟨_, 32 :: r2, splitC 32 r2, by rw [hsp0, split_one h58], hnum1, esp, by omega, hS⟩
              exact q n ps hp t pl _ (s3.trans s4) (s3.free ht) hpl upd_same ⟨rs, s4 _ _ hpl3, prs_same hP s4⟩
            · rw [decide_eq_true (by rw [List.length_map]; omega)]
              refine iteT (qn (fun n' ps' hp => ?_) _ s3)
              obtain ⟨rfl, ws, g1, g2, g3⟩ := parse_of n' ps' hp
              rw [esp] at g1
              obtain ⟨_, rfl⟩ := List.cons.inj g1
              omega
        · refine iteNN (fun z => h32 ?_) (qn (fun n' ps' hp => ?_) _ s1)
          · rw [c32] at z
            injection z with z
            have := congrArg (fun x : Str => x.cps.toList) z
            simpa using this
          · obtain ⟨rfl, ws, g1, g2, g3⟩ := parse_of n' ps' hp
            rw [splitC, if_neg h32] at g1
            revert g1
            cases splitC 32 r2 with
            | nil => intro g1; cases g1
            | cons a b => intro g1; cases g1
end
section
variable {P : Program} {w : World} {K : PySem.W.Frag} {mg : Str → Option Value} {base : Heap}
noncomputable def spTold (K : PySem.W.Frag) : Sp := fun vs H Q _ => ∃ (l : List Nat), vs = [.str ⟨l.toArray⟩] ∧ (∀ c ∈ l, c < 128) ∧ l.length ≤ 2000 ∧ (∀ n ps, Parse l n ps → ∀ t r H', Same H H' → H t = none → H r = none → H' t = some (.tup [.int (n : Nat), .ref r]) → PrsO H' r ps → Q (.ref t) H') ∧ ((∀ n ps, ¬ Parse l n ps) → ∀ r H', Same H H' → H' r = some (.lst [.bl true, .bl true, .bl false, .bl false, .bl false]) → Q (.ref r) H')
noncomputable abbrev sTold : Stmt := (top 19)
noncomputable abbrev nTold : List Str := ["text", "told", "e", "some"]
noncomputable abbrev pTold : List Str := ["text"]
theorem scTold : FnScope nTold pTold (defScope sTold) := ⟨rfl, rfl, rfl, by decide +kernel, rfl, by decide +kernel, by decide +kernel⟩
theorem ok_told (T : Tx K mg) : FnOk P w K mg base CX0 4 T.a__law_told T.f__law_told pTold (spTold K) := by
  have GReadX : FnOk P w K mg base (CX1 P w) 3 T.a_read T.f_read pReadX (spReadX T) := ok_readX T
  have bReadX : Binds K T.f_read pReadX [] := bd1 T.d_read.F fun _ _ _ _ _ _ _ => rfl
  refine T.d__law_told.F.ok scTold (fun vs H Q E h => ?_) (fun cdv A outer s H vs Q E hr h => ?_)
  · obtain ⟨_, rfl, _⟩ := h
    rfl
  · obtain ⟨l, rfl, hc, hl, q, qe⟩ := h
    have hz := sizeLine_eq
    refine ⟨_, (pss_cons (ps_set (i := 1) scTold.nd rfl (Or.inl rfl) pe_non)
      (pss_cons (ps_tryA (j := 1) (i := 2) rfl (Or.inl rfl) rfl rfl rfl GReadX hr rfl T.d_read.m T.d_read.F.kp bReadX (pa_cons (pv 0) pa_nil) rfl T.mc_KeenError scTold.nd rfl rfl (fun a oe => (pss_cons (ps_set (i := 3) scTold.nd rfl (Or.inl rfl) (pe_lst (pa_cons (pe_callB (call_isE rfl) (by rfl) T.B.isinstance boot_isinstance (pa_cons (pv 2) (pa_cons (pe_glob (v := .ref T.c_BadSay) rfl T.mc_BadSay rfl) pa_nil))) (pa_cons (pe_callB (call_isE rfl) (by rfl) T.B.isinstance boot_isinstance (pa_cons (pv 2) (pa_cons (pe_glob (v := .ref T.c_NoSay) rfl T.mc_NoSay rfl) pa_nil))) (pa_cons (pe_callB (call_isE rfl) (by rfl) T.B.isinstance boot_isinstance (pa_cons (pv 2) (pa_cons (pe_glob (v := .ref T.c_NoWidth) rfl T.mc_NoWidth rfl) pa_nil))) pa_nil)))))
      (pss_one (ps_set (i := 1) scTold.nd rfl (Or.inl rfl) (pe_op op_cat (pe_lst (pa_cons (pe_callB (call_isE rfl) (by rfl) T.B.isinstance boot_isinstance (pa_cons (pv 2) (pa_cons (pe_glob (v := .ref T.c_BadLine) rfl T.mc_BadLine rfl) pa_nil))) (pa_cons (pe_callB (call_isE rfl) (by rfl) T.B.isinstance boot_isinstance (pa_cons (pv 2) (pa_cons (pe_bltn (v := .ty "ValueError") (by rfl) T.B.ValueError (by decide +kernel) rfl) pa_nil))) pa_nil))) (pv 3)))))))
      (pss_one (ps_ret (pv 1))))), ?_⟩
    refine ⟨_, rfl, l, rfl, hc, hl, (fun n ps hp t r H' s' ht hr' e1 e2 => ⟨_, rfl, q n ps hp t r H' s' ht hr' e1 e2⟩), (fun hno H2 s2 => ⟨T.c_BadLine, rfl, T.em_BadLine, fun a oe na xo => ?_⟩)⟩
    refine ⟨_, rfl, T.c_BadLine, _, _, false, rfl, (fun _ r => r), xo, T.ki_BadLine, T.kk_BadLine_BadSay, _, rfl, T.c_BadLine, _, _, false, rfl, (fun _ r => r), xo, T.ki_BadLine, T.kk_BadLine_NoSay, _, rfl, T.c_BadLine, _, _, false, rfl, (fun _ r => r), xo, T.ki_BadLine, T.kk_BadLine_NoWidth, (by show 3 ≤ sizeLine; decide), fun l1 hl1 => ?_⟩
    have s3 := Same.new (o := .lst [.bl false, .bl false, .bl false]) hl1
    refine ⟨_, rfl, T.c_BadLine, _, _, true, rfl, (fun _ r => r), xo, T.ki_BadLine, T.kk_BadLine_BadLine, _, rfl, T.c_BadLine, _, _, true, rfl, (fun _ r => r), xo, T.ki_BadLine, T.kv_BadLine, (by show 2 ≤ sizeLine; decide), fun l2 hl2 => ?_⟩
    have s4 := Same.new (o := .lst [.bl true, .bl true]) hl2
    refine ⟨_, rfl, l2, l1, _, _, rfl, rfl, upd_same, s4 _ _ upd_same, (by show 2 + 3 ≤ sizeLine; decide), fun l3 hl3 => ?_⟩
    have s5 := Same.new (o := .lst [.bl true, .bl true, .bl false, .bl false, .bl false]) hl3
    exact ⟨_, rfl, qe hno l3 _ (s2.trans (s3.trans (s4.trans s5))) upd_same⟩
end
noncomputable def Asc (z : Str) (n : Nat) : Prop := (∀ c ∈ z.cps.toList, c < 128) ∧ z.length ≤ n
theorem Asc.app {a b : Str} {m n : Nat} (ha : Asc a m) (hb : Asc b n) : Asc (a ++ b) (m + n) := by
  refine ⟨fun c hc => ?_, app_le ha.2 hb.2⟩
  have : c ∈ (a.cps ++ b.cps).toList := hc
  rw [Array.toList_append] at this
  rcases List.mem_append.mp this with h | h
  · exact ha.1 c h
  · exact hb.1 c h
theorem str_eta (z : Str) : (⟨z.cps.toList.toArray⟩ : Str) = z := by
  obtain ⟨⟨l⟩⟩ := z
  rfl
theorem Asc.len {z : Str} {n : Nat} (h : Asc z n) : z.cps.toList.length ≤ n := by
  rw [Array.length_toList]
  exact h.2
theorem Asc.tx {l : List Nat} {n : Nat} (h : ∀ c ∈ l, c < 128) (hl : l.length ≤ n) : Asc (tx l) n := ⟨h, by rw [tx_len]; exact hl⟩
noncomputable def ascB (z : Str) (n : Nat) : Bool := z.cps.all (fun c => decide (c < 128)) && decide (z.length ≤ n)
theorem Asc.ofB {z : Str} {n : Nat} (h : ascB z n = true) : Asc z n := by
  unfold ascB at h
  rw [Bool.and_eq_true, decide_eq_true_eq, ← Array.all_toList, List.all_eq_true] at h
  exact ⟨fun c hc => of_decide_eq_true (h.1 c hc), h.2⟩
theorem dec13 : ((List.range 14).all fun k => ascB (dS (k : Int)) 2) = true := by decide +kernel
theorem Asc.dec {i : Int} (h0 : 0 ≤ i) (h : i ≤ 13) : Asc (dS i) 2 := by
  have := List.all_eq_true.mp dec13 i.toNat (List.mem_range.mpr (by omega))
  rw [Int.toNat_of_nonneg h0] at this
  exact .ofB this
theorem small13 {i : Int} (h0 : 0 ≤ i) (h : i ≤ 13) : i.natAbs.log2 < 1920 := Nat.lt_of_le_of_lt (Nat.log2_le_self _) (by omega)
/-- a sign of a text -/
theorem sign_at {z : Str} {n : Nat} {i : Int} (hn : z.length = n) (ha : Asc z n) (h0 : 0 ≤ i) (h1 : i < n) : ∃ c, atI z.cps.toList i = some c ∧ c < 128 := by
  have hl : i.toNat < z.cps.toList.length := by
    rw [Array.length_toList]
    have : z.cps.size = n := hn
    omega
  refine ⟨z.cps.toList[i.toNat], ?_, ha.1 _ (List.getElem_mem hl)⟩
  have := atI_nat (xs := z.cps.toList) (j := i.toNat) (List.getElem?_eq_getElem hl)
  rw [Int.toNat_of_nonneg h0] at this
  exact this
noncomputable def okV (n : Nat) : V → Bool
  | .str z => ascB z n
  | _ => false
noncomputable def strV : Option V → Str
  | some (.str z) => z
  | _ => Str.empty
theorem pick_at {n k : Nat} {xs : List V} {i : Int} (ha : xs.all (okV n) = true) (hl : xs.length = k) (h0 : 0 ≤ i) (h1 : i < k) : atI xs i = some (.str (strV (atI xs i))) ∧ Asc (strV (atI xs i)) n := by
  have hlt : i.toNat < xs.length := by omega
  have e := atI_nat (xs := xs) (j := i.toNat) (List.getElem?_eq_getElem hlt)
  rw [Int.toNat_of_nonneg h0] at e
  have ho := List.all_eq_true.mp ha _ (List.getElem_mem hlt)
  rw [e]
  revert ho
  generalize xs[i.toNat] = v
  intro ho
  cases v with
  | str z => exact ⟨rfl, .ofB ho⟩
  | _ => cases ho
section
variable {P : Program} {w : World} {K : PySem.W.Frag} {mg : Str → Option Value} {base : Heap}
noncomputable def spSg (_ : PySem.W.Frag) : Sp := fun vs H Q _ => ∃ i : Int, vs = [.int i] ∧ ∀ z, Asc z 1 → Q (.str z) H
noncomputable abbrev sSg : Stmt := (top 15)
noncomputable abbrev nSg : List Str := ["cell", "signs"]
noncomputable abbrev pSg : List Str := ["cell"]
theorem scSg : FnScope nSg pSg (defScope sSg) := ⟨rfl, rfl, rfl, by decide +kernel, rfl, by decide +kernel, by decide +kernel⟩
theorem one_asc {c : Nat} (h : c < 128) : Asc ⟨#[c]⟩ 1 := ⟨fun a ha => by
  have : a = c := by simpa using ha
  omega, Nat.le_refl _⟩
theorem ok_sg (T : Tx K mg) : FnOk P w K mg base CX0 1 T.a__law_sign_by T.f__law_sign_by pSg (spSg K) := by
  refine T.d__law_sign_by.F.ok scSg (fun vs H Q E h => ?_) (fun cdv A outer s H vs Q E hr h => ?_)
  · obtain ⟨_, rfl, _⟩ := h
    rfl
  · obtain ⟨i, rfl, q⟩ := h
    have hz := sizeLine_eq
    refine ⟨_, (pss_cons (ps_if (pt_cmpR op_eq (pe_op op_mod (pv 0) pe_int) pe_int (nomark _)) (pss_one (ps_ret (pe_ix ix_str pe_str (pe_op op_mod (pe_op op_fdiv (pv 0) pe_int) pe_int) (fun _ _ => rfl)))) pss_nil)
      (pss_cons (ps_set (i := 1) scSg.nd rfl (Or.inl rfl) pe_str)
      (pss_cons (ps_set (i := 1) scSg.nd rfl (Or.inl rfl) (pe_op op_catS (pv 1) pe_str))
      (pss_one (ps_ret (pe_ix ix_str (pv 1) (pe_op op_mod (pe_op op_fdiv (pv 0) pe_int) pe_int) (fun _ _ => rfl))))))), ?_⟩
    refine ⟨_, rfl, _, _, rfl, rfl, (by decide : (0 : Int) < 2), rfl, _, rfl, ite2 (fun _ => ?_) (fun _ => ?_)⟩
    · obtain ⟨c, h1, h2⟩ := sign_at (z := Str.ofString "0123456789 :>01>") (n := 16) (i := i / 2 % 16) (by decide +kernel) (.ofB (by decide +kernel)) (Int.emod_nonneg _ (by decide)) (Int.emod_lt_of_pos _ (by decide))
      have l0 : (Str.ofString "0123456789 :>01>").length = 16 := by decide +kernel
      exact ⟨_, rfl, _, _, rfl, rfl, ⟨by decide, by decide⟩, _, _, rfl, rfl, (by decide : (0 : Int) < 16), _, _, c, rfl, rfl, (by omega), h1, q _ (one_asc h2)⟩
    · have a1 : Asc (Str.ofString " !\"#$&'()*+,-./0123456789:;<=>?@ABCDEFGHIJKLMNOPQRSTUVWXYZ[\\]^_`" ++ Str.ofString "abcdefghijklmnopqrstuvwxyz{|}~") 94 := .ofB (by decide +kernel)
      have l1 : (Str.ofString " !\"#$&'()*+,-./0123456789:;<=>?@ABCDEFGHIJKLMNOPQRSTUVWXYZ[\\]^_`" ++ Str.ofString "abcdefghijklmnopqrstuvwxyz{|}~").length = 94 := by decide +kernel
      obtain ⟨c, h1, h2⟩ := sign_at (i := i / 2 % 94) l1 a1 (Int.emod_nonneg _ (by decide)) (Int.emod_lt_of_pos _ (by decide))
      refine ⟨_, rfl, _, _, rfl, rfl, (by rw [← strLen_append, l1]; omega), ?_⟩
      exact ⟨_, rfl, _, rfl, _, _, rfl, rfl, ⟨by decide, by decide⟩, _, _, rfl, rfl, (by decide : (0 : Int) < 94), _, _, c, rfl, rfl, (by rw [l1]; omega), h1, q _ (one_asc h2)⟩
noncomputable def spSp (_ : PySem.W.Frag) : Sp := fun vs H Q _ => ∃ (l : List Nat) (c o : Int), vs = [.str ⟨l.toArray⟩, .int c, .int o] ∧ (∀ c ∈ l, c < 128) ∧ l.length ≤ 500 ∧ ∀ z, Asc z 1001 → Q (.str z) H
noncomputable abbrev sSp : Stmt := (top 20)
noncomputable abbrev nSp : List Str := ["text", "cell", "other", "at"]
noncomputable abbrev pSp : List Str := ["text", "cell", "other"]
theorem scSp : FnScope nSp pSp (defScope sSp) := ⟨rfl, rfl, rfl, by decide +kernel, rfl, by decide +kernel, by decide +kernel⟩
theorem ok_sp (T : Tx K mg) : FnOk P w K mg base CX0 2 T.a__law_spoiled T.f__law_spoiled pSp (spSp K) := by
  have GSg : FnOk P w K mg base CX0 1 T.a__law_sign_by T.f__law_sign_by pSg (spSg K) := ok_sg T
  have bSg : Binds K T.f__law_sign_by pSg [] := bd1 T.d__law_sign_by.F fun _ _ _ _ _ _ _ => rfl
  refine T.d__law_spoiled.F.ok scSp (fun vs H Q E h => ?_) (fun cdv A outer s H vs Q E hr h => ?_)
  · obtain ⟨_, _, _, rfl, _⟩ := h
    rfl
  · obtain ⟨l, c, o, rfl, hc, hl, q⟩ := h
    have hz := sizeLine_eq
    refine ⟨_, (pss_cons (ps_set (i := 3) scSp.nd rfl (Or.inl rfl) (pe_op op_mod (pe_op op_fdiv (pv 1) pe_int) (pe_op op_add (pe_callB call_len_str (by rfl) T.B.len PySem.boot_len (pa_cons (pv 0) pa_nil)) pe_int)))
      (pss_cons (ps_if (pt_cmpR op_eq (pe_op op_mod (pv 1) pe_int) pe_int (nomark _)) (pss_one (ps_ret (pe_op op_catS (pe_slice sl_str (pv 0) po_none (po_some (pv 3))) (pe_slice sl_str (pv 0) (po_some (pe_op op_add (pv 3) pe_int)) po_none)))) pss_nil)
      (pss_cons (ps_if (pt_cmpR op_eq (pe_op op_mod (pv 1) pe_int) pe_int (nomark _)) (pss_one (ps_ret (pe_op op_catS (pe_op op_catS (pe_slice sl_str (pv 0) po_none (po_some (pv 3))) (pe_call GSg hr rfl T.d__law_sign_by.m T.d__law_sign_by.F.kp bSg .nil pass0 (pa_cons (pv 2) pa_nil))) (pe_slice sl_str (pv 0) (po_some (pe_op op_add (pv 3) pe_int)) po_none)))) pss_nil)
      (pss_one (ps_ret (pe_op op_catS (pe_op op_catS (pe_slice sl_str (pv 0) po_none (po_some (pv 3))) (pe_call GSg hr rfl T.d__law_sign_by.m T.d__law_sign_by.F.kp bSg .nil pass0 (pa_cons (pv 2) pa_nil))) (pe_slice sl_str (pv 0) (po_some (pv 3)) po_none))))))), ?_⟩
    have hwl : (⟨l.toArray⟩ : Str).length = l.length := tx_len l
    refine ⟨_, rfl, _, _, rfl, rfl, ⟨by decide, by decide⟩, _, rfl, _, rfl, by omega, _, _, rfl, rfl, _, _, rfl, rfl, (by rw [hwl]; omega), ?_⟩
    dsimp only
    rw [hwl]
    have ha1 := Int.emod_nonneg (c / 3) (b := (l.length : Int) + 1) (by omega)
    have ha2 := Int.emod_lt_of_pos (c / 3) (b := (l.length : Int) + 1) (by omega)
    revert ha1 ha2
    generalize c / 3 % ((l.length : Int) + 1) = at0
    intro ha1 ha2
    obtain ⟨j, rfl⟩ : ∃ j : Nat, at0 = j := ⟨at0.toNat, by omega⟩
    have hta : Asc (tx (l.take j)) 500 := .tx (fun c h => hc c (List.mem_of_mem_take h)) (by rw [List.length_take]; omega)
    have hda : ∀ k, Asc (tx (l.drop k)) 500 := fun k => .tx (fun c h => hc c (List.mem_of_mem_drop h)) (by rw [List.length_drop]; omega)
    refine ⟨_, rfl, _, _, rfl, rfl, (by decide : (0 : Int) < 3), rfl, _, rfl, ite2 (fun _ => ?_) (fun _ => ?_)⟩
    · refine ⟨_, rfl, _, rfl, _, rfl, l, j, rfl, by omega, .inl ⟨rfl, rfl, ?_⟩⟩
      refine ⟨_, rfl, _, rfl, _, _, rfl, rfl, _, rfl, l, j + 1, rfl, by omega, .inr ⟨rfl, rfl, _, _, rfl, rfl, ?_, ?_⟩⟩
      · exact Nat.le_trans (Nat.add_le_add hta.2 (hda (j + 1)).2) (by omega)
      · have := hta.app (hda (j + 1))
        exact q _ ⟨this.1, Nat.le_trans this.2 (by decide)⟩
    · refine ⟨_, rfl, _, _, rfl, rfl, (by decide : (0 : Int) < 3), rfl, _, rfl, ite2 (fun _ => ?_) (fun _ => ?_)⟩
      · refine ⟨_, rfl, _, rfl, _, rfl, l, j, rfl, by omega, .inl ⟨rfl, rfl, _, rfl, o, rfl, fun z hz1 => ?_⟩⟩
        refine ⟨_, _, rfl, rfl, (Nat.le_trans (Nat.add_le_add hta.2 hz1.2) (by omega)), ?_⟩
        have h2 := hta.app hz1
        refine ⟨_, rfl, _, rfl, _, _, rfl, rfl, _, rfl, l, j + 1, rfl, by omega, .inr ⟨rfl, rfl, _, _, rfl, rfl, (Nat.le_trans (Nat.add_le_add h2.2 (hda (j + 1)).2) (by omega)), ?_⟩⟩
        exact q _ (h2.app (hda (j + 1)))
      · refine ⟨_, rfl, _, rfl, _, rfl, l, j, rfl, by omega, .inl ⟨rfl, rfl, _, rfl, o, rfl, fun z hz1 => ?_⟩⟩
        refine ⟨_, _, rfl, rfl, (Nat.le_trans (Nat.add_le_add hta.2 hz1.2) (by omega)), ?_⟩
        have h2 := hta.app hz1
        refine ⟨_, rfl, _, rfl, _, rfl, l, j, rfl, by omega, .inr ⟨rfl, rfl, _, _, rfl, rfl, (Nat.le_trans (Nat.add_le_add h2.2 (hda j).2) (by omega)), ?_⟩⟩
        exact q _ (h2.app (hda j))
end
noncomputable def cstr : Expr → Option Str
  | .Constant (.str x) _ _ => some x
  | _ => none
noncomputable def cstrs : List Expr → Option (List Str)
  | [] => some []
  | e :: es => match cstr e, cstrs es with
    | some x, some xs => some (x :: xs)
    | _, _ => none
/-- texts that are written -/
theorem pa_strs {X : Cx} : ∀ {es : List Expr} {zs : List Str}, cstrs es = some zs → PA X es (fun _ H Q => Q (zs.map V.str) H)
  | [], zs, h => by
    cases h
    exact pa_nil
  | e :: es, zs, h => by
    unfold cstrs at h
    cases h1 : cstr e with
    | none => rw [h1] at h; cases h
    | some x =>
      cases h2 : cstrs es with
      | none => rw [h1, h2] at h; cases h
      | some xs =>
        rw [h1, h2] at h
        cases h
        unfold cstr at h1
        split at h1
        · cases h1
          exact pa_cons pe_str (pa_strs h2)
        · cases h1
section
variable {P : Program} {w : World} {K : PySem.W.Frag} {mg : Str → Option Value} {base : Heap}
noncomputable abbrev oddA : List Str := ["", ":", "3", "3:", "3: ", "3:0>1", "3 : 0>1", " 3: 0>1", "3: 0>1 ", "3:  0>1", "3: 0 > 1", "3: 0>"]
noncomputable abbrev oddB : List Str := ["3: >1", "3: 0>1>2", "03: 0>1", "3: 00>1", "3: 1_0>1", "12: 1_0>1", "3: +1>0", "3: 0>-1", "0:"]
noncomputable def spOdd (_ : PySem.W.Frag) : Sp := fun vs H Q _ => ∃ i : Int, vs = [.int i] ∧ ∀ z H', Asc z 20 → Same H H' → Q (.str z) H'
noncomputable abbrev sOdd : Stmt := (top 16)
noncomputable abbrev nOdd : List Str := ["cell", "some"]
noncomputable abbrev pOdd : List Str := ["cell"]
theorem scOdd : FnScope nOdd pOdd (defScope sOdd) := ⟨rfl, rfl, rfl, by decide +kernel, rfl, by decide +kernel, by decide +kernel⟩
theorem ok_odd (T : Tx K mg) : FnOk P w K mg base CX0 1 T.a__law_odd T.f__law_odd pOdd (spOdd K) := by
  refine T.d__law_odd.F.ok scOdd (fun vs H Q E h => ?_) (fun cdv A outer s H vs Q E hr h => ?_)
  · obtain ⟨_, rfl, _⟩ := h
    rfl
  · obtain ⟨i, rfl, q⟩ := h
    have hz := sizeLine_eq
    have eb : defBody (top 16) = _ :: _ :: _ :: [] := rfl
    rw [eb]
    with_reducible refine Exists.intro (tSeq ?t1 (tSeq ?t2 ?t3)) (And.intro (pss_cons ?d1 (pss_cons ?d2 (pss_one ?d3))) ?rest)
    case d1 =>
      with_reducible refine ps_set (i := 1) ?n1 ?a1 ?b1 (pe_lst (pa_strs (zs := oddA) ?c1)) ?e1 ?f1
      case n1 => exact scOdd.nd
      case a1 => rfl
      case b1 => exact Or.inl rfl
      case c1 => rfl
      case e1 => rfl
      case f1 => exact .inl rfl
    case d2 =>
      with_reducible refine ps_set (i := 1) ?n2 ?a2 ?b2 (pe_op (ta := tVar 1) op_cat ?v2 (pe_lst (pa_strs (zs := oddB) ?c2))) ?e2 ?f2
      case n2 => exact scOdd.nd
      case a2 => rfl
      case b2 => exact Or.inl rfl
      case c2 => rfl
      case e2 => rfl
      case f2 => exact .inl rfl
      case v2 => exact pv 1
    case d3 =>
      with_reducible refine ps_ret (te := tOp (rIxL K) (tVar 1) (tOp (rI (fun _ j => 0 < j) fun i j => V.int (i % j)) (tVar 0) (tC (V.int 21)))) ?r3
      case r3 => exact pe_ix (ixL (K := K) rfl) (pv 1) (pe_op op_mod (pv 0) pe_int) (fun _ _ => rfl)
    case rest =>
      refine ⟨(by show 12 ≤ sizeLine; decide), fun l1 hl1 => ?_⟩
      refine ⟨_, rfl, (by show 9 ≤ sizeLine; decide), fun l2 hl2 => ⟨l1, l2, _, _, rfl, rfl, (Same.new hl2) _ _ upd_same, upd_same, (by show 12 + 9 ≤ sizeLine; decide), fun l3 hl3 => ?_⟩⟩
      have hi0 : 0 ≤ i % 21 := Int.emod_nonneg _ (by decide)
      have hi1 : i % 21 < (21 : Nat) := Int.emod_lt_of_pos _ (by decide)
      exact ⟨_, rfl, _, rfl, _, _, rfl, rfl, (by decide : (0 : Int) < 21), l3, _, _, _, rfl, rfl, SqL.of upd_same, (pick_at (n := 20) (k := 21) (by decide +kernel) (by rfl) hi0 hi1).1, q _ _ (pick_at (n := 20) (k := 21) (by decide +kernel) (by rfl) hi0 hi1).2 ((Same.new hl1).trans ((Same.new hl2).trans (Same.new hl3)))⟩
end
theorem kitT (K : PySem.W.Frag) : PySem.W.kitOne K (.type "tuple") (.type "tuple") = some true := by rfl
theorem eq_pairs {K : PySem.W.Frag} {H : Hp} : ∀ {ps : List (Int × Int)} {rs rs' : List Addr}, Paired (Pr H) rs ps → Paired (Pr H) rs' ps → Paired (EqT K H 1) (rs.map V.ref) (rs'.map V.ref)
  | [], _, _, h, h' => by
    cases h
    cases h'
    exact .nil
  | p :: ps, _, _, h, h' => by
    cases h with
    | cons a t =>
      cases h' with
      | cons a' t' =>
        refine .cons (EqT.seq (.inr ⟨SqT.of a, SqT.of a'⟩) (.cons (EqT.flat rfl (by simp [eqV])) (.cons (EqT.flat rfl (by simp [eqV])) .nil))) (eq_pairs t t')
theorem parse_one {l : List Nat} {n n' : Nat} {ps ps' : List (Int × Int)} (h : Parse l n ps) (h' : Parse l n' ps') : n' = n ∧ ps' = ps := by
  obtain ⟨a, r, ws, e1, e2, e3, e4, e5⟩ := h
  obtain ⟨a', r', ws', f1, f2, f3, f4, f5⟩ := h'
  rw [e1] at f1
  obtain ⟨rfl, z⟩ := List.cons.inj f1
  obtain ⟨rfl, _⟩ := List.cons.inj z
  rw [e2] at f2
  cases f2
  rw [e3] at f3
  obtain ⟨_, rfl⟩ := List.cons.inj f3
  refine ⟨rfl, ?_⟩
  clear e1 e2 e3 e4 f4 f3 f1
  induction e5 generalizing ps' with
  | nil => cases f5; rfl
  | cons h t ih =>
    cases f5 with
    | cons h' t' =>
      rw [h] at h'
      cases h'
      rw [ih t']
section
variable {P : Program} {w : World} {K : PySem.W.Frag} {mg : Str → Option Value} {base : Heap}
noncomputable abbrev sLaw : Stmt := (top 21)
noncomputable abbrev nLaw : List Str := ["script", "many", "text", "k", "cell", "due", "found"]
noncomputable abbrev pLaw : List Str := ["script"]
theorem scLaw : FnScope nLaw pLaw (defScope sLaw) := ⟨rfl, rfl, rfl, by decide +kernel, rfl, by decide +kernel, by decide +kernel⟩
theorem ok_law (T : Tx K mg) : FnOk P w K mg base CX0 5 T.a_law T.f_law pLaw (spLaw K) := by
  have GCell : FnOk P w K mg base CX0 1 T.a__law_cell_at T.f__law_cell_at pCell (spCell K) := ok_cell T.d__law_cell_at T.B
  have bCell : Binds K T.f__law_cell_at pCell [] := bd2 T.d__law_cell_at.F fun _ _ _ _ _ _ _ _ => rfl
  have GSp : FnOk P w K mg base CX0 2 T.a__law_spoiled T.f__law_spoiled pSp (spSp K) := ok_sp T
  have bSp : Binds K T.f__law_spoiled pSp [] := bd3 T.d__law_spoiled.F fun _ _ _ _ _ _ _ _ _ => rfl
  have GOdd : FnOk P w K mg base CX0 1 T.a__law_odd T.f__law_odd pOdd (spOdd K) := ok_odd T
  have bOdd : Binds K T.f__law_odd pOdd [] := bd1 T.d__law_odd.F fun _ _ _ _ _ _ _ => rfl
  have GDue : FnOk P w K mg base CX0 2 T.a__law_due T.f__law_due pDue (spDue K) := ok_due T
  have bDue : Binds K T.f__law_due pDue [] := bd1 T.d__law_due.F fun _ _ _ _ _ _ _ => rfl
  have GTold : FnOk P w K mg base CX0 4 T.a__law_told T.f__law_told pTold (spTold K) := ok_told T
  have bTold : Binds K T.f__law_told pTold [] := bd1 T.d__law_told.F fun _ _ _ _ _ _ _ => rfl
  have GWhole : FnOk P w K mg base CX0 1 T.a__law_whole T.f__law_whole pWhole (spWhole K) := ok_whole T.d__law_whole T.B
  have bWhole : Binds K T.f__law_whole pWhole [] := bd1 T.d__law_whole.F fun _ _ _ _ _ _ _ => rfl
  refine T.d_law.F.ok scLaw (fun vs H Q E h => ?_) (fun cdv A outer s H vs Q E hr h => ?_)
  · obtain ⟨_, _, rfl, _⟩ := h
    rfl
  · obtain ⟨a, ns, rfl, hS, hlen, q⟩ := h
    have hz := sizeLine_eq
    have hu1 := Nat.lt_of_le_of_lt (Nat.add_le_add_left (by decide : 0 + 1 ≤ 64) _) hr.units
    have hu3 := Nat.lt_of_le_of_lt (Nat.add_le_add_left (by decide : 2 + 1 ≤ 64) _) hr.units
    have hr1 : Room 1 _ := hr.mono (by decide)
    have hr2 : Room 2 _ := hr.mono (by decide)
    refine ⟨_, (pss_cons (ps_set (i := 1) scLaw.nd rfl (Or.inl rfl) (pe_op op_add pe_int (pe_op op_mod (pe_call GCell hr1 rfl T.d__law_cell_at.m T.d__law_cell_at.F.kp bCell .nil pass0 (pa_cons (pv 0) (pa_cons pe_int pa_nil))) pe_int)))
      (pss_cons (ps_set (i := 2) scLaw.nd rfl (Or.inl rfl) (pe_op op_catS (pe_callTy call_strI (by rfl) T.B.str (by decide +kernel) (pa_cons (pv 1) pa_nil)) pe_str))
      (pss_cons (ps_for PassesOwn.never rfl (pi_range1 rfl T.B.range (pa_cons (pe_op op_mod (pe_call GCell hr1 rfl T.d__law_cell_at.m T.d__law_cell_at.F.kp bCell .nil pass0 (pa_cons (pv 0) (pa_cons pe_int pa_nil))) pe_int) pa_nil)) (pg_name (i := 3) scLaw.nd rfl (Or.inl rfl)) (pss_cons (ps_set (i := 4) scLaw.nd rfl (Or.inl rfl) (pe_call GCell hr1 rfl T.d__law_cell_at.m T.d__law_cell_at.F.kp bCell .nil pass0 (pa_cons (pv 0) (pa_cons (pe_op op_add pe_int (pv 3)) pa_nil))))
      (pss_one (ps_set (i := 2) scLaw.nd rfl (Or.inl rfl) (pe_op op_catS (pe_op op_catS (pe_op op_catS (pe_op op_catS (pv 2) pe_str) (pe_callTy call_strI (by rfl) T.B.str (by decide +kernel) (pa_cons (pe_op op_mod (pv 4) (pe_op op_add (pv 1) pe_int)) pa_nil))) pe_str) (pe_callTy call_strI (by rfl) T.B.str (by decide +kernel) (pa_cons (pe_op op_mod (pe_op op_fdiv (pv 4) pe_int) (pv 1)) pa_nil)))))))
      (pss_cons (ps_cut (ps_if (pt_cmpR op_gt (pe_op op_mod (pe_call GCell hr1 rfl T.d__law_cell_at.m T.d__law_cell_at.F.kp bCell .nil pass0 (pa_cons (pv 0) (pa_cons pe_int pa_nil))) pe_int) pe_int (nomark _)) (pss_one (ps_set (i := 2) scLaw.nd rfl (Or.inl rfl) (pe_call GSp hr2 rfl T.d__law_spoiled.m T.d__law_spoiled.F.kp bSp .nil pass0 (pa_cons (pv 2) (pa_cons (pe_call GCell hr1 rfl T.d__law_cell_at.m T.d__law_cell_at.F.kp bCell .nil pass0 (pa_cons (pv 0) (pa_cons pe_int pa_nil))) (pa_cons (pe_call GCell hr1 rfl T.d__law_cell_at.m T.d__law_cell_at.F.kp bCell .nil pass0 (pa_cons (pv 0) (pa_cons pe_int pa_nil))) pa_nil)))))) pss_nil))
      (pss_cons (ps_cut (ps_if (pt_cmpR op_eq (pe_op op_mod (pe_op op_fdiv (pe_call GCell hr1 rfl T.d__law_cell_at.m T.d__law_cell_at.F.kp bCell .nil pass0 (pa_cons (pv 0) (pa_cons pe_int pa_nil))) pe_int) pe_int) pe_int (nomark _)) (pss_one (ps_set (i := 2) scLaw.nd rfl (Or.inl rfl) (pe_call GOdd hr1 rfl T.d__law_odd.m T.d__law_odd.F.kp bOdd .nil pass0 (pa_cons (pe_call GCell hr1 rfl T.d__law_cell_at.m T.d__law_cell_at.F.kp bCell .nil pass0 (pa_cons (pv 0) (pa_cons pe_int pa_nil))) pa_nil)))) pss_nil))
      (pss_cons (ps_cut (ps_if (pt_cmpR op_eq (pe_op op_mod (pe_op op_fdiv (pe_call GCell hr1 rfl T.d__law_cell_at.m T.d__law_cell_at.F.kp bCell .nil pass0 (pa_cons (pv 0) (pa_cons pe_int pa_nil))) pe_int) pe_int) pe_int (nomark _)) (pss_one (ps_set (i := 2) scLaw.nd rfl (Or.inl rfl) (pe_op op_catS pe_str (pe_op op_mulS pe_str (pe_op op_add pe_int (pe_op op_mod (pe_call GCell hr1 rfl T.d__law_cell_at.m T.d__law_cell_at.F.kp bCell .nil pass0 (pa_cons (pv 0) (pa_cons pe_int pa_nil))) pe_int)))))) pss_nil))
      (pss_cons (ps_set (i := 5) scLaw.nd rfl (Or.inl rfl) (pe_call GDue hr2 rfl T.d__law_due.m T.d__law_due.F.kp bDue .nil pass0 (pa_cons (pv 2) pa_nil)))
      (pss_cons (ps_set (i := 6) scLaw.nd rfl (Or.inl rfl) (pe_call GTold hr rfl T.d__law_told.m T.d__law_told.F.kp bTold .nil pass0 (pa_cons (pv 2) pa_nil)))
      (pss_cons (ps_if (pt_cmpR op_isN (pv 5) pe_non (nomark _)) (pss_one (ps_ret (pe_cmpR (op_eqS (n := 0) hu1) (pv 6) (pe_lst (pa_cons pe_bl (pa_cons pe_bl (pa_cons pe_bl (pa_cons pe_bl (pa_cons pe_bl pa_nil)))))) (nomark _)))) pss_nil)
      (pss_cons (ps_if (PW.pt (pw_or (pt_not (pt_val (pe_callB (isinS (K := K) rfl) (by rfl) T.B.isinstance boot_isinstance (pa_cons (pv 6) (pa_cons (pe_bltn (v := .ty "tuple") (by rfl) T.B.tuple PyProof.Rows.boot_tuple rfl) pa_nil)))))
        (pw_or (pt_cmpR op_ne (pe_callB (lenS (K := K) rfl) (by rfl) T.B.len PySem.boot_len (pa_cons (pv 6) pa_nil)) pe_int (nomark _))
        (pw_or (pt_not (pt_val (pe_call GWhole hr1 rfl T.d__law_whole.m T.d__law_whole.F.kp bWhole .nil pass0 (pa_cons (pe_ix (ixT (K := K) rfl) (pv 6) pe_int (fun _ _ => rfl)) pa_nil)))) (pw_or1 (pt_cmpR (op_neS (n := 2) hu3) (pv 6) (pv 5) (nomark _))))))) (pss_one (ps_ret pe_bl)) pss_nil)
      (pss_one (ps_ret (pe_callB (isinS (K := K) rfl) (by rfl) T.B.isinstance boot_isinstance (pa_cons (pe_ix (ixT (K := K) rfl) (pv 6) pe_int (fun _ _ => rfl)) (pa_cons (pe_bltn (v := .ty "list") (by rfl) T.B.list PyProof.Rows.boot_list rfl) pa_nil))))))))))))))), ?_⟩
    refine ⟨_, rfl, a, ns, 0, rfl, hS, by decide, _, _, rfl, rfl, (by decide : (0 : Int) < 13), _, _, rfl, rfl, ?_⟩
    dsimp only
    generalize hM : 1 + cell ns 0 % 13 = M
    have hM1 : 1 ≤ M := by omega
    have hM2 : M ≤ 13 := by omega
    have aC : Asc (Str.ofString ":") 1 := .ofB (by decide +kernel)
    have aB : Asc (Str.ofString " ") 1 := .ofB (by decide +kernel)
    have aG : Asc (Str.ofString ">") 1 := .ofB (by decide +kernel)
    have aM : Asc (dS M) 2 := .dec (by omega) hM2
    refine ⟨_, rfl, _, rfl, small13 (by omega) hM2, _, _, rfl, rfl, Nat.le_trans (Nat.add_le_add aM.2 aC.2) (by omega), ?_⟩
    refine ⟨_, rfl, a, ns, 1, rfl, hS, by decide, _, _, rfl, rfl, (by decide : (0 : Int) < 7), _, rfl, by omega, by omega, ?_⟩
    refine for_range (fun i σ H3 => ∃ z v3 v4, σ = [some (.ref a), some (.int M), some (.str z), v3, v4, none, none] ∧ H3 = H ∧ Asc z (3 + 6 * i)) ⟨_, none, none, rfl, rfl, aM.app aC⟩ ?_ ?_
    · rintro i σ H3 hi ⟨z, v3, v4, rfl, rfl, az⟩
      have hi7 : i ≤ 7 := by omega
      refine ⟨_, rfl, _, rfl, _, _, rfl, rfl, a, ns, _, rfl, hS, by omega, ?_⟩
      have x0 := Int.emod_nonneg (cell ns (6 + (0 + (i : Int)))) (b := M + 1) (by omega)
      have x1 := Int.emod_lt_of_pos (cell ns (6 + (0 + (i : Int)))) (b := M + 1) (by omega)
      have y0 := Int.emod_nonneg (cell ns (6 + (0 + (i : Int))) / 14) (b := M) (by omega)
      have y1 := Int.emod_lt_of_pos (cell ns (6 + (0 + (i : Int))) / 14) (b := M) (by omega)
      have a1 := az.app aB
      have aX : Asc (dS (cell ns (6 + (0 + (i : Int))) % (M + 1))) 2 := .dec x0 (by omega)
      have aY : Asc (dS (cell ns (6 + (0 + (i : Int))) / 14 % M)) 2 := .dec y0 (by omega)
      have a2 := a1.app aX
      have a3 := a2.app aG
      have a4 := a3.app aY
      refine ⟨_, rfl, _, _, rfl, rfl, Nat.le_trans (Nat.add_le_add az.2 aB.2) (by omega), ?_⟩
      refine ⟨_, rfl, _, rfl, _, _, rfl, rfl, _, _, rfl, rfl, (by omega), _, rfl, small13 x0 (by omega), _, _, rfl, rfl, Nat.le_trans (Nat.add_le_add a1.2 aX.2) (by omega), ?_⟩
      refine ⟨_, _, rfl, rfl, Nat.le_trans (Nat.add_le_add a2.2 aG.2) (by omega), ?_⟩
      refine ⟨_, rfl, _, _, rfl, rfl, ⟨by decide, by decide⟩, _, rfl, _, _, rfl, rfl, (by omega), _, rfl, small13 y0 (by omega), _, _, rfl, rfl, Nat.le_trans (Nat.add_le_add a3.2 aY.2) (by omega), ?_⟩
      exact ⟨_, _, _, rfl, rfl, a4.1, Nat.le_trans a4.2 (by omega)⟩
    · rintro σ H3 ⟨z, v3, v4, rfl, rfl, az⟩
      have az' : Asc z 500 := ⟨az.1, Nat.le_trans az.2 (by omega)⟩
      refine ⟨fun σ H2 => ∃ z, σ = [some (.ref a), some (.int M), some (.str z), v3, v4, none, none] ∧ Same H3 H2 ∧ Asc z 1001, ?_, ?_⟩
      · refine ⟨_, rfl, a, ns, 2, rfl, hS, by decide, _, _, rfl, rfl, (by decide : (0 : Int) < 4), _, _, rfl, rfl, _, rfl, ite2 (fun _ => ?_) (fun _ => ?_)⟩
        · refine ⟨_, rfl, _, rfl, a, ns, 3, rfl, hS, by decide, _, rfl, a, ns, 4, rfl, hS, by decide, z.cps.toList, _, _, (by rw [str_eta]; rfl), az'.1, az'.len, fun z' hz' => ⟨z', rfl, Same.refl _, hz'⟩⟩
        · exact ⟨z, rfl, Same.refl _, az'.1, Nat.le_trans az'.2 (by decide)⟩
      rintro σ H4 ⟨z2, rfl, s4, az2⟩
      refine ⟨fun σ H2 => ∃ z, σ = [some (.ref a), some (.int M), some (.str z), v3, v4, none, none] ∧ Same H3 H2 ∧ Asc z 1001, ?_, ?_⟩
      · refine ⟨_, rfl, a, ns, 2, rfl, s4.seq hS, by decide, _, _, rfl, rfl, ⟨by decide, by decide⟩, _, _, rfl, rfl, (by decide : (0 : Int) < 8), rfl, _, rfl, ite2 (fun _ => ?_) (fun _ => ?_)⟩
        · refine ⟨_, rfl, a, ns, 5, rfl, s4.seq hS, by decide, _, rfl, fun z' H5 hz' s5 => ⟨z', rfl, s4.trans s5, hz'.1, Nat.le_trans hz'.2 (by decide)⟩⟩
        · exact ⟨z2, rfl, s4, az2⟩
      rintro σ H5 ⟨z3, rfl, s5, az3⟩
      refine ⟨fun σ H2 => ∃ z, σ = [some (.ref a), some (.int M), some (.str z), v3, v4, none, none] ∧ Same H3 H2 ∧ Asc z 1001, ?_, ?_⟩
      · refine ⟨_, rfl, a, ns, 2, rfl, s5.seq hS, by decide, _, _, rfl, rfl, ⟨by decide, by decide⟩, _, _, rfl, rfl, (by decide : (0 : Int) < 16), rfl, _, rfl, ite2 (fun _ => ?_) (fun _ => ?_)⟩
        · have c0 := Int.emod_nonneg (cell ns 5) (b := 4) (by decide)
          have c1 := Int.emod_lt_of_pos (cell ns 5) (b := 4) (by decide)
          have ew : Str.ofString " 0>1" = ⟨[32, 48, 62, 49].toArray⟩ := by decide +kernel
          have a2 : Asc (Str.ofString "2:") 2 := .ofB (by decide +kernel)
          have aR : ∀ k : Nat, k ≤ 203 → Asc (tx ((List.replicate k [32, 48, 62, 49]).flatten)) 812 := fun k hk => .tx (fun c hc => by
            obtain ⟨p, hp, hc'⟩ := List.mem_flatten.mp hc
            rw [List.eq_of_mem_replicate hp] at hc'
            simp at hc'
            omega) (by rw [rep_len]; show k * 4 ≤ 812; omega)
          obtain ⟨k, hk⟩ : ∃ k : Nat, 199 + cell ns 5 % 4 = k := ⟨(199 + cell ns 5 % 4).toNat, by omega⟩
          have ak := aR k (by omega)
          refine ⟨_, rfl, a, ns, 5, rfl, s5.seq hS, by decide, _, _, rfl, rfl, (by decide : (0 : Int) < 4), _, _, rfl, rfl, [32, 48, 62, 49], k, (by rw [ew]), (by rw [← hk]), by omega, by omega, by decide, by decide, _, _, rfl, rfl, Nat.le_trans (Nat.add_le_add a2.2 ak.2) (by omega), ?_⟩
          have := a2.app ak
          exact ⟨_, rfl, s5, this.1, Nat.le_trans this.2 (by decide)⟩
        · exact ⟨z3, rfl, s5, az3⟩
      rintro σ H6 ⟨z4, rfl, s6, az4⟩
      have hl4 : z4.cps.toList.length ≤ 2000 := Nat.le_trans az4.len (by decide)
      by_cases hp : ∃ n ps, Parse z4.cps.toList n ps
      · obtain ⟨n, ps, hp⟩ := hp
        refine ⟨_, rfl, z4.cps.toList, (by rw [str_eta]; rfl), az4.1, hl4, (fun n' ps' hp' t r H7 s7 ht hr' ht7 hPr => ?_), (fun hno => absurd hp (hno n ps))⟩
        obtain ⟨rfl, rfl⟩ := parse_one hp hp'
        refine ⟨_, rfl, z4.cps.toList, (by rw [str_eta]; rfl), az4.1, hl4, (fun n2 ps2 hp2 t2 r2 H8 s8 ht2 hr2 ht8 hPr2 => ?_), (fun hno => absurd hp (hno _ _))⟩
        obtain ⟨rfl, rfl⟩ := parse_one hp hp2
        obtain ⟨rs, hrs, hP⟩ := hPr.same s8
        obtain ⟨rs2, hrs2, hP2⟩ := hPr2
        have htt := s8 _ _ ht7
        refine ⟨_, rfl, rfl, _, rfl, iteF ?_⟩
        refine ⟨_, rfl, _, _, _, _, rfl, .tup ht8, kitT K, _, rfl, iteF ⟨_, rfl, t2, _, rfl, .inr (SqT.of ht8), rfl, _, rfl, iteNS rfl ?_⟩⟩
        refine ⟨_, rfl, t2, _, _, _, rfl, rfl, SqT.of ht8, two0, _, rfl, true, rfl, iteF ?_⟩
        refine ⟨_, rfl, _, rfl, rEqS.true (.inr ⟨SqT.of ht8, SqT.of htt⟩) (.cons (EqT.flat rfl (by simp [eqV])) (.cons (EqT.seq (.inl ⟨SqL.of hrs2, SqL.of hrs⟩) (eq_pairs hP2 hP)) .nil)) ⟨_, rfl, iteF ?_⟩⟩
        exact ⟨_, rfl, t2, _, _, _, rfl, rfl, SqT.of ht8, two1, _, _, _, _, rfl, .lst hrs2, kit3 K, q _⟩
      · have hno : ∀ n ps, ¬ Parse z4.cps.toList n ps := fun n ps h => hp ⟨n, ps, h⟩
        refine ⟨_, rfl, z4.cps.toList, (by rw [str_eta]; rfl), az4.1, hl4, (fun n' ps' hp' => absurd hp' (hno n' ps')), (fun _ H7 s7 => ?_)⟩
        refine ⟨_, rfl, z4.cps.toList, (by rw [str_eta]; rfl), az4.1, hl4, (fun n' ps' hp' => absurd hp' (hno n' ps')), (fun _ r H8 s8 hr8 => ?_)⟩
        refine ⟨_, rfl, rfl, _, rfl, iteT ?_⟩
        exact ⟨_, rfl, (by show 5 ≤ sizeLine; decide), fun m hm => rEqS.true (.inl ⟨SqL.of ((Same.new hm) _ _ hr8), SqL.of upd_same⟩) (.cons (.flat rfl rfl) (.cons (.flat rfl rfl) (.cons (.flat rfl rfl) (.cons (.flat rfl rfl) (.cons (.flat rfl rfl) .nil))))) (q _)⟩
end
theorem all_mk {l : PySem.W.OpenLaw} {w : World} {K : PySem.W.Frag} {h : Heap} {mg : Str → Option Value} {fa F0 F1 F2 F3 F4 F5 F6 F7 F8 F9 F10 F11 : Addr} (X : K.In h) (G : h.Ns mainGlobals mg) (hfa : mg "law" = some (.ref fa))
    {od0 an0 od1 an1 od2 an2 od3 an3 od4 an4 od5 an5 od6 an6 od7 an7 od8 an8 od9 an9 od10 an10 od11 an11 : Option Addr} {sl0 sl1 sl2 sl3 sl4 sl5 sl6 sl7 sl8 sl9 sl10 sl11 : Array (Option Value)} {oc0 kV0 dc0 pm0 cd0 ct0 oc1 kV1 dc1 pm1 cd1 ct1 oc2 kV2 dc2 pm2 cd2 ct2 oc3 kV3 dc3 pm3 cd3 ct3 oc4 kV4 dc4 pm4 cd4 ct4 oc5 kV5 dc5 pm5 cd5 ct5 oc6 kV6 dc6 pm6 cd6 ct6 oc7 kV7 dc7 pm7 cd7 ct7 oc8 kV8 dc8 pm8 cd8 ct8 oc9 kV9 dc9 pm9 cd9 ct9 oc10 kV10 dc10 pm10 cd10 ct10 oc11 kV11 dc11 pm11 cd11 ct11 : Value}
    (a0 : PySem.W.nsIn K mainGlobals "number_in" = some (some (.ref F0))) (l0 : K.lookup F0 = some ⟨oc0, od0, .func (PySem.W.fnOf "number_in" "number_in" (defArgs (top 9)) (defBody (top 9)) (defScope (top 9)) .none kV0 dc0 pm0 an0 cd0 ct0), sl0⟩) (c0 : PySem.W.codeIn K cd0 "number_in" = true) (k0 : PySem.W.keepIn K (.ref F0) = true)
    (a1 : PySem.W.nsIn K mainGlobals "saying_in" = some (some (.ref F1))) (l1 : K.lookup F1 = some ⟨oc1, od1, .func (PySem.W.fnOf "saying_in" "saying_in" (defArgs (top 10)) (defBody (top 10)) (defScope (top 10)) .none kV1 dc1 pm1 an1 cd1 ct1), sl1⟩) (c1 : PySem.W.codeIn K cd1 "saying_in" = true) (k1 : PySem.W.keepIn K (.ref F1) = true)
    (a2 : PySem.W.nsIn K mainGlobals "read" = some (some (.ref F2))) (l2 : K.lookup F2 = some ⟨oc2, od2, .func (PySem.W.fnOf "read" "read" (defArgs (top 11)) (defBody (top 11)) (defScope (top 11)) .none kV2 dc2 pm2 an2 cd2 ct2), sl2⟩) (c2 : PySem.W.codeIn K cd2 "read" = true) (k2 : PySem.W.keepIn K (.ref F2) = true)
    (a3 : PySem.W.nsIn K mainGlobals "_law_cell_at" = some (some (.ref F3))) (l3 : K.lookup F3 = some ⟨oc3, od3, .func (PySem.W.fnOf "_law_cell_at" "_law_cell_at" (defArgs (top 13)) (defBody (top 13)) (defScope (top 13)) .none kV3 dc3 pm3 an3 cd3 ct3), sl3⟩) (c3 : PySem.W.codeIn K cd3 "_law_cell_at" = true) (k3 : PySem.W.keepIn K (.ref F3) = true)
    (a4 : PySem.W.nsIn K mainGlobals "_law_whole" = some (some (.ref F4))) (l4 : K.lookup F4 = some ⟨oc4, od4, .func (PySem.W.fnOf "_law_whole" "_law_whole" (defArgs (top 14)) (defBody (top 14)) (defScope (top 14)) .none kV4 dc4 pm4 an4 cd4 ct4), sl4⟩) (c4 : PySem.W.codeIn K cd4 "_law_whole" = true) (k4 : PySem.W.keepIn K (.ref F4) = true)
    (a5 : PySem.W.nsIn K mainGlobals "_law_sign_by" = some (some (.ref F5))) (l5 : K.lookup F5 = some ⟨oc5, od5, .func (PySem.W.fnOf "_law_sign_by" "_law_sign_by" (defArgs (top 15)) (defBody (top 15)) (defScope (top 15)) .none kV5 dc5 pm5 an5 cd5 ct5), sl5⟩) (c5 : PySem.W.codeIn K cd5 "_law_sign_by" = true) (k5 : PySem.W.keepIn K (.ref F5) = true)
    (a6 : PySem.W.nsIn K mainGlobals "_law_odd" = some (some (.ref F6))) (l6 : K.lookup F6 = some ⟨oc6, od6, .func (PySem.W.fnOf "_law_odd" "_law_odd" (defArgs (top 16)) (defBody (top 16)) (defScope (top 16)) .none kV6 dc6 pm6 an6 cd6 ct6), sl6⟩) (c6 : PySem.W.codeIn K cd6 "_law_odd" = true) (k6 : PySem.W.keepIn K (.ref F6) = true)
    (a7 : PySem.W.nsIn K mainGlobals "_law_number" = some (some (.ref F7))) (l7 : K.lookup F7 = some ⟨oc7, od7, .func (PySem.W.fnOf "_law_number" "_law_number" (defArgs (top 17)) (defBody (top 17)) (defScope (top 17)) .none kV7 dc7 pm7 an7 cd7 ct7), sl7⟩) (c7 : PySem.W.codeIn K cd7 "_law_number" = true) (k7 : PySem.W.keepIn K (.ref F7) = true)
    (a8 : PySem.W.nsIn K mainGlobals "_law_due" = some (some (.ref F8))) (l8 : K.lookup F8 = some ⟨oc8, od8, .func (PySem.W.fnOf "_law_due" "_law_due" (defArgs (top 18)) (defBody (top 18)) (defScope (top 18)) .none kV8 dc8 pm8 an8 cd8 ct8), sl8⟩) (c8 : PySem.W.codeIn K cd8 "_law_due" = true) (k8 : PySem.W.keepIn K (.ref F8) = true)
    (a9 : PySem.W.nsIn K mainGlobals "_law_told" = some (some (.ref F9))) (l9 : K.lookup F9 = some ⟨oc9, od9, .func (PySem.W.fnOf "_law_told" "_law_told" (defArgs (top 19)) (defBody (top 19)) (defScope (top 19)) .none kV9 dc9 pm9 an9 cd9 ct9), sl9⟩) (c9 : PySem.W.codeIn K cd9 "_law_told" = true) (k9 : PySem.W.keepIn K (.ref F9) = true)
    (a10 : PySem.W.nsIn K mainGlobals "_law_spoiled" = some (some (.ref F10))) (l10 : K.lookup F10 = some ⟨oc10, od10, .func (PySem.W.fnOf "_law_spoiled" "_law_spoiled" (defArgs (top 20)) (defBody (top 20)) (defScope (top 20)) .none kV10 dc10 pm10 an10 cd10 ct10), sl10⟩) (c10 : PySem.W.codeIn K cd10 "_law_spoiled" = true) (k10 : PySem.W.keepIn K (.ref F10) = true)
    (a11 : PySem.W.nsIn K mainGlobals "law" = some (some (.ref F11))) (l11 : K.lookup F11 = some ⟨oc11, od11, .func (PySem.W.fnOf "law" "law" (defArgs (top 21)) (defBody (top 21)) (defScope (top 21)) .none kV11 dc11 pm11 an11 cd11 ct11), sl11⟩) (c11 : PySem.W.codeIn K cd11 "law" = true) (k11 : PySem.W.keepIn K (.ref F11) = true)
    {T0 : Tok} (gw0 : PySem.W.nsIn K mainGlobals "MOST_THINGS" = some (some (.int 12 T0)))
    {T1 : Tok} (gw1 : PySem.W.nsIn K mainGlobals "MOST_SAYINGS" = some (some (.int 200 T1)))
    {XC_KeenError XC_BadSay XC_NoSay XC_NoWidth XC_BadLine : Addr} (xf0 : PySem.W.nsIn K mainGlobals "KeenError" = some (some (.ref XC_KeenError))) (xf1 : PySem.W.typeIn K (.ref XC_KeenError) = some (.type "type")) (xf2 : PySem.W.isClsIn K XC_KeenError = true) (xf3 : PySem.W.nsIn K mainGlobals "BadSay" = some (some (.ref XC_BadSay))) (xf4 : PySem.W.typeIn K (.ref XC_BadSay) = some (.type "type")) (xf5 : PySem.W.isClsIn K XC_BadSay = true) (xf6 : PySem.W.nsIn K mainGlobals "NoSay" = some (some (.ref XC_NoSay))) (xf7 : PySem.W.typeIn K (.ref XC_NoSay) = some (.type "type")) (xf8 : PySem.W.isClsIn K XC_NoSay = true) (xf9 : PySem.W.nsIn K mainGlobals "NoWidth" = some (some (.ref XC_NoWidth))) (xf10 : PySem.W.typeIn K (.ref XC_NoWidth) = some (.type "type")) (xf11 : PySem.W.isClsIn K XC_NoWidth = true) (xf12 : PySem.W.nsIn K mainGlobals "BadLine" = some (some (.ref XC_BadLine))) (xf13 : PySem.W.typeIn K (.ref XC_BadLine) = some (.type "type")) (xf14 : PySem.W.isClsIn K XC_BadLine = true) (xf15 : PySem.W.mroIn K XC_KeenError (.type "BaseException") = some true) (xf16 : PySem.W.excIn K XC_BadLine bmVE "ValueError.__new__" = true) (xf17 : PySem.W.hasDictIn K XC_BadLine = true) (xf18 : PySem.W.findIn K (.ref XC_BadLine) "__class__" = some (some (.builtin "object.__class__"))) (xf19 : PySem.W.specialIn K (.builtin "object.__class__") "__get__" = some (some (.builtin "getset_descriptor.__get__"))) (xf20 : PySem.W.takesIn K (.builtin "object.__class__") = some true) (xf21 : PySem.W.mroIn K XC_BadLine (.type "object") = some true) (xf22 : PySem.W.mroIn K XC_BadLine (.type "BaseException") = some true) (xf23 : PySem.W.findIn K (.ref XC_BadLine) "__getattribute__" = some (some (.builtin "BaseException.__getattribute__"))) (xf24 : PySem.W.findIn K (.ref XC_BadLine) "__getattr__" = some none) (xf25 : PySem.W.mroIn K XC_BadLine (.type "ValueError") = some true) (xf26 : PySem.W.mroIn K XC_BadLine (.ref XC_KeenError) = some true) (xf27 : PySem.W.mroIn K XC_BadLine (.ref XC_BadSay) = some false) (xf28 : PySem.W.mroIn K XC_BadLine (.ref XC_NoSay) = some false) (xf29 : PySem.W.mroIn K XC_BadLine (.ref XC_NoWidth) = some false) (xf30 : PySem.W.mroIn K XC_BadLine (.ref XC_BadLine) = some true)
    (z0 : PySem.W.nsIn K mainGlobals "len" = some none) (z1 : PySem.W.nsIn K mainGlobals "range" = some none) (z2 : PySem.W.nsIn K mainGlobals "list" = some none) (z3 : PySem.W.nsIn K mainGlobals "sorted" = some none) (z4 : PySem.W.nsIn K mainGlobals "set" = some none) (z5 : PySem.W.nsIn K mainGlobals "isinstance" = some none) (z6 : PySem.W.nsIn K mainGlobals "int" = some none) (z7 : PySem.W.nsIn K mainGlobals "bool" = some none) (z8 : PySem.W.nsIn K mainGlobals "tuple" = some none) (z9 : PySem.W.nsIn K mainGlobals "str" = some none) (z10 : PySem.W.nsIn K mainGlobals "max" = some none) (z11 : PySem.W.nsIn K mainGlobals "min" = some none) (z12 : PySem.W.nsIn K mainGlobals "zip" = some none) (z13 : PySem.W.nsIn K mainGlobals "ValueError" = some none) :
    ∃ fd : FuncData, (∀ (s : Shared) (v : Value), BindsTo s fd ⟨[v], []⟩ [("script", v)]) ∧ ∀ base : Heap, K.In base → base.Ns mainGlobals mg → FnOk l.prog w K mg base CX0 5 fa fd ["script"] (spLaw K) := by
  have e := hfa.symm.trans (PySem.W.mg_of X G a11)
  cases e
  exact ⟨(PySem.W.fnOf "law" "law" (defArgs (top 21)) (defBody (top 21)) (defScope (top 21)) .none kV11 dc11 pm11 an11 cd11 ct11), fun s v => .of_eq rfl, fun base _ _ => ok_law (mg := mg) (K := K) ⟨⟨PySem.W.mg_none_of X G z0, PySem.W.mg_none_of X G z1, PySem.W.mg_none_of X G z2, PySem.W.mg_none_of X G z3, PySem.W.mg_none_of X G z4, PySem.W.mg_none_of X G z5, PySem.W.mg_none_of X G z6, PySem.W.mg_none_of X G z7, PySem.W.mg_none_of X G z8, PySem.W.mg_none_of X G z9, PySem.W.mg_none_of X G z10, PySem.W.mg_none_of X G z11, PySem.W.mg_none_of X G z12, PySem.W.mg_none_of X G z13⟩, T0, PySem.W.mg_of X G gw0, T1, PySem.W.mg_of X G gw1,
    XC_KeenError, PySem.W.mg_of X G xf0,
    XC_BadSay, PySem.W.mg_of X G xf3,
    XC_NoSay, PySem.W.mg_of X G xf6,
    XC_NoWidth, PySem.W.mg_of X G xf9,
    XC_BadLine, PySem.W.mg_of X G xf12,
    xcls_of xf16, ⟨xf17, xf18, xf19, xf20, xf21, xf22, xf23, xf24⟩, exm_of xf15 xf2 xf1 xf26, kit_ty xf25, kit_not xf30 xf5 xf4 xf27, kit_not xf30 xf8 xf7 xf28, kit_not xf30 xf11 xf10 xf29, kit_self,
    ⟨F0, (PySem.W.fnOf "number_in" "number_in" (defArgs (top 9)) (defBody (top 9)) (defScope (top 9)) .none kV0 dc0 pm0 an0 cd0 ct0), ⟨fun_mk (st := top 9) l0 c0 k0, PySem.W.mg_of X G a0⟩⟩,
    ⟨F1, (PySem.W.fnOf "saying_in" "saying_in" (defArgs (top 10)) (defBody (top 10)) (defScope (top 10)) .none kV1 dc1 pm1 an1 cd1 ct1), ⟨fun_mk (st := top 10) l1 c1 k1, PySem.W.mg_of X G a1⟩⟩,
    ⟨F2, (PySem.W.fnOf "read" "read" (defArgs (top 11)) (defBody (top 11)) (defScope (top 11)) .none kV2 dc2 pm2 an2 cd2 ct2), ⟨fun_mk (st := top 11) l2 c2 k2, PySem.W.mg_of X G a2⟩⟩,
    ⟨F3, (PySem.W.fnOf "_law_cell_at" "_law_cell_at" (defArgs (top 13)) (defBody (top 13)) (defScope (top 13)) .none kV3 dc3 pm3 an3 cd3 ct3), ⟨fun_mk (st := top 13) l3 c3 k3, PySem.W.mg_of X G a3⟩⟩,
    ⟨F4, (PySem.W.fnOf "_law_whole" "_law_whole" (defArgs (top 14)) (defBody (top 14)) (defScope (top 14)) .none kV4 dc4 pm4 an4 cd4 ct4), ⟨fun_mk (st := top 14) l4 c4 k4, PySem.W.mg_of X G a4⟩⟩,
    ⟨F5, (PySem.W.fnOf "_law_sign_by" "_law_sign_by" (defArgs (top 15)) (defBody (top 15)) (defScope (top 15)) .none kV5 dc5 pm5 an5 cd5 ct5), ⟨fun_mk (st := top 15) l5 c5 k5, PySem.W.mg_of X G a5⟩⟩,
    ⟨F6, (PySem.W.fnOf "_law_odd" "_law_odd" (defArgs (top 16)) (defBody (top 16)) (defScope (top 16)) .none kV6 dc6 pm6 an6 cd6 ct6), ⟨fun_mk (st := top 16) l6 c6 k6, PySem.W.mg_of X G a6⟩⟩,
    ⟨F7, (PySem.W.fnOf "_law_number" "_law_number" (defArgs (top 17)) (defBody (top 17)) (defScope (top 17)) .none kV7 dc7 pm7 an7 cd7 ct7), ⟨fun_mk (st := top 17) l7 c7 k7, PySem.W.mg_of X G a7⟩⟩,
    ⟨F8, (PySem.W.fnOf "_law_due" "_law_due" (defArgs (top 18)) (defBody (top 18)) (defScope (top 18)) .none kV8 dc8 pm8 an8 cd8 ct8), ⟨fun_mk (st := top 18) l8 c8 k8, PySem.W.mg_of X G a8⟩⟩,
    ⟨F9, (PySem.W.fnOf "_law_told" "_law_told" (defArgs (top 19)) (defBody (top 19)) (defScope (top 19)) .none kV9 dc9 pm9 an9 cd9 ct9), ⟨fun_mk (st := top 19) l9 c9 k9, PySem.W.mg_of X G a9⟩⟩,
    ⟨F10, (PySem.W.fnOf "_law_spoiled" "_law_spoiled" (defArgs (top 20)) (defBody (top 20)) (defScope (top 20)) .none kV10 dc10 pm10 an10 cd10 ct10), ⟨fun_mk (st := top 20) l10 c10 k10, PySem.W.mg_of X G a10⟩⟩,
    ⟨fa, (PySem.W.fnOf "law" "law" (defArgs (top 21)) (defBody (top 21)) (defScope (top 21)) .none kV11 dc11 pm11 an11 cd11 ct11), ⟨fun_mk (st := top 21) l11 c11 k11, PySem.W.mg_of X G a11⟩⟩⟩⟩
theorem walk {l : PySem.W.OpenLaw} {q : Program} {loose : List Str} {XP : (Str → Option Value) → Heap → Prop} {YP : World → Heap → Prop} {d : DefRec} {K : Params → PySem.W.Frag} (hn : l.most = some 63) (hdf : d.params.defaults = [])
    (hY : ∀ (w : World) (h : Heap), YP w h → (K w.params).In h)
    (F : ∀ (w : World) (mg : Str → Option Value) (fa : Addr) (h : Heap), (K w.params).In h → h.Ns mainGlobals mg → mg d.name = some (.ref fa) →
      ∃ fd : FuncData, (∀ (s : Shared) (u : Value), BindsTo s fd ⟨[u], []⟩ [("script", u)]) ∧ ∀ base : Heap, (K w.params).In base → base.Ns mainGlobals mg → FnOk l.prog w (K w.params) mg base CX0 5 fa fd ["script"] (spLaw (K w.params))) :
    PySem.W.WalkO q loose XP YP l.row.toRowW d [] (fun f vs => PySem.call f vs) :=
  L2.walk_of (n := 63) (k := 5) (x := "script") (CX := fun _ => CX0) (sp := fun w => spLaw (K w.params)) hn (by decide) hdf ⟨rfl, by decide, by decide⟩ hY F (fun _ _ a ns hl _ hS => ⟨a, ns, rfl, hS, hl, fun _ => rfl⟩) fun _ _ _ _ _ z => z
end KS
open PySem PySem.W PyProof.Rows
set_option maxRecDepth 100000 in
set_option maxHeartbeats 0 in
theorem PySem.Challenge.cw_keenscale_k13_texts_refused_holds : PySem.Challenge.rw_keenscale_k13_texts_refused.Holds := by
  w_on; o_law; k_head; (case hw => w_witness2)
  k_fill
  refine KS.walk (l := PySem.Challenge.rw_keenscale_k13_texts_refused) rfl rfl (fun w h Y => PySem.W.kIn_of Y) ?F
  case F =>
    intro w mg fa h KX G hmg
    refine' KS.all_mk KX G hmg ?a0 ?l0 ?c0 ?k0 ?a1 ?l1 ?c1 ?k1 ?a2 ?l2 ?c2 ?k2 ?a3 ?l3 ?c3 ?k3 ?a4 ?l4 ?c4 ?k4 ?a5 ?l5 ?c5 ?k5 ?a6 ?l6 ?c6 ?k6 ?a7 ?l7 ?c7 ?k7 ?a8 ?l8 ?c8 ?k8 ?a9 ?l9 ?c9 ?k9 ?a10 ?l10 ?c10 ?k10 ?a11 ?l11 ?c11 ?k11 ?gw0 ?gw1 ?xf0 ?xf1 ?xf2 ?xf3 ?xf4 ?xf5 ?xf6 ?xf7 ?xf8 ?xf9 ?xf10 ?xf11 ?xf12 ?xf13 ?xf14 ?xf15 ?xf16 ?xf17 ?xf18 ?xf19 ?xf20 ?xf21 ?xf22 ?xf23 ?xf24 ?xf25 ?xf26 ?xf27 ?xf28 ?xf29 ?xf30 ?z0 ?z1 ?z2 ?z3 ?z4 ?z5 ?z6 ?z7 ?z8 ?z9 ?z10 ?z11 ?z12 ?z13
    (case a0 => k_is)
    (case l0 => k_is)
    (case c0 => k_is)
    (case k0 => k_is)
    (case a1 => k_is)
    (case l1 => k_is)
    (case c1 => k_is)
    (case k1 => k_is)
    (case a2 => k_is)
    (case l2 => k_is)
    (case c2 => k_is)
    (case k2 => k_is)
    (case a3 => k_is)
    (case l3 => k_is)
    (case c3 => k_is)
    (case k3 => k_is)
    (case a4 => k_is)
    (case l4 => k_is)
    (case c4 => k_is)
    (case k4 => k_is)
    (case a5 => k_is)
    (case l5 => k_is)
    (case c5 => k_is)
    (case k5 => k_is)
    (case a6 => k_is)
    (case l6 => k_is)
    (case c6 => k_is)
    (case k6 => k_is)
    (case a7 => k_is)
    (case l7 => k_is)
    (case c7 => k_is)
    (case k7 => k_is)
    (case a8 => k_is)
    (case l8 => k_is)
    (case c8 => k_is)
    (case k8 => k_is)
    (case a9 => k_is)
    (case l9 => k_is)
    (case c9 => k_is)
    (case k9 => k_is)
    (case a10 => k_is)
    (case l10 => k_is)
    (case c10 => k_is)
    (case k10 => k_is)
    (case a11 => k_is)
    (case l11 => k_is)
    (case c11 => k_is)
    (case k11 => k_is)
    (case gw0 => k_is)
    (case gw1 => k_is)
    (case xf0 => k_is)
    (case xf1 => k_is)
    (case xf2 => k_is)
    (case xf3 => k_is)
    (case xf4 => k_is)
    (case xf5 => k_is)
    (case xf6 => k_is)
    (case xf7 => k_is)
    (case xf8 => k_is)
    (case xf9 => k_is)
    (case xf10 => k_is)
    (case xf11 => k_is)
    (case xf12 => k_is)
    (case xf13 => k_is)
    (case xf14 => k_is)
    (case xf15 => k_is)
    (case xf16 => k_exc)
    (case xf17 => k_is)
    (case xf18 => k_is)
    (case xf19 => k_is)
    (case xf20 => k_is)
    (case xf21 => k_is)
    (case xf22 => k_is)
    (case xf23 => k_is)
    (case xf24 => k_is)
    (case xf25 => k_is)
    (case xf26 => k_is)
    (case xf27 => k_is)
    (case xf28 => k_is)
    (case xf29 => k_is)
    (case xf30 => k_is)
    (case z0 => k_is)
    (case z1 => k_is)
    (case z2 => k_is)
    (case z3 => k_is)
    (case z4 => k_is)
    (case z5 => k_is)
    (case z6 => k_is)
    (case z7 => k_is)
    (case z8 => k_is)
    (case z9 => k_is)
    (case z10 => k_is)
    (case z11 => k_is)
    (case z12 => k_is)
    (case z13 => k_is)
