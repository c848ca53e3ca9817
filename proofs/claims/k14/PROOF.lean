import PyProof.Rows.All
import Wide.All
import OpenK.AllK
import Wide.FinOn
import Lean
import PyProof.EqAt
import PyProof.EqKinds
import PyProof.TupleCall
import PySem.SetOps
import PyProof.TupleKey
import PyProof.DictKinds
import PyProof.SetKind
import PyProof.ListRange
import PyProof.Rows.SetFrom
import PyProof.CollectWalk
import PyProof.Rows.SortShell
import KE.KSortTup
import PyProof.NeKinds
import PyProof.StrLawsIn
import PyProof.StrLawsChain
import PyProof.Rows.SortWalk
import PyProof.ZipIter
import KE.KItemsList
import PyProof.RaisesMany
import PyProof.PassesOwn
import PyProof.ExcClass2
import PyProof.RulesAs
import PyProof.NsDelKeeps
import KE.KTryMore
import KE.KIsNot
import PyProof.ExcArgsOwn
import PyProof.ExcAttrAll.ValueError
import OpenK.KOwn
import PySem.Challenge.RW_keenscale_k14_each_refusal_its_own
set_option Elab.async false
set_option linter.all false
set_option maxRecDepth 100000
section
set_option Elab.async false
set_option linter.all false
set_option maxRecDepth 100000
namespace L2
open PySem PySem.Spec PyProof.Rows
/-- a key: an int or a str -/
noncomputable abbrev Key := Sum Int Str
noncomputable def keyIs : Key → Value → Bool
  | .inl k, v => Value.isInt k v
  | .inr x, v => Value.isStrOf x v
noncomputable def keyH (w : World) : Key → Int
  | .inl k => hashInt k
  | .inr x => hashStr w x
theorem keyIs_shape : ∀ {k : Key} {v : Value}, keyIs k v = true → (∃ i t, k = Sum.inl i ∧ v = Value.int i t) ∨ (∃ x t, k = Sum.inr x ∧ v = Value.str x t)
  | .inl i, v, h => by
    obtain ⟨t, e⟩ := Value.isInt_shape (k := i) (v := v) h
    exact .inl ⟨i, t, rfl, e⟩
  | .inr x, v, h => by
    obtain ⟨t, e⟩ := Value.isStrOf_shape (x := x) (v := v) h
    exact .inr ⟨x, t, rfl, e⟩
theorem keyIs_int (i : Int) (t : Tok) : keyIs (.inl i) (.int i t) = true := by simp [keyIs, Value.isInt]
theorem keyIs_str (x : Str) (t : Tok) : keyIs (.inr x) (.str x t) = true := by simp [keyIs, Value.isStrOf]
theorem key_ll (a b : Int) : decide ((Sum.inl a : Key) = Sum.inl b) = (a == b) := by
  by_cases e : a = b
  · subst e; simp
  · have h : ¬ (Sum.inl a : Key) = Sum.inl b := fun q => e (Sum.inl.inj q)
    rw [decide_eq_false h]
    exact (beq_eq_false_iff_ne.mpr e).symm
theorem key_rr (a b : Str) : decide ((Sum.inr a : Key) = Sum.inr b) = decide (a = b) := by
  by_cases e : a = b
  · subst e; simp
  · have h : ¬ (Sum.inr a : Key) = Sum.inr b := fun q => e (Sum.inr.inj q)
    rw [decide_eq_false h, decide_eq_false e]
theorem key_lr (a : Int) (b : Str) : decide ((Sum.inl a : Key) = Sum.inr b) = false := decide_eq_false (fun q => nomatch q)
theorem key_rl (a : Str) (b : Int) : decide ((Sum.inr a : Key) = Sum.inl b) = false := decide_eq_false (fun q => nomatch q)
noncomputable def mixKind (prog : Program) (w : World) : PySem.KeyKind prog w Key where
  is := keyIs
  hash := keyH w
  inj := fun v a b ha hb => by
    rcases keyIs_shape ha with ⟨i, t, rfl, rfl⟩ | ⟨x, t, rfl, rfl⟩
    · rcases keyIs_shape hb with ⟨j, u, rfl, e⟩ | ⟨y, u, rfl, e⟩
      · injection e with e1 _; rw [e1]
      · exact nomatch e
    · rcases keyIs_shape hb with ⟨j, u, rfl, e⟩ | ⟨y, u, rfl, e⟩
      · exact nomatch e
      · injection e with e1 _; rw [e1]
  byValue := fun k v h => by
    rcases keyIs_shape h with ⟨i, t, rfl, rfl⟩ | ⟨x, t, rfl, rfl⟩ <;> rfl
  pyHash := fun hv h => by
    rcases keyIs_shape hv with ⟨i, t, rfl, rfl⟩ | ⟨x, t, rfl, rfl⟩
    · exact wpAny_pyHash_int h
    · exact wpAny_pyHash_str h
  eqBool := fun hu hv h => by
    rcases keyIs_shape hu with ⟨i, t, rfl, rfl⟩ | ⟨x, t, rfl, rfl⟩
    · rcases keyIs_shape hv with ⟨j, u, rfl, rfl⟩ | ⟨y, u, rfl, rfl⟩
      · rw [key_ll] at h; exact wpAny_eqBool_int h
      · rw [key_lr] at h; exact SeqAt.EqAt.int_str i t y u _ _ _ _ h
    · rcases keyIs_shape hv with ⟨j, u, rfl, rfl⟩ | ⟨y, u, rfl, rfl⟩
      · rw [key_rl] at h; exact SeqAt.EqAt.str_int x t j u _ _ _ _ h
      · rw [key_rr] at h; exact wpAny_eqBool_str h
  «strs» := fun k x t v h => by
    rcases keyIs_shape h with ⟨i, u, rfl, e⟩ | ⟨y, u, rfl, e⟩
    · exact nomatch e
    · injection e with e1 _
      subst e1
      cases v <;> rfl
theorem mixKind_int (prog : Program) (w : World) (i : Int) (t : Tok) : (mixKind prog w).is (.inl i) (.int i t) = true := keyIs_int i t
theorem mixKind_str (prog : Program) (w : World) (x : Str) (t : Tok) : (mixKind prog w).is (.inr x) (.str x t) = true := keyIs_str x t
end L2
namespace L2
open PySem PySem.Spec PyProof.Rows
/-- a value, without the heap -/
inductive V where
  | non | bl (b : Bool) | int (i : Int) | str (x : Str) | byt (b : Array UInt8) | flt (b : UInt64) | ref (a : Addr) | ty (n : String)
  deriving DecidableEq
noncomputable def RelV : V → Value → Prop
  | .non, u => u = Value.none
  | .bl b, u => u = Value.bool b
  | .int i, u => ∃ t, u = Value.int i t
  | .str x, u => ∃ t, u = Value.str x t
  | .byt b, u => ∃ t, u = Value.bytes b t
  | .flt b, u => ∃ t, u = Value.float b t
  | .ref a, u => u = Value.ref a
  | .ty n, u => u = Value.type n
noncomputable abbrev Vals : List V → List Value → Prop := Paired RelV
theorem Vals.length {xs : List V} {us : List Value} (r : Vals xs us) : xs.length = us.length := Paired.length r
theorem Vals.get : ∀ {xs : List V} {us : List Value} {i : Nat} {x : V}, Vals xs us → xs[i]? = some x → ∃ u, us[i]? = some u ∧ RelV x u
  | _, _, _, _, .nil, e => by simp at e
  | _, _, 0, _, .cons r _, e => by simp at e; subst e; exact ⟨_, rfl, r⟩
  | _, _, i + 1, x, .cons _ t, e => by
    obtain ⟨u, h1, h2⟩ := Vals.get (i := i) (x := x) t (by simpa using e)
    exact ⟨u, by simpa using h1, h2⟩
theorem Vals.set {x : V} {u : Value} (r : RelV x u) : ∀ {xs : List V} {us : List Value} (i : Nat), Vals xs us → Vals (xs.set i x) (us.set i u)
  | _, _, _, .nil => .nil
  | _, _, 0, .cons _ t => .cons r t
  | _, _, i + 1, .cons q t => .cons q (Vals.set r i t)
theorem Vals.append : ∀ {xs ys : List V} {us ws : List Value}, Vals xs us → Vals ys ws → Vals (xs ++ ys) (us ++ ws)
  | _, _, _, _, .nil, s => s
  | _, _, _, _, .cons r t, s => .cons r (Vals.append t s)
theorem Vals.take : ∀ {xs : List V} {us : List Value} (n : Nat), Vals xs us → Vals (xs.take n) (us.take n)
  | _, _, 0, _ => .nil
  | _, _, _ + 1, .nil => .nil
  | _, _, n + 1, .cons r t => .cons r (Vals.take n t)
theorem Vals.drop : ∀ {xs : List V} {us : List Value} (n : Nat), Vals xs us → Vals (xs.drop n) (us.drop n)
  | _, _, 0, r => r
  | _, _, _ + 1, .nil => .nil
  | _, _, n + 1, .cons _ t => Vals.drop n t
noncomputable def RelO : Option V → Option Value → Prop
  | some v, some u => RelV v u
  | none, none => True
  | _, _ => False
noncomputable def KV {κ : Type} : List (κ × V) → List (κ × Value) → Prop := Paired fun (p : κ × V) (q : κ × Value) => p.1 = q.1 ∧ RelV p.2 q.2
/-- a key of a dict (00_mix): an int or a text -/
noncomputable def kV : Key → V
  | .inl i => .int i
  | .inr x => .str x
/-- what stands at a tracked address -/
inductive HO where
  /-- a list -/
  | lst (xs : List V)
  /-- a tuple (never changes) -/
  | tup (xs : List V)
  /-- a dict whose keys are ints and texts; one whose keys are tuples of ints and texts (the empty one is both) -/
  | dK (kvs : List (Key × V)) | dT (kvs : List (List Key × V))
  /-- a set of ints: its members, its size -/
  | set (S : Int → Bool) (n : Nat)
  /-- an instance of the class at C, its dict at dx, its attributes -/
  | ins (C dx : Addr) (fs : List (Str × V))
  /-- the dict of the instance at x -/
  | own (x : Addr)
  /-- the dict of an exception -/
  | xd (fs : List (Str × V))
  /-- a bound method, f of x -/
  | met (f x : Addr)
  /-- a range object lo, lo + 1, .. below hi -/
  | rng (lo hi : Int)
  /-- a thing that is known to the object (the script; a dict while a loop walks it): read, never written while it is so -/
  | frz (o : Obj) (u : HO)
  /-- a code object's table -/
  | tbl (ps : Array Value)
  /-- any other thing, by what is true of its one object (a def of one's own: SetO a S n := HO.ext fun h => ..) -/
  | ext (φ : Heap → Prop)
noncomputable abbrev Hp := Addr → Option HO
noncomputable def upd (H : Hp) (a : Addr) (o : HO) : Hp := fun b => if b = a then some o else H b
theorem upd_same {H : Hp} {a : Addr} {o : HO} : upd H a o a = some o := by unfold upd; rw [if_pos rfl]
theorem upd_ne {H : Hp} {a b : Addr} {o : HO} (h : b ≠ a) : upd H a o b = H b := by unfold upd; rw [if_neg h]
/-- two objects of different content stand apart -/
theorem ne_of {H : Hp} {a b : Addr} {o u : HO} (h : H a = some o) (h' : H b = some u) (d : o ≠ u) : a ≠ b := by
  intro e; subst e; rw [h] at h'; exact d (Option.some.inj h')
theorem ne_of_none {H : Hp} {a b : Addr} {o : HO} (h : H a = some o) (h' : H b = none) : a ≠ b := by
  intro e; subst e; rw [h] at h'; cases h'
section
variable (P : Program) (w : World)
noncomputable def ObjOk (H : Hp) (h : Heap) (a : Addr) : HO → Prop
  | .lst xs => xs.length ≤ sizeLine ∧ ∃ (its : List Value) (n : Nat), Vals xs its ∧ h.get? a = some { cls := .type "list", data := .seq its.toArray n }
  | .tup xs => xs.length ≤ sizeLine ∧ ∃ its : List Value, Vals xs its ∧ IsTup h a its.toArray
  | .dK kvs => kvs.length ≤ sizeLine ∧ (a == sysModules) = false ∧ ∃ vs, KV kvs vs ∧ h.DictOf (mixKind P w) a vs
  | .dT kvs => kvs.length ≤ sizeLine ∧ (a == sysModules) = false ∧ ∃ xs : List (List Key × Addr × Value),
      Paired (fun (p : List Key × V) (q : List Key × Addr × Value) => p.1 = q.1 ∧ H q.2.1 = some (.tup (p.1.map kV)) ∧ RelV p.2 q.2.2) kvs xs ∧
      ∃ o es ep, h.get? a = some o ∧ o.ExactDict ∧ o.data = .dict es ep ∧ es.toList = xs.map (entryOfKey (tupleKind (mixKind P w))) ∧ (xs.map (·.1)).Nodup
  | .set S n => h.SetOf (intKind P w) a S n
  | .ins C dx fs => H dx = some (.own a) ∧ fs.length ≤ 1000 ∧ dx ≠ a ∧ h.get? a = some (PySem.W.instObj C dx) ∧
      ∃ mA, h.Ns1 dx mA ∧ (∀ f, RelO (fs.lookup f) (mA f)) ∧ PySem.Within mA (fs.map (·.1))
  | .own _ => ∃ o, h.get? a = some o
  | .xd fs => ∃ mA, h.Ns1 a mA ∧ ∀ f, RelO (fs.lookup f) (mA f)
  | .rng lo hi => ∃ t u v, h.get? a = some { cls := .type "range", data := .fields #[.int lo t, .int hi u, .int 1 v] }
  | .frz o u => h.get? a = some o ∧ ObjOk H h a u
  | .tbl ps => h.get? a = some { cls := .none, data := .fields ps }
  | .met f x => h.get? a = some (PySem.W.methodObj (.ref f) (.ref x))
  | .ext φ => φ h ∧ (∃ o, h.get? a = some o) ∧ ∀ h1 h2 : Heap, φ h1 → (∀ o, h1.get? a = some o → h2.get? a = some o) → φ h2
/-- the abstract heap is held -/
noncomputable def HOk (H : Hp) (h : Heap) : Prop := ∀ a o, H a = some o → ObjOk P w H h a o
end
section
variable {P : Program} {w : World} {H H' : Hp} {h h' : Heap} {a : Addr} {o : HO}
theorem ObjOk.lt (x : ObjOk P w H h a o) : a < h.objs.size := by
  cases o with
  | lst xs => obtain ⟨_, _, _, _, e⟩ := x; exact Heap.lt_size e
  | tup xs => obtain ⟨_, _, _, p⟩ := x; exact p.lt
  | dK kvs => obtain ⟨_, _, _, _, o, _, _, e, _⟩ := x; exact Heap.lt_size e
  | dT kvs => obtain ⟨_, _, _, _, o, _, _, e, _⟩ := x; exact Heap.lt_size e
  | set S n => obtain ⟨o, _, _, _, e, _⟩ := x; exact Heap.lt_size e
  | ins C dx fs => obtain ⟨_, _, _, e, _⟩ := x; exact Heap.lt_size e
  | own y => obtain ⟨_, e⟩ := x; exact Heap.lt_size e
  | xd fs => obtain ⟨_, ⟨_, _, _, e, _⟩, _⟩ := x; exact Heap.lt_size e
  | rng lo hi => obtain ⟨_, _, _, e⟩ := x; exact Heap.lt_size e
  | frz ob u => obtain ⟨e, _⟩ := x; exact Heap.lt_size e
  | tbl ps => exact Heap.lt_size (show h.get? a = some _ from x)
  | met f y => exact Heap.lt_size (show h.get? a = some _ from x)
  | ext φ => obtain ⟨_, ⟨_, e⟩, _⟩ := x; exact Heap.lt_size e
theorem Paired.mapP {α β : Type} {F G : α → β → Prop} : ∀ {l₁ : List α} {l₂ : List β}, Paired F l₁ l₂ → (∀ a b, F a b → G a b) → Paired G l₁ l₂
  | _, _, .nil, _ => .nil
  | _, _, .cons r t, f => .cons (f _ _ r) (Paired.mapP t f)
/-- what an object's description leans on: its own object, its own dict, the tuples -/
theorem ObjOk.stay (x : ObjOk P w H h a o) (k : ∀ b u, (b = a ∨ H b = some (.own a)) → h.get? b = some u → h'.get? b = some u)
    (ho : ∀ b, H b = some (.own a) → H' b = some (.own a)) (ht : ∀ b xs, H b = some (.tup xs) → H' b = some (.tup xs)) : ObjOk P w H' h' a o := by
  induction o with
  | lst xs => obtain ⟨z, its, n, r, e⟩ := x; exact ⟨z, its, n, r, k _ _ (.inl rfl) e⟩
  | tup xs => obtain ⟨z, its, r, ob, e, c⟩ := x; exact ⟨z, its, r, ob, k _ _ (.inl rfl) e, c⟩
  | dK kvs => obtain ⟨z, y, vs, r, ob, es, ep, e, c⟩ := x; exact ⟨z, y, vs, r, ob, es, ep, k _ _ (.inl rfl) e, c⟩
  | dT kvs =>
    obtain ⟨z, y, xs, r, ob, es, ep, e, c⟩ := x
    exact ⟨z, y, xs, Paired.mapP r fun p q z => ⟨z.1, ht _ _ z.2.1, z.2.2⟩, ob, es, ep, k _ _ (.inl rfl) e, c⟩
  | set S n => obtain ⟨ob, es, ep, t, e, c⟩ := x; exact ⟨ob, es, ep, t, k _ _ (.inl rfl) e, c⟩
  | ins C dx fs =>
    obtain ⟨d, z, ne, e, mA, ⟨od, es, ep, e2, c⟩, r⟩ := x
    exact ⟨ho _ d, z, ne, k _ _ (.inl rfl) e, mA, ⟨od, es, ep, k _ _ (.inr d) e2, c⟩, r⟩
  | own y => obtain ⟨ob, e⟩ := x; exact ⟨ob, k _ _ (.inl rfl) e⟩
  | xd fs => obtain ⟨mA, ⟨od, es, ep, e, c⟩, r⟩ := x; exact ⟨mA, ⟨od, es, ep, k _ _ (.inl rfl) e, c⟩, r⟩
  | rng lo hi => obtain ⟨t, u, v, e⟩ := x; exact ⟨t, u, v, k _ _ (.inl rfl) e⟩
  | frz ob u ih => obtain ⟨e, q⟩ := x; exact ⟨k _ _ (.inl rfl) e, ih q⟩
  | tbl ps =>
    have e : h.get? a = some { cls := .none, data := .fields ps } := x
    show h'.get? a = some { cls := .none, data := .fields ps }
    exact k a _ (.inl rfl) e
  | met f y =>
    have e : h.get? a = some (PySem.W.methodObj (.ref f) (.ref y)) := x
    show h'.get? a = some (PySem.W.methodObj (.ref f) (.ref y))
    exact k a _ (.inl rfl) e
  | ext φ => obtain ⟨p, ⟨o, e⟩, st⟩ := x; exact ⟨st _ _ p fun o q => k _ _ (.inl rfl) q, ⟨o, k _ _ (.inl rfl) e⟩, st⟩
theorem HOk.lt (x : HOk P w H h) (e : H a = some o) : a < h.objs.size := (x a o e).lt
theorem HOk.fresh (x : HOk P w H h) (e : h.objs.size ≤ a) : H a = none := by
  cases q : H a with
  | none => rfl
  | some u => exact absurd (Nat.lt_of_lt_of_le (x.lt q) e) (Nat.lt_irrefl _)
/-- every object of the heap is kept -/
theorem HOk.kept (x : HOk P w H h) (k : ∀ b u, h.get? b = some u → h'.get? b = some u) : HOk P w H h' := fun a o e =>
  (x a o e).stay (fun b u _ q => k b u q) (fun _ q => q) fun _ _ q => q
/-- a new object is laid and tracked -/
theorem HOk.laid (x : HOk P w H h) (k : ∀ b u, h.get? b = some u → h'.get? b = some u) (hp : h.objs.size ≤ a) (new : ObjOk P w (upd H a o) h' a o) : HOk P w (upd H a o) h' := fun b u e => by
  have hn := x.fresh hp
  by_cases hb : b = a
  · subst hb; rw [upd_same] at e; cases e; exact new
  · rw [upd_ne hb] at e
    exact (x b u e).stay (fun c v _ q => k c v q) (fun c q => by rw [upd_ne (ne_of_none q hn)]; exact q) fun c xs q => by rw [upd_ne (ne_of_none q hn)]; exact q
end
/-- what may be read as u: it is u, or a known u -/
noncomputable def Rd (H : Hp) (a : Addr) (u : HO) : Prop := H a = some u ∨ ∃ o, H a = some (.frz o u)
theorem Rd.ok {P : Program} {w : World} {H : Hp} {h : Heap} {a : Addr} {u : HO} (r : Rd H a u) (x : HOk P w H h) : ObjOk P w H h a u := by
  rcases r with r | ⟨o, r⟩
  · exact x a u r
  · obtain ⟨_, q⟩ := x a _ r
    exact q
/-- what may be written -/
noncomputable def Mut : Option HO → Prop
  | some (.lst _) => True
  | some (.dK _) => True
  | some (.dT _) => True
  | some (.set _ _) => True
  | some (.ins _ _ _) => True
  | some (.ext _) => True
  | _ => False
section
variable {P : Program} {w : World} {H : Hp} {h h' : Heap} {x e : Addr} {o' : HO}
/-- the object at e is changed: x itself, or the dict of the instance x -/
theorem HOk.write (ok : HOk P w H h) (mu : Mut (H x)) (he : e = x ∨ H e = some (.own x)) (k : ∀ b u, b ≠ e → h.get? b = some u → h'.get? b = some u) (heo : ∃ u, h'.get? e = some u)
    (new : ObjOk P w (upd H x o') h' x o') : HOk P w (upd H x o') h' := fun b u q => by
  have nown : ∀ c y, H c = some (.own y) → c ≠ x := fun c y r z => by subst z; rw [r] at mu; exact mu
  have ntup : ∀ c xs, H c = some (.tup xs) → c ≠ x := fun c xs r z => by subst z; rw [r] at mu; exact mu
  by_cases hb : b = x
  · subst hb; rw [upd_same] at q; cases q; exact new
  · rw [upd_ne hb] at q
    by_cases hbe : b = e
    · have q' : H b = some (.own x) := by
        rcases he with z | z
        · exact absurd (hbe.trans z) hb
        · rw [hbe]; exact z
      rw [q] at q'; cases q'
      obtain ⟨v, hv⟩ := heo
      exact ⟨v, by rw [hbe]; exact hv⟩
    · refine (ok b u q).stay (fun c v hc r => k c v ?_ r) (fun c r => by rw [upd_ne (nown c b r)]; exact r) fun c xs r => by rw [upd_ne (ntup c xs r)]; exact r
      rcases hc with rfl | hc
      · exact hbe
      · rintro rfl
        rcases he with z | z
        · exact nown c b hc z
        · rw [hc] at z; cases z; exact hb rfl
end
structure Un (fs ex : List Addr) (H H' : Hp) (h h' : Heap) : Prop where
  keep : ∀ b o, h.get? b = some o → H b = none → b ∉ fs → b ∉ ex → h'.get? b = some o
  slot : ∀ b o, h.get? b = some o → H b = none → b ∈ fs → b ∉ ex → ∃ sl, h'.get? b = some { o with slots := sl }
  free : ∀ b o, h.get? b = some o → H b = none → b ∉ ex → H' b = none
  there : ∀ b o, h.get? b = some o → b ∉ ex → ∃ o', h'.get? b = some o'
  tups : ∀ b xs, H b = some (.tup xs) → H' b = some (.tup xs)
  frzs : ∀ b o u, H b = some (.frz o u) → H' b = some (.frz o u)
  tbls : ∀ b ps, H b = some (.tbl ps) → ∃ more, H' b = some (.tbl (ps ++ more))
section
variable {fs fs' ex ex' : List Addr} {H H1 H2 : Hp} {h h1 h2 h' : Heap} {a x e : Addr} {o : HO}
theorem Un.any (u : Un fs ex H H1 h h1) {b : Addr} {ob : Obj} (q : h.get? b = some ob) (n : H b = none) (hx : b ∉ ex) : ∃ sl, h1.get? b = some { ob with slots := sl } := by
  by_cases hb : b ∈ fs
  · exact u.slot b ob q n hb hx
  · exact ⟨ob.slots, u.keep b ob q n hb hx⟩
theorem Un.kept (k : ∀ b u, h.get? b = some u → h'.get? b = some u) : Un fs ex H H h h' :=
  ⟨fun b ob q _ _ _ => k b ob q, fun b ob q _ _ _ => ⟨ob.slots, k b ob q⟩, fun _ _ _ n _ => n, fun b ob q _ => ⟨ob, k b ob q⟩, fun _ _ q => q, fun _ _ _ q => q, fun _ ps q => ⟨#[], by rw [q]; simp⟩⟩
theorem Un.refl : Un fs ex H H h h := Un.kept fun _ _ q => q
theorem Un.laid (k : ∀ b u, h.get? b = some u → h'.get? b = some u) (hp : h.objs.size ≤ a) (hn : H a = none) : Un fs ex H (upd H a o) h h' where
  keep := fun b u q _ _ _ => k b u q
  slot := fun b u q _ _ _ => ⟨u.slots, k b u q⟩
  free := fun b u q n _ => by rw [upd_ne (Nat.ne_of_lt (Nat.lt_of_lt_of_le (Heap.lt_size q) hp))]; exact n
  there := fun b u q _ => ⟨u, k b u q⟩
  tups := fun b xs q => by rw [upd_ne (ne_of_none q hn)]; exact q
  frzs := fun b u xs q => by rw [upd_ne (ne_of_none q hn)]; exact q
  tbls := fun b ps q => ⟨#[], by rw [upd_ne (ne_of_none q hn), q]; simp⟩
theorem Un.write (mu : Mut (H x)) (he : e = x ∨ H e = some (.own x)) (k : ∀ b u, b ≠ e → h.get? b = some u → h'.get? b = some u) (heo : ∃ u, h'.get? e = some u) : Un fs ex H (upd H x o) h h' := by
  have hx : ∀ b, H b = none → b ≠ x := fun b n z => by subst z; rw [n] at mu; exact mu
  have hb : ∀ b, H b = none → b ≠ e := fun b n z => by
    subst z
    rcases he with r | r
    · exact hx b n r
    · rw [n] at r; cases r
  have hm : ∀ b u, H b = some u → ¬ Mut (some u) → b ≠ x := fun b u q nm z => by subst z; rw [q] at mu; exact nm mu
  refine ⟨fun b u q n _ _ => k b u (hb b n) q, fun b u q n _ _ => ⟨u.slots, k b u (hb b n) q⟩, fun b u q n _ => by rw [upd_ne (hx b n)]; exact n, fun b u q _ => ?_,
    fun b xs q => by rw [upd_ne (hm b _ q fun z => z)]; exact q, fun b u xs q => by rw [upd_ne (hm b _ q fun z => z)]; exact q, fun b ps q => ⟨#[], by rw [upd_ne (hm b _ q fun z => z), q]; simp⟩⟩
  by_cases hbe : b = e
  · subst hbe; exact heo
  · exact ⟨u, k b u hbe q⟩
end
noncomputable def trk (h : Heap) (H : Hp) : List Addr := (List.range h.objs.size).filter fun a => (H a).isSome
noncomputable def hidT (h : Heap) (H : Hp) : Heap := PySem.W.hideAll h (trk h H)
theorem hidT_size (h : Heap) (H : Hp) : (hidT h H).objs.size = h.objs.size := PySem.W.hideAll_size _ _
theorem hidT_get {h : Heap} {H : Hp} {b : Addr} {o : Obj} (e : h.get? b = some o) (n : H b = none) : (hidT h H).get? b = some o :=
  PySem.W.hideAll_get _ e fun hm => by
    have q : (H b).isSome = true := (List.mem_filter.mp hm).2
    rw [n] at q; simp at q
theorem of_hidT {h : Heap} {H : Hp} {b : Addr} {o : Obj} (e : (hidT h H).get? b = some o) : h.get? b = some o ∧ H b = none := by
  have e' : h.get? b = some o := PySem.W.of_hideAll (trk h H) e
  refine ⟨e', ?_⟩
  cases q : H b with
  | none => rfl
  | some x =>
    have hm : b ∈ trk h H := List.mem_filter.mpr ⟨List.mem_range.mpr (Heap.lt_size e'), by simp [q]⟩
    have z : (hidT h H).get? b = none := PySem.W.hideAll_none (trk h H) hm
    rw [z] at e; cases e
end L2
namespace L2
open PySem PySem.Spec PyProof.Rows
/-- the module's facts, over the base: the heap at the law's entry without what is tracked there -/
structure Mod (K : PySem.W.Frag) (mg : Str → Option Value) (base : Heap) : Prop where
  kin : K.In base
  glob : base.Ns mainGlobals mg
  blt : ∃ mb, base.Ns builtinsNs mb ∧ ∀ x : Str, x ≠ "__name__" → mb x = bootBuiltins x
  nolimit : base.NoLimit
/-- the context: a def's body (or a comprehension's block) running. base: fixed through the whole law; s₀, H₀: the entry; outer: the frames whose slots others may change (a def's callers); stack: all frames that run;
   ex: iterators that were made ahead of the entry and are walked here (a comprehension's); fn: the names whose cells were made at the entry (a def: all; a comprehension's block: its own); calm: not within an except suite; pn: pins that every state bears; xe: what is wanted of an exception that leaves the code -/
structure Cx where
  prog : Program
  w : World
  K : PySem.W.Frag
  mg : Str → Option Value
  base : Heap
  A : Around
  N : List Str
  s₀ : Shared
  H₀ : Hp
  env : Env
  outer : List Env
  stack : List Env
  ex : List Addr
  fn : Str → Bool
  calm : Bool
  pn : List (Addr × Obj)
  xe : Value → Shared → Prop
/-- the callers' frames -/
noncomputable def frs (l : List Env) : List Addr := l.filterMap (·.frame)
noncomputable abbrev Cx.fs (X : Cx) : List Addr := frs X.outer
noncomputable def Vis (sc : Scope) (x : Str) : Prop := sc.names.lookup x = some .local ∨ sc.names.lookup x = some .cell ∨ sc.names.lookup x = some .free
noncomputable def Loc (sc : Scope) (x : Str) : Prop := sc.names.lookup x = some .local ∨ sc.names.lookup x = some .cell
noncomputable def Look (env : Env) (h : Heap) (m : Str → Option Value) (x : Str) (u : Value) : Prop :=
  (env.kindOf x = some .local ∧ m x = some u) ∨ ((env.kindOf x = some .cell ∨ env.kindOf x = some .free) ∧ ∃ c, env.cells.lookup x = some c ∧ h.IsCell c (some u))
structure Cx.Ok (X : Cx) : Prop where
  mod : Mod X.K X.mg X.base
  kind : X.env.scope.kind = .function
  glob : X.env.globals = mainGlobals
  blt : X.env.builtins = builtinsNs
  above : X.s₀.heap.objs.size ≤ X.env.locals
  inj : ∀ x y c, X.env.cells.lookup x = some c → X.env.cells.lookup y = some c → x = y
  has : ∀ x, (X.env.kindOf x = some .cell ∨ X.env.kindOf x = some .free) → ∃ c, X.env.cells.lookup x = some c
  cab : ∀ x c, X.fn x = true → X.env.cells.lookup x = some c → X.s₀.heap.objs.size ≤ c
  hd : X.calm = true → X.A.handled = none
  frames : X.A.frames = some X.stack
  stk : X.stack = X.outer ∨ (X.stack = X.env :: X.outer ∧ X.env.frame = some X.env.locals)
  exf : ∀ b ∈ X.ex, b ≠ X.env.locals ∧ ∀ x c, X.env.cells.lookup x = some c → c ≠ b
  bs : ∀ b o, X.base.get? b = some o → X.s₀.heap.get? b = some o ∧ X.H₀ b = none
  bsz : X.base.objs.size ≤ X.s₀.heap.objs.size
  noex : ∀ b o, X.base.get? b = some o → b ∉ X.ex
  exfs : ∀ b ∈ X.ex, b ∉ X.fs
  funs : X.s₀.heap.FunFrames X.base X.outer
  frf : ∀ b ∈ X.fs, X.H₀ b = none
structure Inv (X : Cx) (pins : List (Addr × Obj)) (σ : List (Option V)) (H : Hp) (s : Shared) : Prop where
  ok : X.Ok
  os : s.os = X.s₀.os
  bare : AllBare s.gens
  base : Un X.fs X.ex X.H₀ H X.s₀.heap s.heap
  loc : ∃ m, s.heap.Ns X.env.locals m ∧ ∀ (i : Nat) (x : Str) (v : V), X.N[i]? = some x → σ[i]? = some (some v) → Vis X.env.scope x → ∃ u, RelV v u ∧ Look X.env s.heap m x u
  cell : ∀ x c, X.env.cells.lookup x = some c → ∃ v, s.heap.IsCell c v
  free : H X.env.locals = none
  freeC : ∀ x c, X.env.cells.lookup x = some c → H c = none
  pin : ∀ p ∈ X.pn ++ pins, s.heap.get? p.1 = some p.2 ∧ H p.1 = none ∧ p.1 ≠ X.env.locals ∧ p.1 ∉ X.fs ∧ ∀ v, p.2.data ≠ .cell v
  hok : HOk X.prog X.w H s.heap
  len : σ.length = X.N.length
section
variable {X : Cx} {pins : List (Addr × Obj)} {σ : List (Option V)} {H H' : Hp} {s : Shared} {h' : Heap}
theorem Cx.Ok.nofr (ok : X.Ok) {b : Addr} {o : Obj} (e : X.base.get? b = some o) : b ∉ X.fs := fun hb => by
  have := (ok.funs.mem hb).1
  rw [e] at this; cases this
theorem Inv.bs (I : Inv X pins σ H s) : ∀ b o, X.base.get? b = some o → s.heap.get? b = some o ∧ H b = none := fun b o e =>
  ⟨I.base.keep b o (I.ok.bs b o e).1 (I.ok.bs b o e).2 (I.ok.nofr e) (I.ok.noex b o e), I.base.free b o (I.ok.bs b o e).1 (I.ok.bs b o e).2 (I.ok.noex b o e)⟩
theorem Inv.bk (I : Inv X pins σ H s) : ∀ b o, X.base.get? b = some o → s.heap.get? b = some o := fun b o e => (I.bs b o e).1
theorem Inv.mod (I : Inv X pins σ H s) : Mod X.K X.mg X.base := I.ok.mod
theorem Inv.kIn (I : Inv X pins σ H s) : X.K.In s.heap := I.ok.mod.kin.keeps I.bk
theorem Inv.lt (I : Inv X pins σ H s) : X.env.locals < s.heap.objs.size := let ⟨_, hn, _⟩ := I.loc; hn.lt
theorem Inv.sz (I : Inv X pins σ H s) : X.s₀.heap.objs.size ≤ s.heap.objs.size := Nat.le_trans I.ok.above (Nat.le_of_lt I.lt)
theorem Inv.nofs (I : Inv X pins σ H s) {a : Addr} (h : s.heap.objs.size ≤ a) : a ∉ X.fs := fun hb => by
  obtain ⟨_, o, ho, _⟩ := I.ok.funs.mem hb
  exact absurd (Nat.lt_of_lt_of_le (Heap.lt_size ho) (Nat.le_trans I.sz h)) (Nat.lt_irrefl _)
theorem Inv.cne (I : Inv X pins σ H s) : ∀ x c, X.env.cells.lookup x = some c → c ≠ X.env.locals := fun x c e z => by
  obtain ⟨v, o, ho, hd⟩ := I.cell x c e
  obtain ⟨m, ⟨o', es, ep, ho', hd', _⟩, _⟩ := I.loc
  rw [z, ho'] at ho; cases ho; rw [hd'] at hd; cases hd
theorem Inv.funs (I : Inv X pins σ H s) : s.heap.FunFrames X.base X.outer := by
  have all : ∀ (l : List Env), (∀ b ∈ frs l, b ∈ X.fs) → X.s₀.heap.FunFrames X.base l → s.heap.FunFrames X.base l := by
    intro l
    induction l with
    | nil => intro _ _; trivial
    | cons env r ih =>
      intro hs hl
      obtain ⟨hk, ⟨L, o, hf, hn, ho, hd⟩, hr⟩ := hl
      have hL : L ∈ X.fs := hs L (by unfold frs; rw [List.filterMap_cons, hf]; exact List.mem_cons_self)
      obtain ⟨sl, e⟩ := I.base.slot L o ho (I.ok.frf L hL) hL fun z => I.ok.exfs L z hL
      exact ⟨hk, ⟨L, _, hf, hn, e, hd⟩, ih (fun b hb => hs b (by unfold frs; rw [List.filterMap_cons, hf]; exact List.mem_cons_of_mem _ hb)) hr⟩
  exact all X.outer (fun _ hb => hb) I.ok.funs
/-- the frames that run, for a call -/
theorem Inv.stack (I : Inv X pins σ H s) : s.heap.FunFrames X.base X.stack := by
  rcases I.ok.stk with e | ⟨e, hf⟩
  · rw [e]; exact I.funs
  · rw [e]
    obtain ⟨m, hn, _⟩ := I.loc
    refine .cons (by rw [I.ok.kind]; decide) hf hn ?_ I.funs
    exact Heap.get?_none_of_le (Nat.le_trans I.ok.bsz I.ok.above)
theorem Inv.stkSub (I : Inv X pins σ H s) : ∀ b ∈ frs X.stack, b ∈ X.env.locals :: X.fs := fun b hb => by
  rcases I.ok.stk with e | ⟨e, hf⟩
  · rw [e] at hb; exact List.mem_cons_of_mem _ hb
  · rw [e] at hb
    unfold frs at hb
    rw [List.filterMap_cons, hf] at hb
    exact hb
theorem Inv.stkFree (I : Inv X pins σ H s) : ∀ b ∈ frs X.stack, H b = none := fun b hb => by
  rcases List.mem_cons.mp (I.stkSub b hb) with e | hb
  · rw [e]; exact I.free
  · obtain ⟨_, o, ho, _⟩ := I.ok.funs.mem hb
    exact I.base.free b o ho (I.ok.frf b hb) fun z => I.ok.exfs b z hb
/-- THE STEP: the untracked objects but the frame and the records at ch are kept (the callers' frames up to slots), the frame's map is kept, the new abstract heap is held -/
theorem Inv.step {g' : Array GenState} {t' : Nat} {d' : Drawn} {ch : List Addr} (I : Inv X pins σ H s)
    (hch : ∀ b ∈ ch, (b ∈ X.ex ∨ X.s₀.heap.objs.size ≤ b) ∧ b ≠ X.env.locals ∧ (∀ x c, X.env.cells.lookup x = some c → c ≠ b) ∧ ∀ p ∈ X.pn ++ pins, p.1 ≠ b)
    (keep : ∀ b o, b ≠ X.env.locals → b ∉ X.fs → b ∉ ch → s.heap.get? b = some o → H b = none → h'.get? b = some o)
    (slot : ∀ b o, b ≠ X.env.locals → b ∈ X.fs → b ∉ ch → s.heap.get? b = some o → H b = none → ∃ sl, h'.get? b = some { o with slots := sl }) (free : ∀ b o, b ∉ ch → s.heap.get? b = some o → H b = none → H' b = none)
    (there : ∀ b o, b ∉ ch → s.heap.get? b = some o → ∃ o', h'.get? b = some o')
    (tups : ∀ b xs, H b = some (.tup xs) → H' b = some (.tup xs)) (frzs : ∀ b o u, H b = some (.frz o u) → H' b = some (.frz o u)) (tbls : ∀ b ps, H b = some (.tbl ps) → ∃ more, H' b = some (.tbl (ps ++ more)))
    (ns : ∀ m, s.heap.Ns X.env.locals m → h'.Ns X.env.locals m) (hok : HOk X.prog X.w H' h') (hg : AllBare g') :
    Inv X pins σ H' { s with heap := h', gens := g', drawn := d', toks := t' } := by
  have neL : ∀ b o, X.s₀.heap.get? b = some o → b ≠ X.env.locals := fun b o e => Nat.ne_of_lt (Nat.lt_of_lt_of_le (Heap.lt_size e) I.ok.above)
  have neC : ∀ b o, X.s₀.heap.get? b = some o → b ∉ X.ex → b ∉ ch := fun b o e hx hb => by
    rcases (hch b hb).1 with z | z
    · exact hx z
    · exact absurd (Nat.lt_of_lt_of_le (Heap.lt_size e) z) (Nat.lt_irrefl _)
  have cellK : ∀ x c, X.env.cells.lookup x = some c → ∀ v, s.heap.IsCell c v → h'.IsCell c v := fun x c e v ⟨o, ho, hd⟩ => by
    have nch : c ∉ ch := fun z => (hch c z).2.2.1 x c e rfl
    by_cases hc : c ∈ X.fs
    · obtain ⟨sl, q⟩ := slot c o (I.cne x c e) hc nch ho (I.freeC x c e)
      exact ⟨_, q, hd⟩
    · exact ⟨o, keep c o (I.cne x c e) hc nch ho (I.freeC x c e), hd⟩
  refine ⟨I.ok, I.os, hg, ⟨fun b o e n hb hx => ?_, fun b o e n hb hx => ?_, fun b o e n hx => ?_, fun b o e hx => ?_, fun b xs e => tups b xs (I.base.tups b xs e), fun b o xs e => frzs b o xs (I.base.frzs b o xs e), fun b ps e => ?_⟩, ?_, fun x c e => ?_, ?_, fun x c e => ?_, fun p hp => ?_, hok, I.len⟩
  · exact keep b o (neL b o e) hb (neC b o e hx) (I.base.keep b o e n hb hx) (I.base.free b o e n hx)
  · obtain ⟨sl, e1⟩ := I.base.slot b o e n hb hx
    obtain ⟨sl', e2⟩ := slot b _ (neL b o e) hb (neC b o e hx) e1 (I.base.free b o e n hx)
    exact ⟨sl', e2⟩
  · obtain ⟨o', e1⟩ := I.base.there b o e hx
    exact free b o' (neC b o e hx) e1 (I.base.free b o e n hx)
  · obtain ⟨o', e1⟩ := I.base.there b o e hx
    exact there b o' (neC b o e hx) e1
  · obtain ⟨m1, e1⟩ := I.base.tbls b ps e
    obtain ⟨m2, e2⟩ := tbls b _ e1
    exact ⟨m1 ++ m2, by rw [e2, Array.append_assoc]⟩
  · obtain ⟨m, hn, hl⟩ := I.loc
    refine ⟨m, ns m hn, fun i x v e1 e2 e3 => ?_⟩
    obtain ⟨u, r, l⟩ := hl i x v e1 e2 e3
    refine ⟨u, r, ?_⟩
    rcases l with l | ⟨k, c, e, z⟩
    · exact .inl l
    · exact .inr ⟨k, c, e, cellK x c e _ z⟩
  · obtain ⟨v, z⟩ := I.cell x c e
    exact ⟨v, cellK x c e v z⟩
  · obtain ⟨m, ⟨o, _, _, ho, _⟩, _⟩ := I.loc
    exact free _ o (fun z => (hch _ z).2.1 rfl) ho I.free
  · obtain ⟨v, o, ho, hd⟩ := I.cell x c e
    exact free c o (fun z => (hch c z).2.2.1 x c e rfl) ho (I.freeC x c e)
  · obtain ⟨e, n, ne, nf, d⟩ := I.pin p hp
    have nch : p.1 ∉ ch := fun z => (hch p.1 z).2.2.2 p hp rfl
    exact ⟨keep p.1 p.2 ne nf nch e n, free p.1 p.2 nch e n, ne, nf, d⟩
/-- .. where the frame's own object is kept too -/
theorem Inv.un {t' : Nat} (I : Inv X pins σ H s) (u : Un X.fs [] H H' s.heap h') (hok : HOk X.prog X.w H' h') : Inv X pins σ H' { s with heap := h', toks := t' } := by
  obtain ⟨m, ⟨o, es, ep, ho, r⟩, _⟩ := id I.loc
  obtain ⟨sl, hL⟩ := u.any ho I.free (by simp)
  exact I.step (g' := s.gens) (d' := s.drawn) (ch := []) (fun _ z => nomatch z) (fun b o _ hb _ e n => u.keep b o e n hb (by simp)) (fun b o _ hb _ e n => u.slot b o e n hb (by simp)) (fun b o _ e n => u.free b o e n (by simp)) (fun b o _ e => u.there b o e (by simp)) u.tups u.frzs u.tbls (fun m' hm => by
    obtain ⟨o', es', ep', ho', r'⟩ := hm
    rw [ho] at ho'; cases ho'
    exact ⟨_, es', ep', hL, r'⟩) hok I.bare
/-- behind a call (or a comprehension's block): the slots of this frame may have changed too, the records at ch may have turned -/
theorem Inv.call {g' : Array GenState} {t' : Nat} {d' : Drawn} {ch : List Addr} (I : Inv X pins σ H s) (u : Un (frs X.stack) ch H H' s.heap h') (hok : HOk X.prog X.w H' h') (hg : AllBare g')
    (hch : ∀ b ∈ ch, (b ∈ X.ex ∨ X.s₀.heap.objs.size ≤ b) ∧ b ≠ X.env.locals ∧ (∀ x c, X.env.cells.lookup x = some c → c ≠ b) ∧ ∀ p ∈ X.pn ++ pins, p.1 ≠ b) :
    Inv X pins σ H' { s with heap := h', gens := g', drawn := d', toks := t' } := by
  obtain ⟨m, ⟨o, es, ep, ho, r⟩, _⟩ := id I.loc
  obtain ⟨sl, hL⟩ := u.any ho I.free fun z => (hch _ z).2.1 rfl
  exact I.step (ch := ch) hch (fun b o hL hb hc e n => u.keep b o e n (fun z => (List.mem_cons.mp (I.stkSub b z)).elim hL hb) hc) (fun b o _ _ hc e n => u.any e n hc) (fun b o hc e n => u.free b o e n hc) (fun b o hc e => u.there b o e hc) u.tups u.frzs u.tbls (fun m' hm => by
    obtain ⟨o', es', ep', ho', r'⟩ := hm
    rw [ho] at ho'; cases ho'
    exact ⟨_, es', ep', hL, r'⟩) hok hg
/-- an untracked record of ours (an iterator) has turned -/
theorem Inv.turned {t' : Nat} {it : Addr} (I : Inv X pins σ H s) (k : ∀ b o, b ≠ it → s.heap.get? b = some o → h'.get? b = some o) (hn : H it = none) (hL : it ≠ X.env.locals)
    (h1 : it ∈ X.ex ∨ X.s₀.heap.objs.size ≤ it) (h2 : ∀ x c, X.env.cells.lookup x = some c → c ≠ it) (h3 : ∀ p ∈ X.pn ++ pins, p.1 ≠ it) : Inv X pins σ H { s with heap := h', toks := t' } := by
  have nit : ∀ b u, H b = some u → b ≠ it := fun b u e z => by rw [z, hn] at e; cases e
  refine I.step (g' := s.gens) (d' := s.drawn) (ch := [it]) (fun b hb => ?_) (fun b o _ _ hc e _ => k b o (fun z => hc (by simp [z])) e) (fun b o _ _ hc e _ => ⟨o.slots, k b o (fun z => hc (by simp [z])) e⟩) (fun _ _ _ _ n => n)
    (fun b o hc e => ⟨o, k b o (fun z => hc (by simp [z])) e⟩) (fun _ _ e => e) (fun _ _ _ e => e) (fun b ps e => ⟨#[], by rw [e]; simp⟩) (fun m hm => ?_) (fun b u e => ?_) I.bare
  · have e : b = it := by simpa using hb
    subst e
    exact ⟨h1, hL, h2, h3⟩
  · obtain ⟨o, es, ep, ho, r⟩ := hm
    exact ⟨o, es, ep, k _ o (Ne.symm hL) ho, r⟩
  · refine (I.hok b u e).stay (fun c v hc q => k c v ?_ q) (fun _ q => q) fun _ _ q => q
    rcases hc with z | z
    · rw [z]; exact nit b u e
    · exact nit c _ z
theorem Inv.tok (I : Inv X pins σ H s) (t : Nat) : Inv X pins σ H { s with toks := t } := I.un (h' := s.heap) (t' := t) Un.refl I.hok
/-- all objects kept -/
theorem Inv.kept {t' : Nat} (I : Inv X pins σ H s) (k : ∀ b u, s.heap.get? b = some u → h'.get? b = some u) : Inv X pins σ H { s with heap := h', toks := t' } := I.un (Un.kept k) (I.hok.kept k)
/-- a new object laid and tracked -/
theorem Inv.laid {a : Addr} {o : HO} {t' : Nat} (I : Inv X pins σ H s) (k : ∀ b u, s.heap.get? b = some u → h'.get? b = some u) (hp : s.heap.objs.size ≤ a) (new : ObjOk X.prog X.w (upd H a o) h' a o) :
    Inv X pins σ (upd H a o) { s with heap := h', toks := t' } := I.un (Un.laid k hp (I.hok.fresh hp)) (I.hok.laid k hp new)
/-- an object written -/
theorem Inv.write {x e : Addr} {o : HO} {t' : Nat} (I : Inv X pins σ H s) (mu : Mut (H x)) (he : e = x ∨ H e = some (.own x)) (k : ∀ b u, b ≠ e → s.heap.get? b = some u → h'.get? b = some u) (heo : ∃ u, h'.get? e = some u)
    (new : ObjOk X.prog X.w (upd H x o) h' x o) : Inv X pins σ (upd H x o) { s with heap := h', toks := t' } := I.un (Un.write mu he k heo) (I.hok.write mu he k heo new)
/-- forgetting slots, pins -/
theorem Inv.weak {σ' : List (Option V)} (I : Inv X pins σ H s) (hl : σ'.length = σ.length) (w : ∀ (i : Nat) v, σ'[i]? = some (some v) → σ[i]? = some (some v)) : Inv X pins σ' H s :=
  ⟨I.ok, I.os, I.bare, I.base, let ⟨m, hn, hl'⟩ := I.loc; ⟨m, hn, fun i x v e1 e2 e3 => hl' i x v e1 (w i v e2) e3⟩, I.cell, I.free, I.freeC, I.pin, I.hok, hl.trans I.len⟩
theorem Inv.pins_of {pins' : List (Addr × Obj)} (I : Inv X pins σ H s) (h : ∀ p ∈ pins', s.heap.get? p.1 = some p.2 ∧ H p.1 = none ∧ p.1 ≠ X.env.locals ∧ p.1 ∉ X.fs ∧ ∀ v, p.2.data ≠ .cell v) : Inv X pins' σ H s :=
  ⟨I.ok, I.os, I.bare, I.base, I.loc, I.cell, I.free, I.freeC, fun p hp => (List.mem_append.mp hp).elim (fun z => I.pin p (List.mem_append_left _ z)) (h p), I.hok, I.len⟩
theorem nodup_ix {N : List Str} (hN : N.Nodup) {i j : Nat} {x : Str} (a : N[i]? = some x) (b : N[j]? = some x) : i = j := by
  obtain ⟨h1, e1⟩ := List.getElem?_eq_some_iff.mp a
  obtain ⟨h2, e2⟩ := List.getElem?_eq_some_iff.mp b
  exact (List.getElem_inj hN).mp (e1.trans e2.symm)
/-- a name is stored; what changed -/
theorem store_ok2 {M : Model} {A : Around} {E : Value → Shared → Prop} {i : Nat} {x : Str} {v : V} {u : Value} {Q : Unit → Shared → Prop} (I : Inv X pins σ H s) (hN : X.N.Nodup) (hi : X.N[i]? = some x) (hx : Loc X.env.scope x) (r : RelV v u)
    (h : ∀ s', Inv X pins (σ.set i (some v)) H s' → (∃ a, Heap.SameBut a s.heap s'.heap ∧ (a = X.env.locals ∨ X.env.cells.lookup x = some a)) → Q () s') (hf : X.fn x = true ∨ X.env.scope.names.lookup x = some .local := by first | exact .inl rfl | exact .inr rfl | assumption) : wpAny M A (storeName X.env x u) Q E s := by
  obtain ⟨m, hn, hl⟩ := id I.loc
  have hcls : (X.env.scope.kind == .class || (X.env.scope.kind == .module && X.env.locals != X.env.globals)) = false := by rw [I.ok.kind]; rfl
  have hiσ : i < σ.length := by rw [I.len]; exact (List.getElem?_eq_some_iff.mp hi).1
  have cne := I.cne
  have tracked : ∀ {a : Addr} {h' : Heap}, (∃ o, s.heap.get? a = some o ∧ H a = none) → Heap.SameBut a s.heap h' → HOk X.prog X.w H h' := fun {a h'} ha hs b ob e => by
    obtain ⟨_, _, hfree⟩ := ha
    refine (I.hok b ob e).stay (fun c w' hc q => (hs.2 c ?_).trans q) (fun _ q => q) fun _ _ q => q
    rintro rfl
    rcases hc with rfl | hc
    · rw [hfree] at e; cases e
    · rw [hfree] at hc; cases hc
  rcases hx with hk | hk
  · refine wpAny_storeName_local hk hn (fun h' hn' hs => ?_) hcls
    obtain ⟨oL, _, _, hoL, _⟩ := id hn
    refine h _ ⟨I.ok, I.os, I.bare, ⟨fun b o e n hb hx => ?_, fun b o e n hb hx => ?_, I.base.free, fun b o e hx => ?_, I.base.tups, I.base.frzs, I.base.tbls⟩, ⟨_, hn', fun j y v' e1 e2 e3 => ?_⟩, fun y c e => ?_, I.free, I.freeC, fun p hp => ?_, tracked ⟨oL, hoL, I.free⟩ hs, by simpa using I.len⟩ ⟨_, hs, .inl rfl⟩
    · exact (hs.2 b (Nat.ne_of_lt (Nat.lt_of_lt_of_le (Heap.lt_size e) I.ok.above))).trans (I.base.keep b o e n hb hx)
    · obtain ⟨sl, e1⟩ := I.base.slot b o e n hb hx
      exact ⟨sl, (hs.2 b (Nat.ne_of_lt (Nat.lt_of_lt_of_le (Heap.lt_size e) I.ok.above))).trans e1⟩
    · obtain ⟨o', e1⟩ := I.base.there b o e hx
      exact ⟨o', (hs.2 b (Nat.ne_of_lt (Nat.lt_of_lt_of_le (Heap.lt_size e) I.ok.above))).trans e1⟩
    · by_cases hj : j = i
      · subst hj
        rw [hi] at e1; cases e1
        rw [List.getElem?_set_self hiσ] at e2
        cases e2
        exact ⟨u, r, .inl ⟨hk, by simp⟩⟩
      · rw [List.getElem?_set_ne (Ne.symm hj)] at e2
        obtain ⟨u', r', q⟩ := hl j y v' e1 e2 e3
        refine ⟨u', r', ?_⟩
        rcases q with ⟨k, e⟩ | ⟨k, c, e, z⟩
        · refine .inl ⟨k, ?_⟩
          have : y ≠ x := fun e => hj (nodup_ix hN e1 (e ▸ hi))
          simp [this, e]
        · exact .inr ⟨k, c, e, z.sameBut hs (cne y c e)⟩
    · obtain ⟨w', z⟩ := I.cell y c e
      exact ⟨w', z.sameBut hs (cne y c e)⟩
    · obtain ⟨e, n, ne, nf, d⟩ := I.pin p hp
      exact ⟨(hs.2 p.1 ne).trans e, n, ne, nf, d⟩
  · have hfn : X.fn x = true := by
      rcases hf with z | z
      · exact z
      · rw [z] at hk; cases hk
    obtain ⟨c, hc⟩ := I.ok.has x (.inl hk)
    obtain ⟨w', z⟩ := I.cell x c hc
    refine wpAny_storeName_cell I.ok.kind hk hc z (fun h' hc' hs => ?_)
    obtain ⟨oc, hoc, hocd⟩ := id z
    refine h { s with heap := h' } ⟨I.ok, I.os, I.bare, ⟨fun b o e n hb hx => ?_, fun b o e n hb hx => ?_, I.base.free, fun b o e hx => ?_, I.base.tups, I.base.frzs, I.base.tbls⟩, ⟨m, hn.sameBut hs (Ne.symm (cne x c hc)), fun j y v' e1 e2 e3 => ?_⟩, fun y c' e => ?_, I.free, I.freeC, fun p hp => ?_, tracked ⟨oc, hoc, I.freeC x c hc⟩ hs, by simpa using I.len⟩ ⟨c, hs, .inr hc⟩
    · exact (hs.2 b (Nat.ne_of_lt (Nat.lt_of_lt_of_le (Heap.lt_size e) (I.ok.cab x c hfn hc)))).trans (I.base.keep b o e n hb hx)
    · obtain ⟨sl, e1⟩ := I.base.slot b o e n hb hx
      exact ⟨sl, (hs.2 b (Nat.ne_of_lt (Nat.lt_of_lt_of_le (Heap.lt_size e) (I.ok.cab x c hfn hc)))).trans e1⟩
    · obtain ⟨o', e1⟩ := I.base.there b o e hx
      exact ⟨o', (hs.2 b (Nat.ne_of_lt (Nat.lt_of_lt_of_le (Heap.lt_size e) (I.ok.cab x c hfn hc)))).trans e1⟩
    · by_cases hj : j = i
      · subst hj
        rw [hi] at e1; cases e1
        rw [List.getElem?_set_self hiσ] at e2
        cases e2
        exact ⟨u, r, .inr ⟨.inl hk, c, hc, hc'⟩⟩
      · rw [List.getElem?_set_ne (Ne.symm hj)] at e2
        obtain ⟨u', r', q⟩ := hl j y v' e1 e2 e3
        refine ⟨u', r', ?_⟩
        rcases q with q | ⟨k, c', e, z'⟩
        · exact .inl q
        · refine .inr ⟨k, c', e, z'.sameBut hs ?_⟩
          rintro rfl
          exact hj (nodup_ix hN e1 (I.ok.inj _ _ _ e hc ▸ hi))
    · by_cases hcc : c' = c
      · subst hcc; exact ⟨_, hc'⟩
      · obtain ⟨w2, z2⟩ := I.cell y c' e
        exact ⟨w2, z2.sameBut hs hcc⟩
    · obtain ⟨e, n, ne, nf, d⟩ := I.pin p hp
      refine ⟨(hs.2 p.1 ?_).trans e, n, ne, nf, d⟩
      intro q
      rw [q, hoc] at e
      have q' : oc = p.2 := Option.some.inj e
      exact d w' (by rw [← q']; exact hocd)
theorem store_ok {M : Model} {A : Around} {E : Value → Shared → Prop} {i : Nat} {x : Str} {v : V} {u : Value} {Q : Unit → Shared → Prop} (I : Inv X pins σ H s) (hN : X.N.Nodup) (hi : X.N[i]? = some x) (hx : Loc X.env.scope x) (r : RelV v u)
    (h : ∀ s', Inv X pins (σ.set i (some v)) H s' → Q () s') (hf : X.fn x = true ∨ X.env.scope.names.lookup x = some .local := by first | exact .inl rfl | exact .inr rfl | assumption) : wpAny M A (storeName X.env x u) Q E s :=
  store_ok2 I hN hi hx r (fun s' I' _ => h s' I') hf
/-- behind a call or a block, the state as it is -/
theorem Inv.call' {s' : Shared} {ch : List Addr} (I : Inv X pins σ H s) (ho : s'.os = s.os) (u : Un (frs X.stack) ch H H' s.heap s'.heap) (hok : HOk X.prog X.w H' s'.heap) (hg : AllBare s'.gens)
    (hch : ∀ b ∈ ch, (b ∈ X.ex ∨ X.s₀.heap.objs.size ≤ b) ∧ b ≠ X.env.locals ∧ (∀ x c, X.env.cells.lookup x = some c → c ≠ b) ∧ ∀ p ∈ X.pn ++ pins, p.1 ≠ b) : Inv X pins σ H' s' := by
  obtain ⟨h', g', d', t', o'⟩ := s'
  have e : o' = s.os := ho
  subst e
  exact I.call (g' := g') (t' := t') (d' := d') u hok hg hch
end
/-- an exception: its class, its own dict's address (where it has one), the abstract heap behind it -/
noncomputable abbrev XK := Value → Option Addr → Hp → Prop
noncomputable abbrev St := List (Option V)
noncomputable abbrev VK := V → Hp → Prop
/-- an expression's reading; a test's; an argument list's -/
noncomputable abbrev TE := St → Hp → VK → Prop
noncomputable abbrev TT := St → Hp → (Bool → Hp → Prop) → Prop
noncomputable abbrev TA := St → Hp → (List V → Hp → Prop) → Prop
/-- what is wanted behind a statement -/
structure Ends where
  nx : St → Hp → Prop
  rt : VK
  bk : St → Hp → Prop := fun _ _ => False
  ct : St → Hp → Prop := fun _ _ => False
noncomputable abbrev TS := Ends → St → Hp → Prop
noncomputable def EP (X : Cx) (pins : List (Addr × Obj)) (σ : St) (Q : VK) (u : Value) (s' : Shared) : Prop := ∃ v H', Inv X pins σ H' s' ∧ RelV v u ∧ Q v H'
noncomputable def TP (X : Cx) (pins : List (Addr × Obj)) (σ : St) (Q : Bool → Hp → Prop) (b : Bool) (s' : Shared) : Prop := ∃ H', Inv X pins σ H' s' ∧ Q b H'
noncomputable def AP (X : Cx) (pins : List (Addr × Obj)) (σ : St) (Q : List V → Hp → Prop) (us : List Value) (s' : Shared) : Prop := ∃ vs H', Inv X pins σ H' s' ∧ Vals vs us ∧ Q vs H'
noncomputable def SP (X : Cx) (pins : List (Addr × Obj)) (D : Ends) (f : Flow) (s' : Shared) : Prop :=
  match f with
  | .next => ∃ σ' H', Inv X pins σ' H' s' ∧ D.nx σ' H'
  | .brk => ∃ σ' H', Inv X pins σ' H' s' ∧ D.bk σ' H'
  | .cont => ∃ σ' H', Inv X pins σ' H' s' ∧ D.ct σ' H'
  | .ret u => ∃ v σ' H', Inv X pins σ' H' s' ∧ RelV v u ∧ D.rt v H'
noncomputable def PE (X : Cx) (e : Expr) (t : TE) : Prop :=
  ∀ (pins : List (Addr × Obj)) (s : Shared) (σ : St) (H : Hp) (Q : VK), Inv X pins σ H s → t σ H Q → wpAny (model X.prog X.w) X.A (eval e X.env) (EP X pins σ Q) X.xe s
noncomputable def PT (X : Cx) (e : Expr) (t : TT) : Prop :=
  ∀ (pins : List (Addr × Obj)) (s : Shared) (σ : St) (H : Hp) (Q : Bool → Hp → Prop), Inv X pins σ H s → t σ H Q → wpAny (model X.prog X.w) X.A (isTrue e X.env (eval e X.env)) (TP X pins σ Q) X.xe s
/-- an argument list (no star), from the left -/
noncomputable def PA (X : Cx) (es : List Expr) (t : TA) : Prop :=
  ∀ (pos : Pos) (pins : List (Addr × Obj)) (s : Shared) (σ : St) (H : Hp) (Q : List V → Hp → Prop), Inv X pins σ H s → t σ H Q → wpAny (model X.prog X.w) X.A (spliced (backTo pos (starEach es X.env))) (AP X pins σ Q) X.xe s
noncomputable def PS (X : Cx) (st : Stmt) (t : TS) : Prop :=
  ∀ (pins : List (Addr × Obj)) (s : Shared) (σ : St) (H : Hp) (D : Ends), Inv X pins σ H s → t D σ H → wpAny (model X.prog X.w) X.A (exec st X.env) (SP X pins D) X.xe s
noncomputable def PSs (X : Cx) (st : List Stmt) (t : TS) : Prop :=
  ∀ (pins : List (Addr × Obj)) (s : Shared) (σ : St) (H : Hp) (D : Ends), Inv X pins σ H s → t D σ H → wpAny (model X.prog X.w) X.A (execs st X.env) (SP X pins D) X.xe s
/-- weaken the end -/
theorem thn {α : Type} {t : Sem α} {Q Q' : α → Shared → Prop} {M : Model} {A : Around} {E : Value → Shared → Prop} {s : Shared} (h : wpAny M A t Q E s) (hQ : ∀ a s, Q a s → Q' a s) : wpAny M A t Q' E s := wpAny_mono h hQ fun _ _ x => x
end L2
namespace L2
open PySem PySem.Spec PyProof.Rows
section
variable {X : Cx}
noncomputable def tVar (i : Nat) : TE := fun σ H Q => ∃ v, σ[i]? = some (some v) ∧ Q v H
noncomputable def tC (v : V) : TE := fun _ H Q => Q v H
theorem pe_var {i : Nat} {x : Str} {pos : Pos} (hN : X.N[i]? = some x) (hv : Vis X.env.scope x) (hd : (x == ("__debug__" : Str)) = false := by decide) (hcd : (x == ("__classdict__" : Str)) = false := by decide) : PE X (.Name x pos) (tVar i) := by
  intro pins s σ H Q I h
  obtain ⟨v, e, h⟩ := h
  obtain ⟨m, hn, hl⟩ := I.loc
  obtain ⟨u, r, l⟩ := hl i x v hN e hv
  have fin : EP X pins σ Q u s := ⟨v, H, I, r, h⟩
  rcases l with ⟨hk, hm⟩ | ⟨hk, c, hc, hcell⟩
  · exact wpAny_Name (wpAny_loadName_local I.ok.kind hk hn hm fin) hd
  · rcases hk with hk | hk
    · exact wpAny_Name (wpAny_loadName_cell I.ok.kind hk hc hcell fin) hd
    · exact wpAny_Name (wpAny_loadName_free I.ok.kind hk hc hcell fin hcd) hd
theorem pe_int {i j pos} : PE X (.Constant (.int i) j pos) (tC (.int i)) := fun _ _ _ H _ I h => wpAny_Constant_int ⟨.int i, H, I.tok _, ⟨_, rfl⟩, h⟩
theorem pe_bl {b j pos} : PE X (.Constant (.bool b) j pos) (tC (.bl b)) := fun _ _ _ H _ I h => Constant_bool ⟨.bl b, H, I, rfl, h⟩
theorem pe_non {j pos} : PE X (.Constant .none j pos) (tC .non) := fun _ _ _ H _ I h => Constant_none ⟨.non, H, I, rfl, h⟩
theorem pe_str {x j pos} : PE X (.Constant (.str x) j pos) (tC (.str x)) := fun _ _ _ H _ I h => Calls.Constant_str ⟨.str x, H, I.tok _, ⟨_, rfl⟩, h⟩
/-- a global name of the def -/
noncomputable def Gl (X : Cx) (x : Str) : Prop := X.env.kindOf x = some .globalImplicit
theorem ld_glob {E : Value → Shared → Prop} {pins : List (Addr × Obj)} {s : Shared} {σ : St} {H : Hp} {x : Str} {u : Value} {pos : Pos} {Q : Value → Shared → Prop} (I : Inv X pins σ H s) (hg : Gl X x) (hm : X.mg x = some u) (h : Q u s)
    (hd : (x == ("__debug__" : Str)) = false := by decide) : wpAny (model X.prog X.w) X.A (eval (.Name x pos) X.env) Q E s :=
  Calls.Name_function_global I.ok.kind hg (Calls.loadGlobal_global (by rw [I.ok.glob]; exact I.mod.glob.keeps I.bk) hm h) hd
theorem ld_blt {E : Value → Shared → Prop} {pins : List (Addr × Obj)} {s : Shared} {σ : St} {H : Hp} {x : Str} {u : Value} {pos : Pos} {Q : Value → Shared → Prop} (I : Inv X pins σ H s) (hg : Gl X x) (hm : X.mg x = none) (hv : bootBuiltins x = some u) (h : Q u s)
    (hn : x ≠ "__name__" := by decide) (hd : (x == ("__debug__" : Str)) = false := by decide) : wpAny (model X.prog X.w) X.A (eval (.Name x pos) X.env) Q E s := by
  obtain ⟨mb, h1, h2⟩ := I.mod.blt
  exact Calls.Name_function_global I.ok.kind hg (Calls.loadGlobal_builtin (by rw [I.ok.glob]; exact I.mod.glob.keeps I.bk) hm (by rw [I.ok.blt]; exact h1.keeps I.bk) ((h2 x hn).trans hv) h) hd
/-- a module's constant, a class, a function, as a value -/
theorem pe_glob {x : Str} {v : V} {u : Value} {pos : Pos} (hg : Gl X x) (hm : X.mg x = some u) (r : RelV v u) (hd : (x == ("__debug__" : Str)) = false := by decide) : PE X (.Name x pos) (tC v) :=
  fun _ _ _ H _ I h => ld_glob I hg hm ⟨v, H, I, r, h⟩ hd
theorem pe_bltn {x : Str} {v : V} {u : Value} {pos : Pos} (hg : Gl X x) (hm : X.mg x = none) (hv : bootBuiltins x = some u) (r : RelV v u) (hn : x ≠ "__name__" := by decide) (hd : (x == ("__debug__" : Str)) = false := by decide) : PE X (.Name x pos) (tC v) :=
  fun _ _ _ H _ I h => ld_blt I hg hm hv ⟨v, H, I, r, h⟩ hn hd
variable {a b : Expr} {ta tb : TE} {pos : Pos}
/-- a comparison as a value, as a test -/
noncomputable def tB (t : TE) : TT := fun σ H Q => t σ H fun x H1 => ∃ c, x = .bl c ∧ Q c H1
/-- an expression whose value is a bool, as a test -/
theorem pt_val {e : Expr} {t : TE} (h : PE X e t) (he : ∀ whole, isTrue e X.env whole = (do let v ← whole; standAt e.pos; holding [v] (truthy v)) := by intro _; rfl) : PT X e (tB t) := by
  intro pins s σ H Q I hw
  refine isTrue_plain (thn (h pins s σ H _ I hw) fun v s1 ⟨x, H1, I1, r1, q1⟩ => ?_) (he _)
  obtain ⟨d, rfl, q⟩ := q1
  cases r1
  exact wpAny_truthy_bool ⟨H1, I1, q⟩
variable {tA tB' : TT} {rest : List Expr}
noncomputable def tNot (t : TT) : TT := fun σ H Q => t σ H fun c H1 => Q (!c) H1
theorem pt_not (ha : PT X a tA) : PT X (.UnaryOp .Not a pos) (tNot tA) := by
  intro pins s σ H Q I h
  exact isTrue_not (ha pins s σ H (fun c H1 => Q (!c) H1) I h)
end
end L2
namespace L2
open PySem PySem.Spec PyProof.Rows
noncomputable def SqL (K : PySem.W.Frag) (H : Hp) (a : Addr) (xs : List V) : Prop :=
  Rd H a (.lst xs) ∨
    ∃ (o : Obj) (its : Array Value) (n : Nat), K.lookup a = some o ∧ o.cls = .type "list" ∧ o.dict = none ∧ o.data = .seq its n ∧ its.size ≤ sizeLine ∧ Vals xs its.toList
noncomputable def SqT (K : PySem.W.Frag) (H : Hp) (a : Addr) (xs : List V) : Prop :=
  Rd H a (.tup xs) ∨
    ∃ (o : Obj) (its : Array Value) (n : Nat), K.lookup a = some o ∧ o.cls = .type "tuple" ∧ o.data = .seq its n ∧ its.size ≤ sizeLine ∧ Vals xs its.toList
noncomputable def absV : Value → Option V
  | .none => some .non
  | .bool b => some (.bl b)
  | .int i _ => some (.int i)
  | .str x _ => some (.str x)
  | .bytes b _ => some (.byt b)
  | .float b _ => some (.flt b)
  | .ref a => some (.ref a)
  | .type n => some (.ty n)
  | _ => none
theorem RelV.abs {x : V} {u : Value} (r : RelV x u) : absV u = some x := by
  cases x with
  | non => cases r; rfl
  | bl _ => cases r; rfl
  | int _ => obtain ⟨t, rfl⟩ := r; rfl
  | str _ => obtain ⟨t, rfl⟩ := r; rfl
  | byt _ => obtain ⟨t, rfl⟩ := r; rfl
  | flt _ => obtain ⟨t, rfl⟩ := r; rfl
  | ref _ => cases r; rfl
  | ty _ => cases r; rfl
theorem RelV.inj {x y : V} {u : Value} (r : RelV x u) (q : RelV y u) : x = y := Option.some.inj (r.abs.symm.trans q.abs)
theorem Vals.inj : ∀ {xs ys : List V} {us : List Value}, Vals xs us → Vals ys us → xs = ys
  | _, _, _, .nil, .nil => rfl
  | _, _, _, .cons r t, .cons r' t' => by rw [r.inj r', Vals.inj t t']
section
variable {X : Cx} {pins : List (Addr × Obj)} {σ : St} {H : Hp} {s : Shared} {a : Addr} {xs ys : List V}
theorem SqL.of {K : PySem.W.Frag} (h : H a = some (.lst xs)) : SqL K H a xs := .inl (.inl h)
theorem SqT.of {K : PySem.W.Frag} (h : H a = some (.tup xs)) : SqT K H a xs := .inl (.inl h)
theorem Inv.list (I : Inv X pins σ H s) (h : SqL X.K H a xs) : ∃ its : List Value, Vals xs its ∧ PlainL s.heap a its.toArray ∧ xs.length ≤ sizeLine := by
  rcases h with h | ⟨o, its, n, hk, hc, hd, hs, hz, r⟩
  · obtain ⟨z, its, n, r, e⟩ := h.ok I.hok
    exact ⟨its, r, ⟨_, n, e, rfl, rfl, rfl⟩, z⟩
  · refine ⟨its.toList, r, ⟨o, n, I.kIn a o hk, hc, hd, by simpa using hs⟩, ?_⟩
    have e := r.length
    simp only [Array.length_toList] at e
    omega
theorem Inv.tuple (I : Inv X pins σ H s) (h : SqT X.K H a xs) : ∃ its : List Value, Vals xs its ∧ IsTup s.heap a its.toArray ∧ xs.length ≤ sizeLine := by
  rcases h with h | ⟨o, its, n, hk, hc, hs, hz, r⟩
  · obtain ⟨z, its, r, p⟩ := h.ok I.hok
    exact ⟨its, r, p, z⟩
  · refine ⟨its.toList, r, ⟨o, I.kIn a o hk, hc, n, by simpa using hs⟩, ?_⟩
    have e := r.length
    simp only [Array.length_toList] at e
    omega
theorem Inv.list_inj (I : Inv X pins σ H s) (h : SqL X.K H a xs) (h' : SqL X.K H a ys) : xs = ys := by
  obtain ⟨its, r, ⟨o, n, e, _, _, d⟩, _⟩ := I.list h
  obtain ⟨its', r', ⟨o', n', e', _, _, d'⟩, _⟩ := I.list h'
  rw [e] at e'; cases e'
  rw [d] at d'
  injection d' with d1 _
  have : its = its' := by simpa using congrArg Array.toList d1
  subst this
  exact r.inj r'
theorem Inv.tuple_inj (I : Inv X pins σ H s) (h : SqT X.K H a xs) (h' : SqT X.K H a ys) : xs = ys := by
  obtain ⟨its, r, ⟨o, e, _, n, d⟩, _⟩ := I.tuple h
  obtain ⟨its', r', ⟨o', e', _, n', d'⟩, _⟩ := I.tuple h'
  rw [e] at e'; cases e'
  rw [d] at d'
  injection d' with d1 _
  have : its = its' := by simpa using congrArg Array.toList d1
  subst this
  exact r.inj r'
end
noncomputable abbrev Cx.wish (X : Cx) (E : Value → Shared → Prop) : Cx := { X with xe := E }
/-- no exception leaves -/
noncomputable abbrev Cx.nox (X : Cx) : Cx := X.wish fun _ _ => False
theorem Cx.Ok.wish {X : Cx} (ok : X.Ok) (E : Value → Shared → Prop) : (X.wish E).Ok :=
  ⟨ok.mod, ok.kind, ok.glob, ok.blt, ok.above, ok.inj, ok.has, ok.cab, ok.hd, ok.frames, ok.stk, ok.exf, ok.bs, ok.bsz, ok.noex, ok.exfs, ok.funs, ok.frf⟩
theorem Cx.Ok.unwish {X : Cx} {E : Value → Shared → Prop} (ok : (X.wish E).Ok) : X.Ok :=
  ⟨ok.mod, ok.kind, ok.glob, ok.blt, ok.above, ok.inj, ok.has, ok.cab, ok.hd, ok.frames, ok.stk, ok.exf, ok.bs, ok.bsz, ok.noex, ok.exfs, ok.funs, ok.frf⟩
section
variable {X : Cx} {pins : List (Addr × Obj)} {σ : St} {H : Hp} {s : Shared} {E : Value → Shared → Prop}
theorem Inv.wish (I : Inv X pins σ H s) (E : Value → Shared → Prop) : Inv (X.wish E) pins σ H s := ⟨I.ok.wish E, I.os, I.bare, I.base, I.loc, I.cell, I.free, I.freeC, I.pin, I.hok, I.len⟩
theorem Inv.unwish (I : Inv (X.wish E) pins σ H s) : Inv X pins σ H s := ⟨I.ok.unwish, I.os, I.bare, I.base, I.loc, I.cell, I.free, I.freeC, I.pin, I.hok, I.len⟩
theorem SP.unwish {D : Ends} {f : Flow} {s' : Shared} (h : SP (X.wish E) pins D f s') : SP X pins D f s' := by
  cases f with
  | next => obtain ⟨σ', H', I, q⟩ := h; exact ⟨σ', H', I.unwish, q⟩
  | brk => obtain ⟨σ', H', I, q⟩ := h; exact ⟨σ', H', I.unwish, q⟩
  | cont => obtain ⟨σ', H', I, q⟩ := h; exact ⟨σ', H', I.unwish, q⟩
  | ret u => obtain ⟨v, σ', H', I, r, q⟩ := h; exact ⟨v, σ', H', I.unwish, r, q⟩
theorem PSs.nox {st : List Stmt} {t : TS} (h : PSs X.nox st t) : PSs X st t := fun pins s σ H D I hw =>
  wpAny_mono (h pins s σ H D (I.wish _) hw) (fun _ _ q => q.unwish) fun _ _ z => False.elim z
end
section
variable {X : Cx} {st : Stmt} {rest : List Stmt} {t u : TS} {e : Expr} {te : TE} {pos : Pos}
noncomputable def tNext : TS := fun D σ H => D.nx σ H
noncomputable def tSeq (t u : TS) : TS := fun D σ H => t { D with nx := u D } σ H
theorem pss_nil : PSs X [] tNext := fun _ _ σ H _ I h => wpAny_execs_nil ⟨σ, H, I, h⟩
theorem pss_cons (h1 : PS X st t) (h2 : PSs X rest u) : PSs X (st :: rest) (tSeq t u) := by
  intro pins s σ H D I h
  refine wpAny_execs_cons (thn (h1 pins s σ H { D with nx := u D } I h) fun f s1 q => ?_)
  cases f with
  | next =>
    obtain ⟨σ', H', I', q⟩ := q
    exact h2 pins s1 σ' H' D I' q
  | ret v => exact q
  | brk => exact q
  | cont => exact q
theorem pss_one (h1 : PS X st t) : PSs X [st] t := by
  intro pins s σ H D I h
  refine wpAny_execs_cons (thn (h1 pins s σ H D I h) fun f s1 q => ?_)
  cases f with
  | next => exact wpAny_execs_nil q
  | ret v => exact q
  | brk => exact q
  | cont => exact q
noncomputable def tBreak : TS := fun D σ H => D.bk σ H
theorem ps_break : PS X (.Break pos) tBreak := fun _ _ σ H _ I h => wpAny_Break ⟨σ, H, I, h⟩
/-- in a def's body nothing is shown -/
theorem Inv.quiet {pins : List (Addr × Obj)} {σ : St} {H : Hp} {s : Shared} (I : Inv X pins σ H s) : interactive X.env = false := by simp [interactive, I.ok.kind]
/-- an expression whose value is dropped -/
noncomputable def tDrop (te : TE) : TS := fun D σ H => te σ H fun _ H1 => D.nx σ H1
theorem ps_expr (he : PE X e te) (hs : swapsWith e none pos.line X.env = pure false := by rfl) : PS X (.Expr e pos) (tDrop te) := by
  intro pins s σ H D I h
  exact wpAny_Expr_any (thn (he pins s σ H _ I h) fun v s1 ⟨x, H1, I1, r1, q1⟩ => ⟨σ, H1, I1, q1⟩) I.quiet hs
noncomputable def tRet (te : TE) : TS := fun D σ H => te σ H D.rt
theorem ps_ret (he : PE X e te) : PS X (.Return (some e) pos) (tRet te) := by
  intro pins s σ H D I h
  exact wpAny_Return_some (thn (he pins s σ H _ I h) fun v s1 ⟨x, H1, I1, r1, q1⟩ => ⟨x, σ, H1, I1, r1, q1⟩)
noncomputable def tIfS (c : TT) (t u : TS) : TS := fun D σ H => c σ H fun b H1 => if b = true then t D σ H1 else u D σ H1
theorem ps_if {c : Expr} {a b : List Stmt} {tc : TT} (hc : PT X c tc) (ha : PSs X a t) (hb : PSs X b u) : PS X (.If c a b pos) (tIfS tc t u) := by
  intro pins s σ H D I h
  refine wpAny_If (thn (hc pins s σ H _ I h) fun d s1 ⟨H1, I1, q1⟩ => ?_)
  cases d with
  | true => exact ha pins s1 σ H1 D I1 q1
  | false => exact hb pins s1 σ H1 D I1 q1
/-- code that the proof never comes to -/
noncomputable def tNever : TS := fun _ _ _ => False
theorem pss_never {sts : List Stmt} : PSs X sts tNever := fun _ _ _ _ _ _ h => h.elim
end
noncomputable abbrev TG := V → St → Hp → (St → Hp → Prop) → Prop
noncomputable abbrev TGs := List V → St → Hp → (St → Hp → Prop) → Prop
noncomputable def PG (X : Cx) (target : Expr) (t : TG) : Prop :=
  ∀ (pins : List (Addr × Obj)) (s : Shared) (σ : St) (H : Hp) (v : V) (u : Value) (Q : St → Hp → Prop), Inv X pins σ H s → RelV v u → t v σ H Q →
    wpAny (model X.prog X.w) X.A (assign target X.env u) (fun _ s' => ∃ σ' H', Inv X pins σ' H' s' ∧ Q σ' H') X.xe s
/-- several targets, one after another -/
noncomputable def PGs (X : Cx) (ts : List Expr) (t : TGs) : Prop :=
  ∀ (pins : List (Addr × Obj)) (s : Shared) (σ : St) (H : Hp) (vs : List V) (us : List Value) (Q : St → Hp → Prop), Inv X pins σ H s → Vals vs us → t vs σ H Q →
    wpAny (model X.prog X.w) X.A (assignInOrder ((assignEach ts X.env).map (·.2)) us) (fun _ s' => ∃ σ' H', Inv X pins σ' H' s' ∧ Q σ' H') X.xe s
/-- o[i] = v, by values -/
noncomputable abbrev TSet := V → V → V → Hp → (Hp → Prop) → Prop
noncomputable def PSet (X : Cx) (t : TSet) : Prop :=
  ∀ (pins : List (Addr × Obj)) (s : Shared) (σ : St) (H : Hp) (o i v : V) (ov iv u : Value) (Q : Hp → Prop), Inv X pins σ H s → RelV o ov → RelV i iv → RelV v u → t o i v H Q →
    wpAny (model X.prog X.w) X.A (setItem ov iv u) (fun _ s' => ∃ H', Inv X pins σ H' s' ∧ Q H') X.xe s
section
variable {X : Cx} {pos : Pos}
noncomputable def gName (i : Nat) : TG := fun v σ H Q => Q (σ.set i (some v)) H
theorem pg_name {i : Nat} {x : Str} (hN : X.N.Nodup) (hi : X.N[i]? = some x) (hx : Loc X.env.scope x) (hf : X.fn x = true ∨ X.env.scope.names.lookup x = some .local := by first | exact .inl rfl | exact .inr rfl | assumption) : PG X (.Name x pos) (gName i) := by
  intro pins s σ H v u Q I r h
  exact wpAny_assign_Name (store_ok I hN hi hx r (fun s' I' => ⟨_, H, I', h⟩) hf)
noncomputable def gNil : TGs := fun vs σ H Q => vs = [] ∧ Q σ H
noncomputable def gCons (t : TG) (u : TGs) : TGs := fun vs σ H Q => ∃ v r, vs = v :: r ∧ t v σ H fun σ' H' => u r σ' H' Q
theorem pgs_nil : PGs X [] gNil := by
  intro pins s σ H vs us Q I r h
  obtain ⟨e, h⟩ := h
  subst e
  cases r
  exact assignInOrder_nil ⟨σ, H, I, h⟩
theorem pgs_cons {e : Expr} {es : List Expr} {t : TG} {u : TGs} (h1 : PG X e t) (h2 : PGs X es u)
    (hs : (assignEach (e :: es) X.env).map (·.2) = assign e X.env :: (assignEach es X.env).map (·.2) := by rfl) : PGs X (e :: es) (gCons t u) := by
  intro pins s σ H vs us Q I r h
  obtain ⟨v, vr, e1, h⟩ := h
  subst e1
  cases r with
  | cons r rr =>
    rw [hs]
    refine assignInOrder_cons (thn (h1 pins s σ H _ _ _ I r h) fun _ s1 ⟨σ1, H1, I1, q1⟩ => ?_)
    exact h2 pins s1 σ1 H1 _ _ Q I1 rr q1
/-- (a, b, ..) = a tuple of that length -/
noncomputable def gTup (K : PySem.W.Frag) (n : Nat) (t : TGs) : TG := fun v σ H Q => ∃ a xs, v = .ref a ∧ SqT K H a xs ∧ xs.length = n ∧ t xs σ H Q
theorem pg_tup {es : List Expr} {k : Nat} {t : TGs} {n : Nat} (hc : X.calm = true) (h : PGs X es t)
    (hn : (assignEach es X.env).length = n := by rfl) (hst : (assignEach es X.env).findIdx? (·.1) = none := by rfl) : PG X (.Tuple es k pos) (gTup X.K n t) := by
  intro pins s σ H v u Q I r hw
  obtain ⟨a, xs, e1, hq, hl, hw⟩ := hw
  subst e1
  cases r
  obtain ⟨its, rv, ht, hz⟩ := I.tuple hq
  refine assign_Tuple_tuple (I.ok.hd hc) ht (by simp [hn, ← hl, rv.length]) hst fun h' hx => ?_
  have I1 : Inv X pins σ H { s with heap := h' } := I.kept (t' := s.toks) fun b o e => hx b o (Nat.ne_of_lt (Heap.lt_size e)) e
  exact h pins _ σ H xs _ Q I1 (by simpa using rv) hw
/-- o[i] = .. -/
noncomputable def gSub (to ti : TE) (t : TSet) : TG := fun v σ H Q => to σ H fun o H1 => ti σ H1 fun i H2 => t o i v H2 fun H3 => Q σ H3
theorem pg_sub {o i : Expr} {to ti : TE} {t : TSet} (ho : PE X o to) (hi : PE X i ti) (hs : PSet X t)
    (ha : ∀ v, assign (.Subscript o i pos) X.env v = (do
      let ov ← holding [v] (eval o X.env)
      let iv ← holding [v, ov] (eval i X.env)
      standAt pos
      holding [v, ov, iv] (setItem ov iv v)
      release [v, ov, iv] []) := by intro _; rfl) : PG X (.Subscript o i pos) (gSub to ti t) := by
  intro pins s σ H v u Q I r h
  rw [ha]
  refine wpAny_bind (wpAny_holding (thn (ho pins s σ H _ I h) fun ov s1 ⟨x, H1, I1, r1, q1⟩ => ?_))
  refine wpAny_bind (wpAny_holding (thn (hi pins s1 σ H1 _ I1 q1) fun iv s2 ⟨y, H2, I2, r2, q2⟩ => ?_))
  refine wpAny_bind (wpAny_standAt (wpAny_bind (wpAny_holding (thn (hs pins s2 σ H2 x y v ov iv u _ I2 r1 r2 r q2) fun _ s3 ⟨H3, I3, q3⟩ => ?_))))
  exact wpAny_release ⟨σ, H3, I3, q3⟩
/-- target = value -/
noncomputable def tAsg (te : TE) (g : TG) : TS := fun D σ H => te σ H fun x H1 => g x σ H1 D.nx
theorem ps_asg {tg e : Expr} {te : TE} {g : TG} (he : PE X e te) (hg : PG X tg g) (hs : swapsWithSole [tg] e pos.line X.env = pure false := by rfl) (hw : swappedStores [tg] e X.env = pure none := by rfl)
    (h1 : (assignEach [tg] X.env).map (·.2) = [assign tg X.env] := by rfl) : PS X (.Assign [tg] e pos) (tAsg te g) := by
  intro pins s σ H D I h
  refine wpAny_Assign_stores (thn (he pins s σ H _ I h) fun v s1 ⟨x, H1, I1, r1, q1⟩ => ?_) hs hw
  rw [h1]
  exact thn (hg pins s1 σ H1 x v _ I1 r1 q1) fun _ s2 q => q
/-- name = value -/
theorem ps_set {i : Nat} {x : Str} {e : Expr} {te : TE} {pos' : Pos} (hN : X.N.Nodup) (hi : X.N[i]? = some x) (hx : Loc X.env.scope x) (he : PE X e te) (hs : swapsWith e (some (.Name x pos')) pos.line X.env = pure false := by rfl) (hf : X.fn x = true ∨ X.env.scope.names.lookup x = some .local := by first | exact .inl rfl | exact .inr rfl | assumption) :
    PS X (.Assign [.Name x pos'] e pos) (tAsg te (gName i)) := by
  intro pins s σ H D I h
  refine wpAny_Assign_Name (thn (he pins s σ H _ I h) fun v s1 ⟨y, H1, I1, r1, q1⟩ => ?_) hs
  exact store_ok I1 hN hi hx r1 (fun s2 I2 => ⟨_, H1, I2, q1⟩) hf
end
section
variable {X : Cx} {pos : Pos}
/-- the invariant W with its measure -/
noncomputable def tWhile (c : TT) (tb : TS) : TS := fun D σ H => ∃ W : Nat → St → Hp → Prop, (∃ m, W m σ H) ∧ ∀ m σ H, W m σ H →
  c σ H fun b H1 => if b = true then ∃ N : St → Hp → Prop, (∀ σ' H', N σ' H' → ∃ m', m' < m ∧ W m' σ' H') ∧ tb { D with nx := N, ct := N, bk := D.nx } σ H1 else D.nx σ H1
theorem ps_while {c : Expr} {body : List Stmt} {tc : TT} {tb : TS} (hp : PassesOwn (model X.prog X.w) X.A X.env X.xe) (hc : PT X c tc) (hb : PSs X body tb) : PS X (.While c body [] pos) (tWhile tc tb) := by
  intro pins s σ H D I h
  obtain ⟨W, ⟨m0, w0⟩, turn⟩ := h
  refine wpAny_While (codeAny_whileLoop (fun n s' => ∃ σ' H', Inv X pins σ' H' s' ∧ W n σ' H') ?_ m0 ⟨σ, H, I, w0⟩)
  rintro n s1 ⟨σ1, H1, I1, w1⟩
  refine wpAny_passesOwn hp (thn (hc pins s1 σ1 H1 _ I1 (turn n σ1 H1 w1)) fun b s2 ⟨H2, I2, q2⟩ => ?_)
  cases b with
  | true =>
    obtain ⟨N, hN, q2⟩ := q2
    rw [if_pos rfl]
    refine wpAny_passesOwn hp (thn (hb pins s2 σ1 H2 _ I2 q2) fun f s3 q3 => ?_)
    cases f with
    | next =>
      obtain ⟨σ3, H3, I3, n3⟩ := q3
      obtain ⟨m', hm, w3⟩ := hN σ3 H3 n3
      exact ⟨m', hm, σ3, H3, I3, w3⟩
    | cont =>
      obtain ⟨σ3, H3, I3, n3⟩ := q3
      obtain ⟨m', hm, w3⟩ := hN σ3 H3 n3
      exact ⟨m', hm, σ3, H3, I3, w3⟩
    | brk => exact q3
    | ret v => exact q3
  | false =>
    rw [if_neg Bool.false_ne_true]
    exact wpAny_execs_nil ⟨σ1, H2, I2, q2⟩
end
/-- at turn i: it yields x (the heap may grow), or it stops -/
structure It where
  go : Nat → Hp → Prop
  yld : Nat → Hp → V → Hp → Prop
  stop : Nat → Hp → Prop
/-- the iterator's own objects may turn: they are not the frame's, not pinned, younger than the entry (or a comprehension's own) -/
noncomputable def FpOk (X : Cx) (pins : List (Addr × Obj)) (H : Hp) (b : Addr) : Prop :=
  H b = none ∧ b ≠ X.env.locals ∧ b ∉ X.fs ∧ (b ∈ X.ex ∨ X.s₀.heap.objs.size ≤ b) ∧ (∀ x c, X.env.cells.lookup x = some c → c ≠ b) ∧ ∀ p ∈ X.pn ++ pins, p.1 ≠ b
theorem Inv.fpOk {X : Cx} {pins : List (Addr × Obj)} {σ : St} {H H' : Hp} {s : Shared} {b : Addr} (I : Inv X pins σ H s) (hb : s.heap.objs.size ≤ b) (hn : H' b = none) : FpOk X pins H' b := by
  refine ⟨hn, Nat.ne_of_gt (Nat.lt_of_lt_of_le I.lt hb), I.nofs hb, .inr (Nat.le_trans I.sz hb), fun x c e z => ?_, fun p hp z => ?_⟩
  · obtain ⟨v, q⟩ := I.cell x c e
    exact absurd (Nat.lt_of_lt_of_le q.lt (by rw [z]; exact hb)) (Nat.lt_irrefl _)
  · exact absurd (Nat.lt_of_lt_of_le (Heap.lt_size (I.pin p hp).1) (by rw [z]; exact hb)) (Nat.lt_irrefl _)
structure Turn (P : Program) (w : World) (K : PySem.W.Frag) (tg : Expr) (J : It) (fp : List Addr) (it : Addr) (tn : Nat → Heap → Prop) : Prop where
  mem : it ∈ fp
  obj : ∀ i h, tn i h → ∀ b ∈ fp, ∃ o, h.get? b = some o ∧ ∀ v, o.data ≠ .cell v
  keep : ∀ i h h', tn i h → (∀ b ∈ fp, ∀ o, h.get? b = some o → h'.get? b = some o) → tn i h'
  item : ∀ (X : Cx), X.prog = P → X.w = w → X.K = K → X.calm = true → ∀ (i : Nat) (pins : List (Addr × Obj)) (s : Shared) (σ : St) (H : Hp) (E : Value → Shared → Prop), Inv X pins σ H s → (∀ b ∈ fp, FpOk X pins H b) → tn i s.heap → J.go i H →
    wpAny (model P w) X.A (pyNext (.ref it)) (fun r s1 => ∃ u, r = some u ∧
      wpAny (model P w) X.A (letOwnedTupleGo tg (.ref it) u) (fun _ s2 => ∃ x H', Inv X pins σ H' s2 ∧ RelV x u ∧ J.yld i H x H' ∧ tn (i + 1) s2.heap ∧ ∀ b ∈ fp, H' b = none) E s1) E s
  done : ∀ (X : Cx), X.prog = P → X.w = w → X.K = K → X.calm = true → ∀ (i : Nat) (pins : List (Addr × Obj)) (s : Shared) (σ : St) (H : Hp) (E : Value → Shared → Prop), Inv X pins σ H s → (∀ b ∈ fp, FpOk X pins H b) → tn i s.heap → J.stop i H →
    wpAny (model P w) X.A (pyNext (.ref it)) (fun r s1 => r = none ∧ Inv X pins σ H s1) E s
  self : ∀ (A : Around) (i : Nat) (s : Shared) (Q : Value → Shared → Prop) (E : Value → Shared → Prop), tn i s.heap → Q (.ref it) s → wpAny (model P w) A (pyIter (.ref it)) Q E s
noncomputable abbrev TI := St → Hp → (It → Hp → Prop) → Prop
/-- an iterator has come -/
noncomputable def PIE (X : Cx) (pins : List (Addr × Obj)) (σ : St) (tg : Expr) (R : It → Hp → Prop) (itv : Value) (s2 : Shared) : Prop :=
  ∃ (it : Addr) (fp : List Addr) (tn : Nat → Heap → Prop) (J : It) (H' : Hp), itv = .ref it ∧ Inv X pins σ H' s2 ∧ Turn X.prog X.w X.K tg J fp it tn ∧ tn 0 s2.heap ∧ (∀ b ∈ fp, FpOk X pins H' b) ∧ R J H'
noncomputable def PI (X : Cx) (tg iter : Expr) (wi : TI) : Prop :=
  ∀ (pins : List (Addr × Obj)) (s : Shared) (σ : St) (H : Hp) (R : It → Hp → Prop), Inv X pins σ H s → wi σ H R →
    wpAny (model X.prog X.w) X.A (eval iter X.env) (fun v s1 => wpAny (model X.prog X.w) X.A (pyIter v) (PIE X pins σ tg R) X.xe s1) X.xe s
/-- the step ahead of the store is nothing for an iterator that keeps no tuple -/
theorem go_of {M : Model} {A : Around} {E : Value → Shared → Prop} {s : Shared} {tg : Expr} {it : Addr} {u : Value} {o : Obj} {n : String} {vs : Array Value} {Q : Unit → Shared → Prop} (ho : s.heap.get? it = some o) (hc : o.cls = .type n) (hd : o.data = .fields vs)
    (hn : ["enumerate", "zip", "dict_itemiterator", "dict_reverseitemiterator", "odict_iterator", "itertools.zip_longest", "itertools.pairwise"].contains n = false) (hQ : Q () s) : wpAny M A (letOwnedTupleGo tg (.ref it) u) Q E s := by
  unfold letOwnedTupleGo
  cases tg <;> first
    | exact wpAny_pure hQ
    | (cases u <;> first
        | exact wpAny_pure hQ
        | (refine wpAny_bind (wpAny_load ho ?_)
           rw [hc, hd]
           show wpAny M A (if (["enumerate", "zip", "dict_itemiterator", "dict_reverseitemiterator", "odict_iterator", "itertools.zip_longest", "itertools.pairwise"].contains n && vs[0]? == some (rawInt _)) = true then _ else _) Q E s
           rw [if_neg (by intro h; rw [hn, Bool.false_and] at h; cases h)]
           exact wpAny_pure hQ))
/-- the list at a, as it stands at each turn (a loop may append to it) -/
noncomputable def Itl (K : PySem.W.Frag) (a : Addr) : It :=
  ⟨fun i H => ∃ xs x, SqL K H a xs ∧ xs[i]? = some x, fun i H x H' => H' = H ∧ ∀ xs, SqL K H a xs → xs[i]? = some x, fun i H => ∃ xs, SqL K H a xs ∧ xs.length ≤ i⟩
noncomputable def Itt (K : PySem.W.Frag) (a : Addr) : It :=
  ⟨fun i H => ∃ xs x, SqT K H a xs ∧ xs[i]? = some x, fun i H x H' => H' = H ∧ ∀ xs, SqT K H a xs → xs[i]? = some x, fun i H => ∃ xs, SqT K H a xs ∧ xs.length ≤ i⟩
/-- lo, lo + 1, .. (n of them) -/
noncomputable def Itr (lo : Int) (n : Nat) : It := ⟨fun i _ => i < n, fun i H x H' => H' = H ∧ x = .int (lo + i), fun i _ => n ≤ i⟩
theorem turn_list {P : Program} {w : World} {K : PySem.W.Frag} {tg : Expr} (a it : Addr) : Turn P w K tg (Itl K a) [it] it (fun i h => h.IsListIter it a i) where
  mem := by simp
  obj := fun i h st b hb => by
    have e : b = it := by simpa using hb
    subst e
    obtain ⟨o, e, c, d⟩ := st
    exact ⟨o, e, fun v z => by rw [d] at z; cases z⟩
  keep := fun i h h' st k => st.at fun o e => k it (by simp) o e
  item := by
    intro X hP hw hK hc i pins s σ H E I hf st hg
    subst hP hw hK
    obtain ⟨xs, x, hq, hx⟩ := hg
    obtain ⟨its, rv, p, hz⟩ := I.list hq
    obtain ⟨u, hu, ru⟩ := rv.get hx
    obtain ⟨f0, f1, f2, f3, f4, f5⟩ := hf it (by simp)
    refine wpAny_pyNext_list_item st p.isList (x := u) (by simpa using hu) fun h' st' sb => ?_
    have I1 : Inv X pins σ H { s with heap := h' } := I.turned (t' := s.toks) (fun b o hb e => (sb.2 b hb).trans e) f0 f1 f3 f4 f5
    obtain ⟨o, e, c, d⟩ := id st'
    exact ⟨u, rfl, go_of (s := { s with heap := h' }) e c d (by decide) ⟨x, H, I1, ru, ⟨rfl, fun ys hy => by rw [I.list_inj hy hq]; exact hx⟩, st', fun b hb => (hf b hb).1⟩⟩
  done := by
    intro X hP hw hK hc i pins s σ H E I hf st hg
    subst hP hw hK
    obtain ⟨xs, hq, hx⟩ := hg
    obtain ⟨its, rv, p, hz⟩ := I.list hq
    obtain ⟨f0, f1, f2, f3, f4, f5⟩ := hf it (by simp)
    have hl := rv.length
    exact wpAny_pyNext_list_end (I.ok.hd hc) st p.isList (by simp; omega) fun h' eb => ⟨rfl, I.turned (t' := s.toks) (fun b o hb e => eb b o hb e) f0 f1 f3 f4 f5⟩
  self := fun _ _ _ _ _ st h => wpAny_pyIter_listiter st h
theorem turn_tuple {P : Program} {w : World} {K : PySem.W.Frag} {tg : Expr} (a it : Addr) : Turn P w K tg (Itt K a) [it] it (fun i h => h.IsTupleIter it a i) where
  mem := by simp
  obj := fun i h st b hb => by
    have e : b = it := by simpa using hb
    subst e
    obtain ⟨o, e, c, d⟩ := st
    exact ⟨o, e, fun v z => by rw [d] at z; cases z⟩
  keep := fun i h h' st k => st.at fun o e => k it (by simp) o e
  item := by
    intro X hP hw hK hc i pins s σ H E I hf st hg
    subst hP hw hK
    obtain ⟨xs, x, hq, hx⟩ := hg
    obtain ⟨its, rv, p, hz⟩ := I.tuple hq
    obtain ⟨u, hu, ru⟩ := rv.get hx
    obtain ⟨f0, f1, f2, f3, f4, f5⟩ := hf it (by simp)
    refine wpAny_pyNext_tuple_item st (show s.heap.IsTuple a its.toArray from p) (x := u) (by simpa using hu) fun h' st' sb => ?_
    have I1 : Inv X pins σ H { s with heap := h' } := I.turned (t' := s.toks) (fun b o hb e => (sb.2 b hb).trans e) f0 f1 f3 f4 f5
    obtain ⟨o, e, c, d⟩ := id st'
    exact ⟨u, rfl, go_of (s := { s with heap := h' }) e c d (by decide) ⟨x, H, I1, ru, ⟨rfl, fun ys hy => by rw [I.tuple_inj hy hq]; exact hx⟩, st', fun b hb => (hf b hb).1⟩⟩
  done := by
    intro X hP hw hK hc i pins s σ H E I hf st hg
    subst hP hw hK
    obtain ⟨xs, hq, hx⟩ := hg
    obtain ⟨its, rv, p, hz⟩ := I.tuple hq
    obtain ⟨f0, f1, f2, f3, f4, f5⟩ := hf it (by simp)
    have hl := rv.length
    exact wpAny_pyNext_tuple_end (I.ok.hd hc) st (show s.heap.IsTuple a its.toArray from p) (by simp; omega) fun h' eb => ⟨rfl, I.turned (t' := s.toks) (fun b o hb e => eb b o hb e) f0 f1 f3 f4 f5⟩
  self := fun _ _ _ _ _ st h => wpAny_pyIter_tupleiter st h
theorem turn_range {P : Program} {w : World} {K : PySem.W.Frag} {tg : Expr} (it : Addr) (lo : Int) (n : Nat) : Turn P w K tg (Itr lo n) [it] it (fun i h => IsRangeIter h it (lo + (i : Nat) * 1) ((n : Int) - (i : Nat)) 1) where
  mem := by simp
  obj := fun i h st b hb => by
    have e : b = it := by simpa using hb
    subst e
    exact ⟨_, st, fun v z => by
      have z' : Data.fields _ = Data.cell v := z
      cases z'⟩
  keep := fun i h h' st k => k it (by simp) _ st
  item := by
    intro X hP hw hK hc i pins s σ H E I hf st hg
    subst hP hw hK
    obtain ⟨f0, f1, f2, f3, f4, f5⟩ := hf it (by simp)
    have W := Walks.range (prog := X.prog) (w := X.w) (I.ok.hd hc) it lo 1 n
    refine W.item i s _ _ hg st fun v h' tk hv st' kk => ?_
    obtain ⟨t, rfl⟩ := hv
    have I1 : Inv X pins σ H { s with heap := h', toks := tk } := I.turned (fun b o hb e => kk b o (by simpa using hb) e) f0 f1 f3 f4 f5
    refine ⟨_, rfl, go_of (s := { s with heap := h', toks := tk }) (n := "range_iterator") st' rfl rfl (by decide) ⟨.int (lo + i), H, I1, ⟨t, ?_⟩, ⟨rfl, rfl⟩, st', fun b hb => (hf b hb).1⟩⟩
    rw [Int.mul_one]
  done := by
    intro X hP hw hK hc i pins s σ H E I hf st hg
    subst hP hw hK
    obtain ⟨f0, f1, f2, f3, f4, f5⟩ := hf it (by simp)
    exact wpAny_pyNext_range_end (I.ok.hd hc) st (by have : n ≤ i := hg; omega) fun h' eb => ⟨rfl, I.turned (t' := s.toks) (fun b o hb e => eb b o hb e) f0 f1 f3 f4 f5⟩
  self := fun _ _ _ _ _ st h => wpAny_pyIter_rangeiter st h
end L2
namespace L2
open PySem PySem.Spec PyProof.Rows
section
variable {X : Cx} {tg : Expr}
noncomputable def iList (K : PySem.W.Frag) (tl : TE) : TI := fun σ H R => tl σ H fun x H1 => ∃ a, x = .ref a ∧ (∃ xs, SqL K H1 a xs) ∧ R (Itl K a) H1
noncomputable def iTup (K : PySem.W.Frag) (tl : TE) : TI := fun σ H R => tl σ H fun x H1 => ∃ a, x = .ref a ∧ (∃ xs, SqT K H1 a xs) ∧ R (Itt K a) H1
theorem pi_list {l : Expr} {tl : TE} (hl : PE X l tl) : PI X tg l (iList X.K tl) := by
  intro pins s σ H R I h
  refine thn (hl pins s σ H _ I h) fun v s1 ⟨x, H1, I1, r1, q1⟩ => ?_
  obtain ⟨a, e, ⟨xs, hq⟩, q⟩ := q1
  subst e
  cases r1
  obtain ⟨its, rv, p, hz⟩ := I1.list hq
  refine wpAny_pyIter_list p.isList ?_
  refine ⟨s1.heap.objs.size, [s1.heap.objs.size], _, _, H1, rfl, I1.kept (t' := s1.toks) fun b o e => Heap.get?_push_of_some _ e, turn_list a _, ⟨_, Heap.get?_push_size _ rfl, rfl, rfl⟩, fun b hb => ?_, q⟩
  have e : b = s1.heap.objs.size := by simpa using hb
  subst e
  exact I1.fpOk (Nat.le_refl _) (I1.hok.fresh (Nat.le_refl _))
theorem pi_tup {l : Expr} {tl : TE} (hl : PE X l tl) : PI X tg l (iTup X.K tl) := by
  intro pins s σ H R I h
  refine thn (hl pins s σ H _ I h) fun v s1 ⟨x, H1, I1, r1, q1⟩ => ?_
  obtain ⟨a, e, ⟨xs, hq⟩, q⟩ := q1
  subst e
  cases r1
  obtain ⟨its, rv, p, hz⟩ := I1.tuple hq
  refine wpAny_pyIter_tuple (show s1.heap.IsTuple a its.toArray from p) ?_
  refine ⟨s1.heap.objs.size, [s1.heap.objs.size], _, _, H1, rfl, I1.kept (t' := s1.toks) fun b o e => Heap.get?_push_of_some _ e, turn_tuple a _, ⟨_, Heap.get?_push_size _ rfl, rfl, rfl⟩, fun b hb => ?_, q⟩
  have e : b = s1.heap.objs.size := by simpa using hb
  subst e
  exact I1.fpOk (Nat.le_refl _) (I1.hok.fresh (Nat.le_refl _))
/-- a range object just made, walked -/
theorem range_it {pins : List (Addr × Obj)} {σ : St} {H : Hp} {s : Shared} {R : It → Hp → Prop} {E : Value → Shared → Prop} {lo hi : Int} {t u v : Tok} {tk : Nat} (I : Inv X pins σ H s) (h1 : -(2 ^ 62) ≤ lo) (h2 : lo < 2 ^ 62) (h3 : -(2 ^ 62) ≤ hi) (h4 : hi < 2 ^ 62)
    (q : R (Itr lo (hi - lo).toNat) H) : wpAny (model X.prog X.w) X.A (pyIter (.ref s.heap.objs.size)) (PIE X pins σ tg R) E { s with heap := s.heap.push { cls := .type "range", data := .fields #[.int lo t, .int hi u, .int 1 v] }, toks := tk } := by
  refine wpAny_pyIter_range (IsRange.new ..) (small_one h1 h2 h3 h4) ?_
  have I1 : Inv X pins σ H { s with heap := s.heap.push { cls := .type "range", data := .fields #[.int lo t, .int hi u, .int 1 v] }, toks := tk } := I.kept fun b o e => Heap.get?_push_of_some _ e
  refine ⟨(s.heap.push { cls := .type "range", data := .fields #[.int lo t, .int hi u, .int 1 v] }).objs.size, [(s.heap.push { cls := .type "range", data := .fields #[.int lo t, .int hi u, .int 1 v] }).objs.size], _, _, H, rfl,
    I1.kept (t' := tk) fun b o e => Heap.get?_push_of_some _ e, turn_range _ lo (hi - lo).toNat, ?_, fun b hb => ?_, q⟩
  · have e1 : lo + ((0 : Nat) : Int) * 1 = lo := by simp
    have e2 : (((hi - lo).toNat : Nat) : Int) - ((0 : Nat) : Int) = Builtin.Range.rangeSize lo hi 1 := by rw [rangeSize_one]; split <;> omega
    show IsRangeIter _ _ (lo + ((0 : Nat) : Int) * 1) ((((hi - lo).toNat : Nat) : Int) - ((0 : Nat) : Int)) 1
    rw [e1, e2]
    exact Heap.get?_push_size _ rfl
  · have e : b = (s.heap.push { cls := .type "range", data := .fields #[.int lo t, .int hi u, .int 1 v] }).objs.size := by simpa using hb
    subst e
    exact I1.fpOk (Nat.le_refl _) (I1.hok.fresh (Nat.le_refl _))
noncomputable def iRng1 (ta : TA) : TI := fun σ H R => ta σ H fun vs H1 => ∃ j : Int, vs = [.int j] ∧ -(2 ^ 62) ≤ j ∧ j < 2 ^ 62 ∧ R (Itr 0 j.toNat) H1
theorem pi_range1 {a : Expr} {ta : TA} {p pos : Pos} (hg : Gl X "range") (hm : X.mg "range" = none) (ha : PA X [a] ta) (hs : starEach [a] X.env = [(false, eval a X.env)] := by rfl) : PI X tg (.Call (.Name "range" p) [a] [] pos) (iRng1 ta) := by
  intro pins s σ H R I h
  refine Call_ (ld_blt I hg hm boot_range (PyProof.Rows.callWith_type1 (thn (ha pos pins s σ H _ I h) fun us s1 ⟨vs, H1, I1, r1, q1⟩ => ?_) hs rfl))
  obtain ⟨j, e, q1, q2, q⟩ := q1
  subst e
  cases r1 with
  | cons r rr =>
    cases rr
    obtain ⟨t, rfl⟩ := r
    exact call_range_1 (range_it I1 (by omega) (by omega) q1 q2 (by simpa using q))
/-- W: the invariant by the turn and a measure; N: what the body is to reach -/
noncomputable def tFor (wi : TI) (g : TG) (tb : TS) : TS := fun D σ H => wi σ H fun J H1 => ∃ W : Nat → Nat → St → Hp → Prop, (∃ m, W 0 m σ H1) ∧ ∀ i m σ H, W i m σ H →
  (J.stop i H ∧ D.nx σ H) ∨ (J.go i H ∧ ∃ N : St → Hp → Prop, (∀ σ' H', N σ' H' → ∃ m', m' < m ∧ W (i + 1) m' σ' H') ∧ ∀ x H', J.yld i H x H' → g x σ H' fun σ2 H2 => tb { D with nx := N, ct := N, bk := D.nx } σ2 H2)
/-- the records at fp as they stand -/
noncomputable def pinsAt (fp : List Addr) (h : Heap) : List (Addr × Obj) := fp.filterMap fun b => (h.get? b).map fun o => (b, o)
theorem mem_pinsAt {fp : List Addr} {h : Heap} {b : Addr} {o : Obj} (hb : b ∈ fp) (e : h.get? b = some o) : (b, o) ∈ pinsAt fp h := List.mem_filterMap.mpr ⟨b, hb, by rw [e]; rfl⟩
theorem of_pinsAt {fp : List Addr} {h : Heap} {p : Addr × Obj} (hp : p ∈ pinsAt fp h) : p.1 ∈ fp ∧ h.get? p.1 = some p.2 := by
  obtain ⟨b, hb, e⟩ := List.mem_filterMap.mp hp
  cases q : h.get? b with
  | none => rw [q] at e; cases e
  | some o =>
    rw [q] at e
    have e' : (b, o) = p := Option.some.inj e
    subst e'
    exact ⟨hb, q⟩
theorem Inv.pinned {pins : List (Addr × Obj)} {σ : St} {H : Hp} {s : Shared} {fp : List Addr} (I : Inv X pins σ H s) (hf : ∀ b ∈ fp, FpOk X pins H b) (ho : ∀ b ∈ fp, ∃ o, s.heap.get? b = some o ∧ ∀ v, o.data ≠ .cell v) : Inv X (pins ++ pinsAt fp s.heap) σ H s :=
  I.pins_of fun p hp => (List.mem_append.mp hp).elim (fun z => I.pin p (List.mem_append_right _ z)) fun z => by
    obtain ⟨hb, e⟩ := of_pinsAt z
    obtain ⟨f0, f1, f2, _⟩ := hf p.1 hb
    obtain ⟨o, e', d⟩ := ho p.1 hb
    rw [e] at e'; cases e'
    exact ⟨e, f0, f1, f2, d⟩
theorem Inv.unpinned {pins pl : List (Addr × Obj)} {σ : St} {H : Hp} {s : Shared} (I : Inv X (pins ++ pl) σ H s) : Inv X pins σ H s := I.pins_of fun p hp => I.pin p (List.mem_append_right _ (List.mem_append_left _ hp))
theorem ps_for {iter : Expr} {body : List Stmt} {wi : TI} {g : TG} {tb : TS} {pos : Pos} (hp : PassesOwn (model X.prog X.w) X.A X.env X.xe) (hc : X.calm = true) (hi : PI X tg iter wi) (hg : PG X tg g) (hb : PSs X body tb)
    (hs : ∀ x, foldedSetIterable iter X.env x = pure x := by intro _; rfl) : PS X (.For tg iter body [] pos) (tFor wi g tb) := by
  intro pins s σ H D I h
  refine wpAny_For (thn (hi pins s σ H _ I h) fun v s1 h1 => thn h1 fun itv s2 h2 => ?_) hs
  obtain ⟨it, fp, tn, J, H2, e, I2, T, st2, f2, W, ⟨m0, w0⟩, turn⟩ := h2
  subst e
  -- what stays true of the iterator's objects through the loop
  have stat : ∀ {H' : Hp}, (∀ b ∈ fp, H' b = none) → ∀ b ∈ fp, FpOk X pins H' b := fun hn b hb => ⟨hn b hb, (f2 b hb).2⟩
  refine codeAny_forLoop_any (fun n s' => ∃ i σ' H', Inv X pins σ' H' s' ∧ tn i s'.heap ∧ (∀ b ∈ fp, H' b = none) ∧ W i n σ' H') ?_ m0 ⟨0, σ, H2, I2, st2, fun b hb => (f2 b hb).1, w0⟩
  rintro n s3 ⟨i, σ3, H3, I3, st3, fr3, w3⟩
  rcases turn i n σ3 H3 w3 with ⟨stop, qn⟩ | ⟨go, N, hN, step⟩
  · refine wpAny_passesOwn hp (thn (T.done X rfl rfl rfl hc i pins s3 σ3 H3 X.xe I3 (stat fr3) st3 stop) fun r s4 ⟨hr, I4⟩ => ?_)
    subst hr
    exact wpAny_execs_nil ⟨σ3, H3, I4, qn⟩
  · refine wpAny_passesOwn hp (thn (T.item X rfl rfl rfl hc i pins s3 σ3 H3 X.xe I3 (stat fr3) st3 go) fun r s4 ⟨u, hr, h4⟩ => ?_)
    subst hr
    refine wpAny_passesOwn hp (thn h4 fun _ s5 ⟨x, H5, I5, r5, y5, st5, fr5⟩ => ?_)
    have I5' := I5.pinned (stat fr5) (T.obj _ _ st5)
    refine wpAny_passesOwn hp (thn (hg _ s5 σ3 H5 x u _ I5' r5 (step x H5 y5)) fun _ s6 ⟨σ6, H6, I6, q6⟩ => ?_)
    refine wpAny_passesOwn hp (thn (hb _ s6 σ6 H6 _ I6 q6) fun f s7 q7 => ?_)
    have again : ∀ {σ7 : St} {H7 : Hp}, Inv X (pins ++ pinsAt fp s5.heap) σ7 H7 s7 → N σ7 H7 → ∃ m, m < n ∧ ∃ i σ' H', Inv X pins σ' H' s7 ∧ tn i s7.heap ∧ (∀ b ∈ fp, H' b = none) ∧ W i m σ' H' := fun {σ7 H7} I7 n7 => by
      obtain ⟨m', hm, w7⟩ := hN σ7 H7 n7
      refine ⟨m', hm, i + 1, σ7, H7, I7.unpinned, T.keep _ _ _ st5 fun b hb o e => (I7.pin (b, o) (List.mem_append_right _ (List.mem_append_right _ (mem_pinsAt hb e)))).1, fun b hb => ?_, w7⟩
      obtain ⟨o, e, d⟩ := T.obj _ _ st5 b hb
      exact (I7.pin (b, o) (List.mem_append_right _ (List.mem_append_right _ (mem_pinsAt hb e)))).2.1
    cases f with
    | next => obtain ⟨σ7, H7, I7, n7⟩ := q7; exact again I7 n7
    | cont => obtain ⟨σ7, H7, I7, n7⟩ := q7; exact again I7 n7
    | brk => obtain ⟨σ7, H7, I7, q7⟩ := q7; exact ⟨σ7, H7, I7.unpinned, q7⟩
    | ret v => obtain ⟨x7, σ7, H7, I7, r7, q7⟩ := q7; exact ⟨x7, σ7, H7, I7.unpinned, r7, q7⟩
end
/-- over a list that the body leaves as it is -/
theorem for_list {K : PySem.W.Frag} {a : Addr} {xs : List V} {g : TG} {tb : TS} {D : Ends} {σ : St} {H : Hp} (Pv : Nat → St → Hp → Prop) (h0 : Pv 0 σ H) (hl : ∀ i σ H, i ≤ xs.length → Pv i σ H → SqL K H a xs)
    (hs : ∀ i x σ H, xs[i]? = some x → Pv i σ H → g x σ H fun σ2 H2 => tb { D with nx := Pv (i + 1), ct := Pv (i + 1), bk := D.nx } σ2 H2) (hd : ∀ σ H, Pv xs.length σ H → D.nx σ H) :
    ∃ W : Nat → Nat → St → Hp → Prop, (∃ m, W 0 m σ H) ∧ ∀ i m σ H, W i m σ H →
      ((Itl K a).stop i H ∧ D.nx σ H) ∨ ((Itl K a).go i H ∧ ∃ N : St → Hp → Prop, (∀ σ' H', N σ' H' → ∃ m', m' < m ∧ W (i + 1) m' σ' H') ∧ ∀ x H', (Itl K a).yld i H x H' → g x σ H' fun σ2 H2 => tb { D with nx := N, ct := N, bk := D.nx } σ2 H2) := by
  refine ⟨fun i m σ H => m = xs.length - i ∧ i ≤ xs.length ∧ Pv i σ H, ⟨xs.length, by simp, Nat.zero_le _, h0⟩, ?_⟩
  rintro i m σ H ⟨rfl, hi, p⟩
  have q := hl i σ H hi p
  by_cases hlt : i < xs.length
  · refine .inr ⟨⟨xs, xs[i], q, by simp [hlt]⟩, Pv (i + 1), fun σ' H' p' => ⟨xs.length - (i + 1), by omega, rfl, hlt, p'⟩, fun x H' y => ?_⟩
    obtain ⟨e, y⟩ := y
    subst e
    exact hs i x σ _ (y xs q) p
  · have e : i = xs.length := by omega
    subst e
    exact .inl ⟨⟨xs, q, Nat.le_refl _⟩, hd σ H p⟩
theorem for_tup {K : PySem.W.Frag} {a : Addr} {xs : List V} {g : TG} {tb : TS} {D : Ends} {σ : St} {H : Hp} (Pv : Nat → St → Hp → Prop) (h0 : Pv 0 σ H) (hl : ∀ i σ H, i ≤ xs.length → Pv i σ H → SqT K H a xs)
    (hs : ∀ i x σ H, xs[i]? = some x → Pv i σ H → g x σ H fun σ2 H2 => tb { D with nx := Pv (i + 1), ct := Pv (i + 1), bk := D.nx } σ2 H2) (hd : ∀ σ H, Pv xs.length σ H → D.nx σ H) :
    ∃ W : Nat → Nat → St → Hp → Prop, (∃ m, W 0 m σ H) ∧ ∀ i m σ H, W i m σ H →
      ((Itt K a).stop i H ∧ D.nx σ H) ∨ ((Itt K a).go i H ∧ ∃ N : St → Hp → Prop, (∀ σ' H', N σ' H' → ∃ m', m' < m ∧ W (i + 1) m' σ' H') ∧ ∀ x H', (Itt K a).yld i H x H' → g x σ H' fun σ2 H2 => tb { D with nx := N, ct := N, bk := D.nx } σ2 H2) := by
  refine ⟨fun i m σ H => m = xs.length - i ∧ i ≤ xs.length ∧ Pv i σ H, ⟨xs.length, by simp, Nat.zero_le _, h0⟩, ?_⟩
  rintro i m σ H ⟨rfl, hi, p⟩
  have q := hl i σ H hi p
  by_cases hlt : i < xs.length
  · refine .inr ⟨⟨xs, xs[i], q, by simp [hlt]⟩, Pv (i + 1), fun σ' H' p' => ⟨xs.length - (i + 1), by omega, rfl, hlt, p'⟩, fun x H' y => ?_⟩
    obtain ⟨e, y⟩ := y
    subst e
    exact hs i x σ _ (y xs q) p
  · have e : i = xs.length := by omega
    subst e
    exact .inl ⟨⟨xs, q, Nat.le_refl _⟩, hd σ H p⟩
theorem for_range {lo : Int} {n : Nat} {g : TG} {tb : TS} {D : Ends} {σ : St} {H : Hp} (Pv : Nat → St → Hp → Prop) (h0 : Pv 0 σ H)
    (hs : ∀ i σ H, i < n → Pv i σ H → g (.int (lo + i)) σ H fun σ2 H2 => tb { D with nx := Pv (i + 1), ct := Pv (i + 1), bk := D.nx } σ2 H2) (hd : ∀ σ H, Pv n σ H → D.nx σ H) :
    ∃ W : Nat → Nat → St → Hp → Prop, (∃ m, W 0 m σ H) ∧ ∀ i m σ H, W i m σ H →
      ((Itr lo n).stop i H ∧ D.nx σ H) ∨ ((Itr lo n).go i H ∧ ∃ N : St → Hp → Prop, (∀ σ' H', N σ' H' → ∃ m', m' < m ∧ W (i + 1) m' σ' H') ∧ ∀ x H', (Itr lo n).yld i H x H' → g x σ H' fun σ2 H2 => tb { D with nx := N, ct := N, bk := D.nx } σ2 H2) := by
  refine ⟨fun i m σ H => m = n - i ∧ i ≤ n ∧ Pv i σ H, ⟨n, by simp, Nat.zero_le _, h0⟩, ?_⟩
  rintro i m σ H ⟨rfl, hi, p⟩
  by_cases hlt : i < n
  · refine .inr ⟨hlt, Pv (i + 1), fun σ' H' p' => ⟨n - (i + 1), by omega, rfl, hlt, p'⟩, fun x H' y => ?_⟩
    obtain ⟨e, y⟩ := y
    subst e y
    exact hs i σ _ hlt p
  · have e : i = n := by omega
    subst e
    exact .inl ⟨Nat.le_refl _, hd σ H p⟩
end L2
namespace L2
open PySem PySem.Spec PyProof.Rows
noncomputable abbrev R2 := V → V → Hp → VK → Prop
/-- a two-place operation on values: f is binaryOp op, inplaceOp op or compareOp op -/
noncomputable def OpR (X : Cx) (f : Value → Value → Sem Value) (r : R2) : Prop :=
  ∀ (pins : List (Addr × Obj)) (s : Shared) (σ : St) (H : Hp) (x y : V) (v u : Value) (Q : VK), Inv X pins σ H s → RelV x v → RelV y u → r x y H Q →
    wpAny (model X.prog X.w) X.A (f v u) (EP X pins σ Q) X.xe s
/-- a one-place operation -/
noncomputable def UnR (X : Cx) (f : Value → Sem Value) (r : V → Hp → VK → Prop) : Prop :=
  ∀ (pins : List (Addr × Obj)) (s : Shared) (σ : St) (H : Hp) (x : V) (v : Value) (Q : VK), Inv X pins σ H s → RelV x v → r x H Q →
    wpAny (model X.prog X.w) X.A (f v) (EP X pins σ Q) X.xe s
/-- a call of a value that is known (a builtin, a type) with values -/
noncomputable def CallR (X : Cx) (f : Value) (r : List V → Hp → VK → Prop) : Prop :=
  ∀ (pins : List (Addr × Obj)) (s : Shared) (σ : St) (H : Hp) (xs : List V) (us : List Value) (Q : VK), Inv X pins σ H s → Vals xs us → r xs H Q →
    wpAny (model X.prog X.w) X.A (call f us) (EP X pins σ Q) X.xe s
noncomputable def tOp (r : R2) (ta tb : TE) : TE := fun σ H Q => ta σ H fun x H1 => tb σ H1 fun y H2 => r x y H2 Q
noncomputable def tUn (r : V → Hp → VK → Prop) (ta : TE) : TE := fun σ H Q => ta σ H fun x H1 => r x H1 Q
/-- ints in, under C, and a value out -/
noncomputable def rI (C : Int → Int → Prop) (g : Int → Int → V) : R2 := fun x y H Q => ∃ i j, x = .int i ∧ y = .int j ∧ C i j ∧ Q (g i j) H
noncomputable def rI0 (g : Int → Int → V) : R2 := fun x y H Q => ∃ i j, x = .int i ∧ y = .int j ∧ Q (g i j) H
noncomputable def rU (g : Int → V) : V → Hp → VK → Prop := fun x H Q => ∃ i, x = .int i ∧ Q (g i) H
section
variable {X : Cx} {a b c : Expr} {ta tb tc : TE} {pos : Pos}
theorem binT (ha : PE X a ta) (hb : PE X b tb) {pins : List (Addr × Obj)} {s : Shared} {σ : St} {H : Hp} {R : V → V → Hp → Prop} (I : Inv X pins σ H s)
    (h : ta σ H fun x H1 => tb σ H1 fun y H2 => R x y H2) {Q : Value → Shared → Prop} {f : Value → Value → Sem Value}
    (hf : ∀ v u s2 x y H2, Inv X pins σ H2 s2 → RelV x v → RelV y u → R x y H2 → wpAny (model X.prog X.w) X.A (f v u) Q X.xe s2) :
    wpAny (model X.prog X.w) X.A (eval a X.env) (fun v s₁ => wpAny (model X.prog X.w) X.A (eval b X.env) (fun u s₂ => wpAny (model X.prog X.w) X.A (f v u) Q X.xe s₂) X.xe s₁) X.xe s := by
  refine thn (ha pins s σ H _ I h) fun v s1 ⟨x, H1, I1, r1, q1⟩ => ?_
  refine thn (hb pins s1 σ H1 _ I1 q1) fun u s2 ⟨y, H2, I2, r2, q2⟩ => ?_
  exact hf v u s2 x y H2 I2 r1 r2 q2
theorem pe_op {op : Operator} {r : R2} (ho : OpR X (binaryOp op) r) (ha : PE X a ta) (hb : PE X b tb) : PE X (.BinOp a op b pos) (tOp r ta tb) := by
  intro pins s σ H Q I h
  exact wpAny_BinOp (binT ha hb I h fun v u s2 x y H2 I2 rx ry q => ho pins s2 σ H2 x y v u Q I2 rx ry q)
theorem pe_un {op : UnaryOp} {r : V → Hp → VK → Prop} (ho : UnR X (unaryOp op) r) (ha : PE X a ta) : PE X (.UnaryOp op a pos) (tUn r ta) := by
  intro pins s σ H Q I h
  exact UnaryOp_ (thn (ha pins s σ H _ I h) fun v s1 ⟨x, H1, I1, r1, q1⟩ => ho pins s1 σ H1 x v Q I1 r1 q1)
theorem opI {f : Value → Value → Sem Value} {C : Int → Int → Prop} {g : Int → Int → Int}
    (rule : ∀ (i j : Int) (t u : Tok) (s : Shared) (Q : Value → Shared → Prop) (E : Value → Shared → Prop), C i j → Q (.int (g i j) s.toks) { s with toks := s.toks + 1 } → wpAny (model X.prog X.w) X.A (f (.int i t) (.int j u)) Q E s) :
    OpR X f (rI C fun i j => .int (g i j)) := by
  intro pins s σ H x y v u Q I rx ry h
  obtain ⟨i, j, rfl, rfl, hc, q⟩ := h
  obtain ⟨t, rfl⟩ := rx
  obtain ⟨t', rfl⟩ := ry
  exact rule i j t t' s _ _ hc ⟨.int (g i j), H, I.tok _, ⟨_, rfl⟩, q⟩
theorem opI0 {f : Value → Value → Sem Value} {g : Int → Int → Int}
    (rule : ∀ (i j : Int) (t u : Tok) (s : Shared) (Q : Value → Shared → Prop) (E : Value → Shared → Prop), Q (.int (g i j) s.toks) { s with toks := s.toks + 1 } → wpAny (model X.prog X.w) X.A (f (.int i t) (.int j u)) Q E s) :
    OpR X f (rI0 fun i j => .int (g i j)) := by
  intro pins s σ H x y v u Q I rx ry h
  obtain ⟨i, j, rfl, rfl, q⟩ := h
  obtain ⟨t, rfl⟩ := rx
  obtain ⟨t', rfl⟩ := ry
  exact rule i j t t' s _ _ ⟨.int (g i j), H, I.tok _, ⟨_, rfl⟩, q⟩
theorem opB0 {f : Value → Value → Sem Value} {g : Int → Int → Bool}
    (rule : ∀ (i j : Int) (t u : Tok) (s : Shared) (Q : Value → Shared → Prop) (E : Value → Shared → Prop), Q (.bool (g i j)) s → wpAny (model X.prog X.w) X.A (f (.int i t) (.int j u)) Q E s) :
    OpR X f (rI0 fun i j => .bl (g i j)) := by
  intro pins s σ H x y v u Q I rx ry h
  obtain ⟨i, j, rfl, rfl, q⟩ := h
  obtain ⟨t, rfl⟩ := rx
  obtain ⟨t', rfl⟩ := ry
  exact rule i j t t' s _ _ ⟨.bl (g i j), H, I, rfl, q⟩
noncomputable def CDiv (i j : Int) : Prop := 0 < j ∧ j < 1073741824
noncomputable def CPow (i j : Int) : Prop := 0 ≤ j ∧ j ≤ 1000000 ∧ i.natAbs < 2 ^ 64
theorem op_add : OpR X (binaryOp .Add) (rI0 fun i j => .int (i + j)) := opI0 fun _ _ _ _ _ _ _ q => add_int q
theorem op_sub : OpR X (binaryOp .Sub) (rI0 fun i j => .int (i - j)) := opI0 fun _ _ _ _ _ _ _ q => sub_int q
/-- // by a positive divisor -/
theorem op_fdiv : OpR X (binaryOp .FloorDiv) (rI CDiv fun i j => .int (i / j)) := opI fun i j _ _ _ _ _ hc q => by
  have h1 : (0 : Int) < j := hc.1
  have h2 : j < 1073741824 := hc.2
  exact floordiv_int (by omega) (by rw [Int.fdiv_eq_ediv_of_nonneg i (by omega)]; exact q) (.inl (PyProof.noPylong_small (by omega)))
/-- % by a positive divisor of any size -/
theorem op_mod : OpR X (binaryOp .Mod) (rI (fun _ j => 0 < j) fun i j => .int (i % j)) := opI fun i j _ _ _ _ _ hc q => by
  have h1 : (0 : Int) < j := hc
  exact mod_int' (by omega) (by rw [Int.fmod_eq_emod_of_nonneg i (by omega)]; exact q)
theorem op_pow : OpR X (binaryOp .Pow) (rI CPow fun i j => .int (i ^ j.toNat)) := opI fun _ _ _ _ _ _ _ hc q => pow_int_small hc.1 hc.2.1 hc.2.2 q
theorem unI {f : Value → Sem Value} {g : Int → Int}
    (rule : ∀ (i : Int) (t : Tok) (s : Shared) (Q : Value → Shared → Prop) (E : Value → Shared → Prop), Q (.int (g i) s.toks) { s with toks := s.toks + 1 } → wpAny (model X.prog X.w) X.A (f (.int i t)) Q E s) :
    UnR X f (rU fun i => .int (g i)) := by
  intro pins s σ H x v Q I rx h
  obtain ⟨i, rfl, q⟩ := h
  obtain ⟨t, rfl⟩ := rx
  exact rule i t s _ _ ⟨.int (g i), H, I.tok _, ⟨_, rfl⟩, q⟩
theorem un_neg : UnR X (unaryOp .USub) (rU fun i => .int (-i)) := unI fun _ _ _ _ _ q => neg_int q
end
/-- the scalars that == tells apart as data does -/
noncomputable def scal : V → V → Bool
  | .non, .non => true | .non, .int _ => true | .int _, .non => true | .non, .bl _ => true | .bl _, .non => true | .non, .str _ => true | .str _, .non => true
  | .int _, .int _ => true | .bl _, .bl _ => true | .str _, .str _ => true | .byt _, .byt _ => true
  | .int _, .str _ => true | .str _, .int _ => true | .bl _, .str _ => true | .str _, .bl _ => true
  | _, _ => false
noncomputable def rEq : R2 := fun x y H Q => scal x y = true ∧ Q (.bl (decide (x = y))) H
theorem dec_int {i j : Int} : decide (V.int i = V.int j) = (i == j) := by
  rw [Bool.eq_iff_iff]
  simp
theorem dec_bl {i j : Bool} : decide (V.bl i = V.bl j) = (i == j) := by
  rw [Bool.eq_iff_iff]
  simp
theorem dec_str {i j : Str} : decide (V.str i = V.str j) = (i == j) := by
  rw [Bool.eq_iff_iff]
  simp
theorem dec_byt {i j : Array UInt8} : decide (V.byt i = V.byt j) = (i.toList == j.toList) := by
  rw [Bool.eq_iff_iff]
  cases i
  cases j
  simp
section
variable {X : Cx} {a b c : Expr} {ta tb tc : TE} {pos : Pos}
theorem fin_bl {pins : List (Addr × Obj)} {σ : St} {H : Hp} {s : Shared} {Q : VK} {k k' : Bool} (I : Inv X pins σ H s) (q : Q (.bl k) H) (e : k = k') : EP X pins σ Q (.bool k') s := by
  subst e
  exact ⟨.bl k, H, I, rfl, q⟩
theorem op_eq : OpR X (compareOp .Eq) rEq := by
  intro pins s σ H x y v u Q I rx ry h
  obtain ⟨hs, q⟩ := h
  cases x with
  | non =>
    cases rx
    cases y with
    | non => cases ry; exact PySem.EqNone.eq_none_none (fin_bl I q (by simp))
    | bl j => cases ry; exact PySem.EqNone.eq_none_bool (fin_bl I q (by simp))
    | int j => obtain ⟨t', rfl⟩ := ry; exact PySem.EqNone.eq_none_int (fin_bl I q (by simp))
    | str j => obtain ⟨t', rfl⟩ := ry; exact PySem.EqNone.eq_none_str (fin_bl I q (by simp))
    | _ => exact absurd (show false = true from hs) Bool.false_ne_true
  | bl i =>
    cases rx
    cases y with
    | non => cases ry; exact PySem.EqNone.eq_bool_none (fin_bl I q (by simp))
    | bl j => cases ry; exact eq_bool (fin_bl I q dec_bl)
    | str j => obtain ⟨t', rfl⟩ := ry; exact PySem.EqMixed.eq_bool_str (fin_bl I q (by simp))
    | _ => exact absurd (show false = true from hs) Bool.false_ne_true
  | int i =>
    obtain ⟨t, rfl⟩ := rx
    cases y with
    | non => cases ry; exact PySem.EqNone.eq_int_none (fin_bl I q (by simp))
    | int j => obtain ⟨t', rfl⟩ := ry; exact eq_int (fin_bl I q dec_int)
    | str j => obtain ⟨t', rfl⟩ := ry; exact PySem.EqMixed.eq_int_str (fin_bl I q (by simp))
    | _ => exact absurd (show false = true from hs) Bool.false_ne_true
  | str i =>
    obtain ⟨t, rfl⟩ := rx
    cases y with
    | non => cases ry; exact PySem.EqNone.eq_str_none (fin_bl I q (by simp))
    | bl j => cases ry; exact PySem.EqMixed.eq_str_bool (fin_bl I q (by simp))
    | int j => obtain ⟨t', rfl⟩ := ry; exact PySem.EqMixed.eq_str_int (fin_bl I q (by simp))
    | str j => obtain ⟨t', rfl⟩ := ry; exact eq_str (fin_bl I q dec_str)
    | _ => exact absurd (show false = true from hs) Bool.false_ne_true
  | byt i =>
    obtain ⟨t, rfl⟩ := rx
    cases y with
    | byt j => obtain ⟨t', rfl⟩ := ry; exact PySem.W.eq_bytes (fin_bl I q dec_byt)
    | _ => exact absurd (show false = true from hs) Bool.false_ne_true
  | _ => cases y <;> exact absurd (show false = true from hs) Bool.false_ne_true
theorem op_lt : OpR X (compareOp .Lt) (rI0 fun i j => .bl (decide (i < j))) := opB0 fun _ _ _ _ _ _ _ q => lt_int q
theorem op_le : OpR X (compareOp .LtE) (rI0 fun i j => .bl (decide (i ≤ j))) := opB0 fun _ _ _ _ _ _ _ q => le_int q
/-- is None, is not None: the right side a value none -/
theorem op_isN : OpR X (compareOp .Is) (fun x y H Q => y = .non ∧ Q (.bl (decide (x = .non))) H) := by
  intro pins s σ H x y v u Q I rx ry h
  obtain ⟨rfl, q⟩ := h
  cases ry
  refine is_none_gen (fin_bl I q ?_)
  cases x <;> first
    | (cases rx; rfl)
    | (obtain ⟨t, rfl⟩ := rx; rfl)
theorem nomark (b : Expr) {op : CmpOp} (h : op ≠ .In := by decide) (h2 : op ≠ .NotIn := by decide) : behindInMarks op b = false := by
  have e1 : (op == CmpOp.In) = false := by cases op <;> first | rfl | exact absurd rfl h
  have e2 : (op == CmpOp.NotIn) = false := by cases op <;> first | rfl | exact absurd rfl h2
  cases b <;> simp [behindInMarks, e1, e2]
/-- a comparison as a value; hm: nomark b, or (for in, not in) by with_unfolding_all rfl -/
theorem pe_cmpR {op : CmpOp} {r : R2} (ho : OpR X (compareOp op) r) (ha : PE X a ta) (hb : PE X b tb) (hm : behindInMarks op b = false) : PE X (.Compare a [op] [b] pos) (tOp r ta tb) := by
  intro pins s σ H Q I h
  exact wpAny_Compare1 (binT ha hb I h fun v u s2 x y H2 I2 rx ry q => ho pins s2 σ H2 x y v u Q I2 rx ry q) hm
/-- a reading of a value as a test -/
noncomputable def tTest (t : TE) : TT := fun σ H Q => t σ H fun x H' => ∃ k, x = .bl k ∧ Q k H'
theorem pt_cmpR {op : CmpOp} {r : R2} (ho : OpR X (compareOp op) r) (ha : PE X a ta) (hb : PE X b tb) (hm : behindInMarks op b = false) : PT X (.Compare a [op] [b] pos) (tTest (tOp r ta tb)) := by
  intro pins s σ H Q I h
  refine wpAny_isTrue_Compare1 (thn (ha pins s σ H _ I h) fun v s1 ⟨x, H1, I1, r1, q1⟩ => thn (hb pins s1 σ H1 _ I1 q1) fun u s2 ⟨y, H2, I2, r2, q2⟩ =>
    thn (ho pins s2 σ H2 x y v u _ I2 r1 r2 q2) fun c s3 ⟨z, H3, I3, r3, k, e, q3⟩ => ?_) hm
  subst e
  cases r3
  exact wpAny_truthy_bool ⟨H3, I3, q3⟩
/-- a op1 b op2 c -/
noncomputable def tChain (r r' : R2) (ta tb tc : TE) : TE := fun σ H Q => ta σ H fun x H1 => tb σ H1 fun y H2 => r x y H2 fun z H3 => ∃ k, z = .bl k ∧
  (if k = true then tc σ H3 fun w' H4 => r' y w' H4 Q else Q (.bl false) H3)
theorem pt_chain {op op' : CmpOp} {r r' : R2} (ho : OpR X (compareOp op) r) (ho' : OpR X (compareOp op') r') (ha : PE X a ta) (hb : PE X b tb) (hc : PE X c tc)
    (hm : lastMarks [op, op'] [b, c] = false := by with_unfolding_all rfl) : PT X (.Compare a [op, op'] [b, c] pos) (tTest (tChain r r' ta tb tc)) := by
  intro pins s σ H Q I h
  refine isTrue_chain (thn (ha pins s σ H _ I h) fun v s1 ⟨x, H1, I1, r1, q1⟩ => test_link (thn (hb pins s1 σ H1 _ I1 q1) fun u s2 ⟨y, H2, I2, r2, q2⟩ =>
    thn (ho pins s2 σ H2 x y v u _ I2 r1 r2 q2) fun d s3 ⟨z, H3, I3, r3, k, e, q3⟩ => ?_)) hm
  subst e
  cases r3
  refine wpAny_truthy_bool ?_
  cases k with
  | false =>
    obtain ⟨k', e', q'⟩ := q3
    cases e'
    exact ite_ff ⟨H3, I3, q'⟩
  | true =>
    refine ite_tt (test_last (thn (hc pins s3 σ H3 _ I3 q3) fun w' s4 ⟨z', H4, I4, r4, q4⟩ => thn (ho' pins s4 σ H4 y z' u w' _ I4 r2 r4 q4) fun d' s5 ⟨z2, H5, I5, r5, k2, e2, q5⟩ => ?_))
    subst e2
    cases r5
    exact wpAny_truthy_bool ⟨H5, I5, q5⟩
theorem line63 : (sizeLine : Nat) < 2 ^ 63 := by rw [sizeLine_eq]; decide
theorem vals1 {x : V} {us : List Value} (r : Vals [x] us) : ∃ u, us = [u] ∧ RelV x u := by
  cases r with
  | cons r1 r2 => cases r2; exact ⟨_, rfl, r1⟩
end
end L2
namespace L2
open PySem PySem.Spec PyProof.Rows
section
variable {prog : Program} {w : World} {A : Around} {E : Value → Shared → Prop} {s : Shared} {K : PySem.W.Frag} {x dx C f : Addr} {mA : Str → Option Value} {name : Str} {v : Value}
end
theorem RelO.some_of {v : V} {o : Option Value} (r : RelO (some v) o) : ∃ u, o = some u ∧ RelV v u := by
  cases o with
  | none => exact (show False from r).elim
  | some u => exact ⟨u, rfl, r⟩
section
variable {P : Program} {w : World} {H H' : Hp} {h h' : Heap} {a C dx : Addr} {fs fs' : List (Str × V)}
end
section
variable {X : Cx} {pins : List (Addr × Obj)} {σ : St} {H : Hp} {s : Shared} {a C dx : Addr} {fs : List (Str × V)} {f : Str} {v : V} {A : Around} {E : Value → Shared → Prop}
end
section
variable {X : Cx} {o e value : Expr} {f : Str} {pos pos' tpos : Pos} {ta tv : TE}
end
section
variable {X : Cx} {pins : List (Addr × Obj)} {σ : St} {H : Hp} {s : Shared} {A : Around} {E : Value → Shared → Prop} {Q : Value → Shared → Prop} {c : Value} {b : Bool}
end
end L2
namespace L2
open PySem PySem.Spec PyProof.Rows
structure Room (k : Nat) (A : Around) : Prop where
  hd : A.handled = none
  dp : A.depth + 3 * k + 5 < recursionLimit
  un : A.units + 16 * k + 200 < cLine
theorem Room.mono {j k : Nat} {A : Around} (r : Room k A) (h : j ≤ k) : Room j A := ⟨r.hd, by have := r.dp; omega, by have := r.un; omega⟩
theorem Room.deeper {k : Nat} {A : Around} (r : Room (k + 1) A) (env : Env) : Room k (A.deeper env) :=
  ⟨r.hd, by have := r.dp; show A.depth + 1 + 3 * k + 5 < _; omega, by have := r.un; show A.units + 3 + 16 * k + 200 < _; omega⟩
theorem Room.depth {k : Nat} {A : Around} (r : Room k A) : A.depth < recursionLimit := by have := r.dp; omega
theorem Room.units {k : Nat} {A : Around} (r : Room k A) : A.units + 64 < cLine := by have := r.un; omega
noncomputable def tNil : TA := fun _ H Q => Q [] H
noncomputable def tCons (ta : TE) (tr : TA) : TA := fun σ H Q => ta σ H fun x H1 => tr σ H1 fun xs H2 => Q (x :: xs) H2
section
variable {X : Cx} {e : Expr} {es : List Expr} {te : TE} {t : TA} {pos : Pos}
theorem pa_nil : PA X [] tNil := fun _ _ _ _ H Q I h => Calls.spliced_nil ⟨[], H, I, .nil, h⟩
theorem pa_cons (ha : PE X e te) (hr : PA X es t) (hs : starEach (e :: es) X.env = (false, eval e X.env) :: starEach es X.env := by rfl) : PA X (e :: es) (tCons te t) := by
  intro pos pins s σ H Q I h
  rw [hs]
  show wpAny _ _ (spliced ((false, eval e X.env) :: backTo pos (starEach es X.env))) _ _ s
  refine Calls.spliced_cons (thn (ha pins s σ H _ I h) fun u s1 ⟨x, H1, I1, r1, q1⟩ => ?_)
  exact thn (hr pos pins s1 σ H1 _ I1 q1) fun us s2 ⟨xs, H2, I2, r2, q2⟩ => ⟨x :: xs, H2, I2, .cons r1 r2, q2⟩
/-- a tuple, a list of written items -/
noncomputable def tTup (t : TA) : TE := fun σ H Q => t σ H fun xs H1 => xs.length ≤ sizeLine ∧ ∀ p, H1 p = none → Q (.ref p) (upd H1 p (.tup xs))
noncomputable def tLst (t : TA) : TE := fun σ H Q => t σ H fun xs H1 => xs.length ≤ sizeLine ∧ ∀ p, H1 p = none → Q (.ref p) (upd H1 p (.lst xs))
theorem pe_tup {x1} (h : PA X es t) : PE X (.Tuple es x1 pos) (tTup t) := by
  intro pins s σ H Q I hq
  refine wpAny_Tuple_spliced (thn (h pos pins s σ H _ I hq) fun us s1 ⟨xs, H1, I1, r, z, q⟩ => ⟨by rw [← r.length]; exact z, ?_⟩)
  have hf : H1 s1.heap.objs.size = none := I1.hok.fresh (Nat.le_refl _)
  refine ⟨.ref s1.heap.objs.size, upd H1 s1.heap.objs.size (.tup xs), I1.laid (t' := s1.toks) (fun b u e => Heap.get?_push_of_some _ e) (Nat.le_refl _) ?_, rfl, q _ hf⟩
  exact ⟨z, us, r, ⟨_, Heap.get?_push_size _ rfl, rfl, _, rfl⟩⟩
theorem pe_lst (h : PA X es t) : PE X (.List es pos) (tLst t) := by
  intro pins s σ H Q I hq
  refine wpAny_List_spliced (thn (h pos pins s σ H _ I hq) fun us s1 ⟨xs, H1, I1, r, z, q⟩ => ⟨by rw [← r.length]; exact z, ?_⟩)
  have hf : H1 s1.heap.objs.size = none := I1.hok.fresh (Nat.le_refl _)
  refine ⟨.ref s1.heap.objs.size, upd H1 s1.heap.objs.size (.lst xs), I1.laid (t' := s1.toks) (fun b u e => Heap.get?_push_of_some _ e) (Nat.le_refl _) ?_, rfl, q _ hf⟩
  exact ⟨z, us, 0, r, Heap.get?_push_size _ rfl⟩
end
/-- a def's promise: the bound arguments in the parameters' order, the heap, the wanted end, the wanted exception -/
noncomputable abbrev Sp := List V → Hp → VK → XK → Prop
/-- how an exception lies behind a call (file 08 gives it): the callers' frames, abstract heap and state ahead of the call, the wish, the exception, the state -/
noncomputable abbrev CXT := List Env → Hp → Shared → XK → Value → Shared → Prop
/-- the state at a call -/
structure Env0 (P : Program) (w : World) (K : PySem.W.Frag) (mg : Str → Option Value) (base : Heap) (A : Around) (outer : List Env) (s : Shared) (H : Hp) : Prop where
  frames : A.frames = some outer
  mod : Mod K mg base
  bs : ∀ b o, base.get? b = some o → s.heap.get? b = some o ∧ H b = none
  bsz : base.objs.size ≤ s.heap.objs.size
  funs : s.heap.FunFrames base outer
  frf : ∀ b ∈ frs outer, H b = none
  hok : HOk P w H s.heap
  bare : AllBare s.gens
/-- a call's end -/
noncomputable def CE (outer : List Env) (P : Program) (w : World) (H : Hp) (s : Shared) (Q : VK) (u : Value) (s' : Shared) : Prop :=
  ∃ v H', s'.os = s.os ∧ AllBare s'.gens ∧ Un (frs outer) [] H H' s.heap s'.heap ∧ HOk P w H' s'.heap ∧ RelV v u ∧ Q v H'
noncomputable def CR (CX : CXT) (outer : List Env) (P : Program) (w : World) (H : Hp) (s : Shared) (Q : VK) (E : XK) (r : Result) (s' : Shared) : Prop :=
  match r with
  | .ok (.ret u) => CE outer P w H s Q u s'
  | .ok _ => False
  | .error e => CX outer H s E e s'
structure FnOk (P : Program) (w : World) (K : PySem.W.Frag) (mg : Str → Option Value) (base : Heap) (CX : CXT) (k : Nat) (f : Addr) (fd : FuncData) (ps : List Str) (sp : Sp) : Prop where
  len : ∀ vs H Q E, sp vs H Q E → vs.length = ps.length
  run : ∀ (A : Around) (outer : List Env) (s : Shared) (H : Hp) (args : Args) (us : List Value) (vs : List V) (Q : VK) (E : XK), Room k A → Env0 P w K mg base A outer s H → BindsTo s fd args (ps.zip us) → Vals vs us → sp vs H Q E →
    codeAny (model P w) A (.call (.ref f) args) (CR CX outer P w H s Q E) s
section
variable {X : Cx} {pins : List (Addr × Obj)} {σ : St} {H : Hp} {s s' : Shared}
/-- from a body: what a callee wants -/
theorem Inv.env0 (I : Inv X pins σ H s) : Env0 X.prog X.w X.K X.mg X.base X.A X.stack s H :=
  ⟨I.ok.frames, I.ok.mod, I.bs, Nat.le_trans I.ok.bsz I.sz, I.stack, I.stkFree, I.hok, I.bare⟩
/-- behind a call -/
theorem Inv.after {Q : VK} {u : Value} (I : Inv X pins σ H s) (h : CE X.stack X.prog X.w H s Q u s') : EP X pins σ Q u s' := by
  obtain ⟨v, H', os, bare, un, hok, r, q⟩ := h
  obtain ⟨hh, g, d, t, os'⟩ := s'
  obtain rfl : os' = s.os := os
  exact ⟨v, H', I.call (h' := hh) (g' := g) (d' := d) (t' := t) (ch := []) un hok bare (fun b z => absurd z (by simp)), r, q⟩
end
/-- f(..): the written arguments, then the defaults dvs; E: what is wanted of an exception -/
noncomputable def tCall (sp : Sp) (dvs : List V) (E : XK) (t : TA) : TE := fun σ H Q => t σ H fun vs H1 => sp (vs ++ dvs) H1 Q E
/-- how the parameters are bound: us the positional arguments, kw the keywords' values by name, ds the defaults that fill up -/
noncomputable def Binds (K : PySem.W.Frag) (fd : FuncData) (ps : List Str) (ds : List Value) : Prop :=
  ∀ (s : Shared) (us : List Value), K.In s.heap → (us ++ ds).length = ps.length → BindsTo s fd ⟨us, []⟩ (ps.zip (us ++ ds))
/-- every parameter is given -/
theorem Binds.all {K : PySem.W.Frag} {fd : FuncData} {ps : List Str} (h : ∀ us : List Value, us.length = ps.length → bindArgs fd ⟨us, []⟩ = pure (ps.zip us)) : Binds K fd ps [] := fun s us _ hl => by
  rw [List.append_nil] at hl ⊢
  exact .of_eq (h us hl)
/-- an exception of a callee reaches what this body wants of exceptions -/
noncomputable def Passes (CX : CXT) (X : Cx) (E : XK) : Prop := ∀ (pins : List (Addr × Obj)) (σ : St) (H : Hp) (s : Shared) (e : Value) (s' : Shared), Inv X pins σ H s → CX X.stack H s E e s' → X.xe e s'
section
variable {X : Cx} {CX : CXT} {k : Nat} {f C : Addr} {fd : FuncData} {ps : List Str} {sp : Sp} {dvs : List V} {ds : List Value} {E : XK} {x m : Str} {p pos apos : Pos} {e o : Expr} {es : List Expr} {ta : TE} {t : TA}
/-- the callee runs -/
theorem run_fn {pins : List (Addr × Obj)} {σ : St} {H : Hp} {s : Shared} {Q : VK} {us : List Value} {vs : List V} (F : FnOk X.prog X.w X.K X.mg X.base CX k f fd ps sp) (hr : Room k X.A) (hb : Binds X.K fd ps ds) (hd : Vals dvs ds) (hx : Passes CX X E)
    (I : Inv X pins σ H s) (r : Vals vs us) (h : sp (vs ++ dvs) H Q E) : wpAny (model X.prog X.w) X.A (call (.ref f) us) (EP X pins σ Q) X.xe s := by
  have r2 : Vals (vs ++ dvs) (us ++ ds) := r.append hd
  have hl : (us ++ ds).length = ps.length := by rw [← r2.length]; exact F.len _ _ _ _ h
  refine wpAny_call (codeAny_mono (F.run X.A X.stack s H ⟨us, []⟩ (us ++ ds) (vs ++ dvs) Q E hr I.env0 (hb s us I.kIn hl) r2 h) fun r s' hq => ?_)
  cases r with
  | error e => exact hx pins σ H s e s' I hq
  | ok fl =>
    cases fl with
    | ret u => exact I.after hq
    | next => exact False.elim hq
    | brk => exact False.elim hq
    | cont => exact False.elim hq
theorem pe_call (F : FnOk X.prog X.w X.K X.mg X.base CX k f fd ps sp) (hr : Room k X.A) (hg : Gl X x) (hm : X.mg x = some (.ref f)) (hk : PySem.W.keepIn X.K (.ref f) = true) (hb : Binds X.K fd ps ds) (hd : Vals dvs ds) (hx : Passes CX X E)
    (ha : PA X (e :: es) t) (hdb : (x == ("__debug__" : Str)) = false := by decide) (he : starEach (e :: es) X.env = (false, eval e X.env) :: starEach es X.env := by rfl) (hpl : (backTo pos (starEach es X.env)).any (·.1) = false := by rfl) :
    PE X (.Call (.Name x p) (e :: es) [] pos) (tCall sp dvs E t) := by
  intro pins s σ H Q I h
  refine wpAny_Call_Name_kw (ld_glob I hg hm ?_ hdb)
  refine PySem.W.callWith_K (h₀ := X.base) I.ok.mod.kin hk (thn (ha pos pins s σ H _ I h) fun us s1 ⟨vs, H1, I1, r, q⟩ => ⟨I1.kIn, ?_⟩) he hpl
  exact run_fn F hr hb hd hx I1 r q
end
section
variable {X : Cx} {CX : CXT} {k : Nat} {f C : Addr} {fd : FuncData} {ps ks : List Str} {sp : Sp} {E : XK} {x m : Str} {p pos apos kpos : Pos} {e o : Expr} {es : List Expr} {kws : List Keyword} {te ta : TE} {t tk : TA} {nm : Option Str}
variable {g : List Value → List Value → List Value} {gV : List V → List V → List V}
end
/-- names: the parameters first -/
structure FnScope (N P : List Str) (sc : Scope) : Prop where
  kind : sc.kind = .function
  co : sc.isCoroutine = false
  gen : sc.isGenerator = false
  nd : N.Nodup
  pre : N.take P.length = P
  par : ∀ x ∈ P, sc.names.lookup x = some .local ∨ sc.names.lookup x = some .cell
  nofree : ∀ y ∈ sc.names, y.2 ≠ .free
theorem bindL_out {kindOf : Str → Option NameKind} {x : Str} : ∀ {binds : List (Str × Value)} {m : Str → Option Value}, (∀ v, (x, v) ∉ binds) → bindL kindOf binds m x = m x
  | [], _, _ => rfl
  | (n, v) :: r, m, h => by
    unfold bindL
    rw [bindL_out fun w hw => h w (List.mem_cons_of_mem _ hw)]
    split
    · have : x ≠ n := by rintro rfl; exact h v List.mem_cons_self
      simp [this]
    · rfl
theorem bindC_out {kindOf : Str → Option NameKind} {x : Str} : ∀ {binds : List (Str × Value)} {m : Str → Option Value}, (∀ v, (x, v) ∉ binds) → bindC kindOf binds m x = m x
  | [], _, _ => rfl
  | (n, v) :: r, m, h => by
    unfold bindC
    rw [bindC_out fun w hw => h w (List.mem_cons_of_mem _ hw)]
    split
    · rfl
    · have : x ≠ n := by rintro rfl; exact h v List.mem_cons_self
      simp [this]
theorem bindL_get {kindOf : Str → Option NameKind} {x : Str} {v : Value} : ∀ {P : List Str} {vs : List Value} {i : Nat} {m : Str → Option Value}, P.Nodup → P[i]? = some x → vs[i]? = some v → kindOf x = some .local →
    bindL kindOf (P.zip vs) m x = some v
  | [], _, _, _, _, h, _, _ => by simp at h
  | _ :: _, [], _, _, _, _, h, _ => by simp at h
  | p :: P, w :: vs, 0, m, nd, h1, h2, hk => by
    simp at h1 h2; subst h1; subst h2
    show bindL kindOf ((p, w) :: P.zip vs) m p = _
    unfold bindL
    rw [bindL_out fun v hv => (List.nodup_cons.mp nd).1 (List.of_mem_zip hv).1, if_pos hk]
    simp
  | p :: P, w :: vs, i + 1, m, nd, h1, h2, hk => by
    show bindL kindOf ((p, w) :: P.zip vs) m x = _
    unfold bindL
    exact bindL_get (i := i) (List.nodup_cons.mp nd).2 (by simpa using h1) (by simpa using h2) hk
theorem bindC_get {kindOf : Str → Option NameKind} {x : Str} {v : Value} : ∀ {P : List Str} {vs : List Value} {i : Nat} {m : Str → Option Value}, P.Nodup → P[i]? = some x → vs[i]? = some v → kindOf x ≠ some .local →
    bindC kindOf (P.zip vs) m x = some v
  | [], _, _, _, _, h, _, _ => by simp at h
  | _ :: _, [], _, _, _, _, h, _ => by simp at h
  | p :: P, w :: vs, 0, m, nd, h1, h2, hk => by
    simp at h1 h2; subst h1; subst h2
    show bindC kindOf ((p, w) :: P.zip vs) m p = _
    unfold bindC
    rw [bindC_out fun v hv => (List.nodup_cons.mp nd).1 (List.of_mem_zip hv).1, if_neg hk]
    simp
  | p :: P, w :: vs, i + 1, m, nd, h1, h2, hk => by
    show bindC kindOf ((p, w) :: P.zip vs) m x = _
    unfold bindC
    exact bindC_get (i := i) (List.nodup_cons.mp nd).2 (by simpa using h1) (by simpa using h2) hk
/-- the names' values at the entry -/
noncomputable def start (N : List Str) (vs : List V) : St := vs.map some ++ List.replicate (N.length - vs.length) none
/-- the context of a def's body, at its entry; an exception leaves the frame, then lies as CX says -/
noncomputable def cxOf (CX : CXT) (P : Program) (w : World) (K : PySem.W.Frag) (mg : Str → Option Value) (base : Heap) (N : List Str) (qual : Str) (scope : Scope) (f : Addr) (cd : Value) (A : Around) (outer : List Env) (s : Shared) (H : Hp) (E : XK) : Cx where
  prog := P
  w := w
  K := K
  mg := mg
  base := base
  A := A.deeper (envOfC qual scope s.heap.objs.size f cd)
  N := N
  s₀ := s
  H₀ := H
  env := envOfC qual scope s.heap.objs.size f cd
  outer := outer
  stack := envOfC qual scope s.heap.objs.size f cd :: outer
  ex := []
  calm := true
  fn := fun _ => true
  pn := []
  xe := fun e s' => wpAny (model P w) (A.deeper (envOfC qual scope s.heap.objs.size f cd)) (leaving (envOfC qual scope s.heap.objs.size f cd) e) (fun _ s'' => CX outer H s E e s'') (fun e' s'' => CX outer H s E e' s'') s'
theorem cell_has {sc : Scope} {n : Nat} {x : Str} (h : sc.names.lookup x = some .cell) : ∃ c, (cellsFrom n sc.names []).lookup x = some c := by
  have q := PySem.W.cellsFrom_some sc.names n [] (.inl h)
  exact Option.isSome_iff_exists.mp q
theorem inv_start {CX : CXT} {P : Program} {w : World} {K : PySem.W.Frag} {mg : Str → Option Value} {base : Heap} {N ps : List Str} {qual : Str} {scope : Scope} {f : Addr} {cd : Value} {A : Around} {outer : List Env} {s s1 : Shared} {H : Hp} {E : XK} {us : List Value} {vs : List V}
    (S : FnScope N ps scope) (hd : A.handled = none) (e0 : Env0 P w K mg base A outer s H) (hl : vs.length = ps.length) (r : Vals vs us)
    (x : InCallC s s.heap.objs.size (bindL (envOfC qual scope s.heap.objs.size f cd).kindOf (ps.zip us) fun _ => none) (cellsFrom (s.heap.objs.size + 1) scope.names []) (bindC (envOfC qual scope s.heap.objs.size f cd).kindOf (ps.zip us) fun _ => none) s1) :
    Inv (cxOf CX P w K mg base N qual scope f cd A outer s H E) [] (start N vs) H s1 := by
  have hpl : ps.length ≤ N.length := by have := congrArg List.length S.pre; rw [List.length_take] at this; omega
  obtain ⟨h1, tk, rfl, hk⟩ := x.done
  have noA : ∀ b : Addr, b ∉ (cxOf CX P w K mg base N qual scope f cd A outer s H E).ex := fun b z => absurd (show b ∈ ([] : List Addr) from z) (by simp)
  refine ⟨⟨e0.mod, S.kind, rfl, rfl, Nat.le_refl _, fun y z c h1 h2 => ?_, fun y hy => ?_, fun y c _ h => ?_, fun _ => hd, Around.frames_deeper e0.frames, .inr ⟨rfl, rfl⟩, fun b z => absurd z (noA b), e0.bs, e0.bsz, fun b _ _ => noA b, fun b z => absurd z (noA b), e0.funs, e0.frf⟩,
    rfl, e0.bare, Un.kept hk, ⟨_, x.toInCall.ns, fun i y v h1 h2 h3 => ?_⟩, fun y c h => ⟨_, x.cell y c h⟩, e0.hok.fresh (Nat.le_refl _), fun y c h => ?_, fun p hp => absurd (show p ∈ ([] : List (Addr × Obj)) from hp) (by simp), e0.hok.kept hk, ?_⟩
  · exact name_of_addr x.apart (PySem.mem_of_lookup h1) (PySem.mem_of_lookup h2)
  · have hy : scope.names.lookup y = some .cell ∨ scope.names.lookup y = some .free := hy
    rcases hy with hy | hy
    · exact cell_has hy
    · exact absurd rfl (S.nofree _ (PySem.mem_of_lookup hy))
  · exact Nat.le_of_lt (x.above y c (PySem.mem_of_lookup h))
  · have hi : i < vs.length := by
      unfold start at h2
      by_cases hi : i < vs.length
      · exact hi
      · rw [List.getElem?_append_right (by simpa using hi)] at h2
        rw [List.getElem?_replicate] at h2
        split at h2 <;> cases h2
    have ha : vs[i]? = some v := by
      unfold start at h2
      rw [List.getElem?_append_left (by simpa using hi), List.getElem?_map] at h2
      cases e : vs[i]? with
      | none => rw [e] at h2; cases h2
      | some a => rw [e] at h2; cases h2; rfl
    obtain ⟨u, hu, rv⟩ := r.get ha
    have hp : ps[i]? = some y := by
      rw [← S.pre, List.getElem?_take_of_lt (by omega)]; exact h1
    have ndP : ps.Nodup := by rw [← S.pre]; exact S.nd.sublist (List.take_sublist _ _)
    refine ⟨u, rv, ?_⟩
    rcases S.par y (List.mem_of_getElem? hp) with k | k
    · exact .inl ⟨k, bindL_get ndP hp hu k⟩
    · obtain ⟨c, e⟩ := cell_has (n := s.heap.objs.size + 1) k
      refine .inr ⟨.inl k, c, e, ?_⟩
      have q := x.cell y c e
      rw [bindC_get ndP hp hu (by show scope.names.lookup y ≠ _; rw [k]; decide)] at q
      exact q
  · exact e0.hok.fresh (Nat.le_of_lt (x.above y c (PySem.mem_of_lookup h)))
  · unfold start
    show _ = N.length
    rw [List.length_append, List.length_map, List.length_replicate]
    omega
/-- THE RULE: a def (or a method) of the text, by its body. The body's reading t is chosen for each entry; it is run at the parameters' values -/
theorem fn_of {CX : CXT} {P : Program} {w : World} {K : PySem.W.Frag} {mg : Str → Option Value} {base : Heap} {k : Nat} {f : Addr} {name qual : Str} {params : Arguments} {body : List Stmt} {scope : Scope} {dV kV doc pm cdv ct oc : Value} {an od : Option Addr}
    {osl : Array (Option Value)} {N ps : List Str} {sp : Sp} (lk : K.lookup f = some ⟨oc, od, .func (PySem.W.fnOf name qual params body scope dV kV doc pm an cdv ct), osl⟩) (hcd : PySem.W.codeIn K cdv qual = true) (S : FnScope N ps scope)
    (len : ∀ vs H Q E, sp vs H Q E → vs.length = ps.length)
    (hbody : ∀ (A : Around) (outer : List Env) (s : Shared) (H : Hp) (vs : List V) (Q : VK) (E : XK), Room k (A.deeper (envOfC qual scope s.heap.objs.size f cdv)) → sp vs H Q E →
      ∃ t, PSs (cxOf CX P w K mg base N qual scope f cdv A outer s H E) body t ∧ t { nx := fun _ H' => Q .non H', rt := Q } (start N vs) H) :
    FnOk P w K mg base CX (k + 1) f (PySem.W.fnOf name qual params body scope dV kV doc pm an cdv ct) ps sp := by
  refine ⟨len, fun A outer s H args us vs Q E hr e0 hb r hsp => ?_⟩
  have hl := len _ _ _ _ hsp
  have KX : K.In s.heap := e0.mod.kin.keeps fun b o e => (e0.bs b o e).1
  have lim : s.heap.NoLimit := e0.mod.nolimit.keeps fun b o e => (e0.bs b o e).1
  have hkind : ∀ y ∈ ps.zip us, scope.names.lookup y.1 = some .local ∨ (scope.names.lookup y.1 = some .cell ∧ ((cellsFrom (s.heap.objs.size + 1) scope.names []).lookup y.1).isSome = true) := fun ⟨n, v⟩ hy => by
    rcases S.par n (List.of_mem_zip hy).1 with q | q
    · exact .inl q
    · exact .inr ⟨q, PySem.W.cellsFrom_some _ _ _ (.inl q)⟩
  refine codeAny_call_function hr.depth (KX _ _ lk) rfl S.co S.gen rfl (PySem.W.codeRec_of KX hcd) (hb _ _ _ _ ?_)
  refine wpAny_newFunctionEnv_cells S.kind hkind fun env he s1 x => ?_
  subst he
  refine ⟨lim.keeps x.toInCall.keep, codeAny_func ?_⟩
  obtain ⟨t, ht, hq⟩ := hbody A outer s H vs Q E (hr.deeper _) hsp
  have I : Inv (cxOf CX P w K mg base N qual scope f cdv A outer s H E) [] (start N vs) H s1 := inv_start S hr.hd e0 hl r x
  refine wpAny_mono (ht [] s1 (start N vs) H _ I hq) (fun fl s' hs => ?_) fun e s' hs => hs
  have fin : ∀ {σ' : St} {H' : Hp} {v : V} {u : Value}, Inv (cxOf CX P w K mg base N qual scope f cdv A outer s H E) [] σ' H' s' → RelV v u → Q v H' → CE outer P w H s Q u s' :=
    fun {σ' H' v u} J rv q => ⟨v, H', J.os, J.bare, J.base, J.hok, rv, q⟩
  cases fl with
  | ret u =>
    obtain ⟨v, σ', H', J, rv, q⟩ := hs
    exact fin J rv q
  | next =>
    obtain ⟨σ', H', J, q⟩ := hs
    exact fin (v := V.non) (u := Value.none) J rfl q
  | brk =>
    obtain ⟨_, _, _, q⟩ := hs
    exact False.elim q
  | cont =>
    obtain ⟨_, _, _, q⟩ := hs
    exact False.elim q
end L2
namespace L2
open PySem PySem.Spec PyProof.Rows
section
variable {X : Cx} {x : Str} {p pos : Pos} {e : Expr} {es : List Expr} {t : TA} {id T : String} {r : List V → Hp → VK → Prop}
noncomputable def tCB (r : List V → Hp → VK → Prop) (t : TA) : TE := fun σ H Q => t σ H fun vs H1 => r vs H1 Q
/-- f(e, ..), f a built-in function -/
theorem pe_callB (hc : CallR X (.builtin id) r) (hg : Gl X x) (hm : X.mg x = none) (hv : bootBuiltins x = some (.builtin id)) (ha : PA X (e :: es) t) (hn : x ≠ "__name__" := by decide) (hdb : (x == ("__debug__" : Str)) = false := by decide)
    (he : starEach (e :: es) X.env = (false, eval e X.env) :: starEach es X.env := by rfl) (hpl : (backTo pos (starEach es X.env)).any (·.1) = false := by rfl) : PE X (.Call (.Name x p) (e :: es) [] pos) (tCB r t) := by
  intro pins s σ H Q I h
  refine wpAny_Call_Name_kw (ld_blt I hg hm hv ?_ hn hdb)
  exact PyProof.Rows.callWith_builtin1 (thn (ha pos pins s σ H _ I h) fun us s1 ⟨vs, H1, I1, r1, q1⟩ => hc pins s1 σ H1 vs us Q I1 r1 q1) he hpl
/-- T(e, ..), T a built-in type -/
theorem pe_callTy (hc : CallR X (.type T) r) (hg : Gl X x) (hm : X.mg x = none) (hv : bootBuiltins x = some (.type T)) (ha : PA X (e :: es) t) (hn : x ≠ "__name__" := by decide) (hdb : (x == ("__debug__" : Str)) = false := by decide)
    (he : starEach (e :: es) X.env = (false, eval e X.env) :: starEach es X.env := by rfl) (hpl : (backTo pos (starEach es X.env)).any (·.1) = false := by rfl) : PE X (.Call (.Name x p) (e :: es) [] pos) (tCB r t) := by
  intro pins s σ H Q I h
  refine wpAny_Call_Name_kw (ld_blt I hg hm hv ?_ hn hdb)
  exact PyProof.Rows.callWith_type1 (thn (ha pos pins s σ H _ I h) fun us s1 ⟨vs, H1, I1, r1, q1⟩ => hc pins s1 σ H1 vs us Q I1 r1 q1) he hpl
end
end L2
namespace HT
open PySem PyProof.Rows
section
open PySem.SeqAt
open PySem.AutoSeq1 (wpAny_loadPart')
open PySem.MeetsSeq PySem.MeetsSeq2 PySem.MeetsSeq3
end
section
variable {prog : Program} {w : World} {A : Around} {E : Value → Shared → Prop} {s : Shared}
/-- a slice's bound as a place among n (d where it is left out) -/
noncomputable def sIx (n d : Nat) : Option Int → Nat
  | none => d
  | some v => if v < 0 then (v + (n : Int)).toNat else min v.toNat n
theorem sIx_none (n d : Nat) : sIx n d none = d := rfl
theorem sIx_nat (n d k : Nat) : sIx n d (some (k : Int)) = min k n := by
  show (if (k : Int) < 0 then ((k : Int) + (n : Int)).toNat else min (k : Int).toNat n) = min k n
  rw [if_neg (by omega), Int.toNat_natCast]
end
end HT
namespace L2
open PySem PySem.Spec PyProof.Rows
noncomputable abbrev TO := St → Hp → (Option Int → Hp → Prop) → Prop
/-- a slice's part (left out, or an int) -/
noncomputable def PO (X : Cx) (e : Option Expr) (t : TO) : Prop :=
  ∀ (pins : List (Addr × Obj)) (s : Shared) (σ : St) (H : Hp) (Q : Option Int → Hp → Prop), Inv X pins σ H s → t σ H Q →
    wpAny (model X.prog X.w) X.A (evalPart e X.env) (fun u s' => ∃ o H', Inv X pins σ H' s' ∧ IsPart u o ∧ Q o H') X.xe s
noncomputable def tNoPart : TO := fun _ H Q => Q none H
noncomputable def tPart (t : TE) : TO := fun σ H Q => t σ H fun x H1 => ∃ i, x = .int i ∧ Q (some i) H1
section
variable {X : Cx} {e : Expr} {te : TE} {lo hi : Option Expr} {tl th : TO} {pos p2 : Pos}
theorem po_none : PO X none tNoPart := by
  intro pins s σ H Q I h
  rw [evalPart_none]
  exact wpAny_pure ⟨none, H, I, .none, h⟩
theorem po_some (h : PE X e te) : PO X (some e) (tPart te) := by
  intro pins s σ H Q I hw
  rw [evalPart_some]
  refine thn (h pins s σ H _ I hw) fun u s1 ⟨x, H1, I1, r1, q1⟩ => ?_
  obtain ⟨i, rfl, q⟩ := q1
  obtain ⟨t, rfl⟩ := r1
  exact ⟨some i, H1, I1, .int i t, q⟩
/-- what a slice of a value is, by values: the slice object stands at sl -/
noncomputable def SlR (X : Cx) (r : V → Option Int → Option Int → Hp → VK → Prop) : Prop :=
  ∀ (pins : List (Addr × Obj)) (s : Shared) (σ : St) (H : Hp) (x : V) (v vl vu : Value) (lo hi : Option Int) (sl : Addr) (Q : VK), Inv X pins σ H s → RelV x v → s.heap.IsSliceOf sl vl vu .none → IsPart vl lo → IsPart vu hi → r x lo hi H Q →
    ∃ T id, typeLookup (.type T) "__getitem__" = pure (some (.builtin id)) ∧ s.TypeIs v T ∧ wpAny (model X.prog X.w) X.A (getItem v (.ref sl)) (EP X pins σ Q) X.xe s
noncomputable def tSl (r : V → Option Int → Option Int → Hp → VK → Prop) (te : TE) (tl th : TO) : TE := fun σ H Q => te σ H fun x H1 => tl σ H1 fun l H2 => th σ H2 fun u H3 => r x l u H3 Q
/-- a[lo:hi], any a -/
theorem pe_slice {r : V → Option Int → Option Int → Hp → VK → Prop} (hr : SlR X r) (he : PE X e te) (hl : PO X lo tl) (hu : PO X hi th) : PE X (.Subscript e (.Slice lo hi none p2) pos) (tSl r te tl th) := by
  intro pins s σ H Q I h
  refine Subscript_ (thn (he pins s σ H _ I h) fun v s1 ⟨x, H1, I1, r1, q1⟩ => ?_)
  refine wpAny_Slice (thn (hl pins s1 σ H1 _ I1 q1) fun vl s2 ⟨l, H2, I2, pl, q2⟩ => thn (hu pins s2 σ H2 _ I2 q2) fun vu s3 ⟨u, H3, I3, pu, q3⟩ => ?_)
  rw [evalPart_none]
  refine wpAny_pure ?_
  have I4 : Inv X pins σ H3 { s3 with heap := s3.heap.push { cls := .type "slice", data := .fields #[vl, vu, .none] } } := I3.kept (t' := s3.toks) fun b ob q => Heap.get?_push_of_some _ q
  obtain ⟨T, id, hT, ht, hg⟩ := hr pins { s3 with heap := s3.heap.push { cls := .type "slice", data := .fields #[vl, vu, .none] } } σ H3 x v vl vu l u s3.heap.objs.size Q I4 r1 (Heap.IsSliceOf.new ..) pl pu q3
  show wpAny (model X.prog X.w) X.A (subscriptTail e (.Slice lo hi none p2) v (.ref s3.heap.objs.size)) (EP X pins σ Q) X.xe { s3 with heap := s3.heap.push { cls := .type "slice", data := .fields #[vl, vu, .none] } }
  exact tail_any (ops := [.ref s3.heap.objs.size, v]) ht hT hg (by with_unfolding_all rfl)
/-- the items of xs[lo:hi] -/
noncomputable def cutV (xs : List V) (lo hi : Option Int) : List V := (xs.drop (HT.sIx xs.length 0 lo)).take (HT.sIx xs.length xs.length hi - HT.sIx xs.length 0 lo)
theorem cutV_length (xs : List V) (lo hi : Option Int) : (cutV xs lo hi).length ≤ xs.length := by
  unfold cutV
  rw [List.length_take, List.length_drop]
  omega
end
end L2
namespace L2
open PySem PySem.Spec PyProof.Rows
/-- the place that an index of any sign means -/
noncomputable def ixN (n : Nat) (i : Int) : Option Nat := if 0 ≤ i then (if i < n then some i.toNat else none) else if -(n : Int) ≤ i then some (i + n).toNat else none
noncomputable def atI {α : Type} (xs : List α) (i : Int) : Option α := (ixN xs.length i).bind fun j => xs[j]?
theorem ixN_seq {n : Nat} {i : Int} {j : Nat} (h : ixN n i = some j) : seqIndex? i n = some j ∧ j < n ∧ -(n : Int) ≤ i ∧ i < n := by
  unfold ixN at h
  by_cases h0 : 0 ≤ i
  · rw [if_pos h0] at h
    by_cases h1 : i < n
    · rw [if_pos h1] at h
      have e : i.toNat = j := Option.some.inj h
      exact ⟨by rw [seqIndex_of h0 h1, e], by omega, by omega, h1⟩
    · rw [if_neg h1] at h; cases h
  · rw [if_neg h0] at h
    by_cases h1 : -(n : Int) ≤ i
    · rw [if_pos h1] at h
      have e : (i + n).toNat = j := Option.some.inj h
      exact ⟨by rw [seqIndex_neg (by omega) h1, e], by omega, h1, by omega⟩
    · rw [if_neg h1] at h; cases h
theorem atI_get {α : Type} {xs : List α} {i : Int} {v : α} (h : atI xs i = some v) : ∃ j, seqIndex? i xs.length = some j ∧ xs[j]? = some v ∧ j < xs.length ∧ -(xs.length : Int) ≤ i ∧ i < xs.length := by
  unfold atI at h
  cases e : ixN xs.length i with
  | none => rw [e] at h; cases h
  | some j =>
    rw [e] at h
    obtain ⟨h1, h2, h3, h4⟩ := ixN_seq e
    exact ⟨j, h1, h, h2, h3, h4⟩
theorem atI_nat {α : Type} {xs : List α} {j : Nat} {v : α} (h : xs[j]? = some v) : atI xs (j : Int) = some v := by
  have hj : j < xs.length := (List.getElem?_eq_some_iff.mp h).1
  have e : ixN xs.length (j : Int) = some j := by
    unfold ixN
    rw [if_pos (by omega), if_pos (by omega)]; simp
  unfold atI; rw [e]; exact h
/-- what stands as an index of a plain subscript -/
noncomputable def PlainIx (b : Expr) : Prop := ∀ o i, subscripted b false o i = operate [o, i] (getItem o i)
/-- a subscript by values -/
noncomputable def IxR (X : Cx) (r : R2) : Prop :=
  ∀ (value slice : Expr) (pins : List (Addr × Obj)) (s : Shared) (σ : St) (H : Hp) (x y : V) (v u : Value) (Q : VK), Inv X pins σ H s → RelV x v → RelV y u → r x y H Q →
    subscripted slice false v u = operate [v, u] (getItem v u) → wpAny (model X.prog X.w) X.A (subscriptTail value slice v u) (EP X pins σ Q) X.xe s
/-- a call of a builtin's method by values: the receiver, the arguments -/
noncomputable def MtR (X : Cx) (id : String) (r : V → List V → Hp → VK → Prop) : Prop :=
  ∀ (pins : List (Addr × Obj)) (s : Shared) (σ : St) (H : Hp) (x : V) (xs : List V) (v : Value) (us : List Value) (Q : VK), Inv X pins σ H s → RelV x v → Vals xs us → r x xs H Q →
    wpAny (model X.prog X.w) X.A (call (.builtin id) (v :: us)) (EP X pins σ Q) X.xe s
section
variable {X : Cx} {a b : Expr} {ta tb : TE} {pos : Pos}
/-- a[b] -/
theorem pe_ix {r : R2} (hr : IxR X r) (ha : PE X a ta) (hb : PE X b tb) (hs : PlainIx b) : PE X (.Subscript a b pos) (tOp r ta tb) := by
  intro pins s σ H Q I h
  exact Subscript_ (binT ha hb I h fun v u s2 x y H2 I2 rx ry q => hr a b pins s2 σ H2 x y v u Q I2 rx ry q (hs _ _))
noncomputable def rIxL (K : PySem.W.Frag) : R2 := fun x y H Q => ∃ p xs i v, x = .ref p ∧ y = .int i ∧ SqL K H p xs ∧ atI xs i = some v ∧ Q v H
noncomputable def rIxT (K : PySem.W.Frag) : R2 := fun x y H Q => ∃ p xs i v, x = .ref p ∧ y = .int i ∧ SqT K H p xs ∧ atI xs i = some v ∧ Q v H
theorem ix_list : IxR X (rIxL X.K) := by
  intro value slice pins s σ H x y v u Q I rx ry h hs
  obtain ⟨p, xs, i, z, rfl, rfl, hq, he, q⟩ := h
  cases rx
  obtain ⟨t, rfl⟩ := ry
  obtain ⟨its, r, pl, hz⟩ := I.list hq
  obtain ⟨j, h1, h2, h3, h4, h5⟩ := atI_get he
  obtain ⟨w, ew, rw'⟩ := r.get h2
  have hl := r.length
  have hn := line63
  have fin : EP X pins σ Q w s := ⟨z, H, I, rw', q⟩
  by_cases h0 : 0 ≤ i
  · have hj : i.toNat = j := by
      rw [seqIndex_of h0 h5] at h1
      exact Option.some.inj h1
    exact item_listR pl.isList h0 (by omega) (by rw [hj]; simpa using ew) fin hs
  · have hj : (i + (its.toArray.size : Int)).toNat = j := by
      rw [seqIndex_neg (by omega) h4] at h1
      rw [List.size_toArray, ← hl]
      exact Option.some.inj h1
    exact subscriptTail_builtinR (x := w) pl.isList.typeIs slot_list_getitem.lookup
      (wpAny_getItem_list_neg (Q := fun r s' => r = w ∧ EP X pins σ Q r s') pl.isList (by omega) (by rw [List.size_toArray] <;> omega) (by omega) (by rw [hj]; simpa using ew) ⟨rfl, fin⟩) hs
theorem ix_tup : IxR X (rIxT X.K) := by
  intro value slice pins s σ H x y v u Q I rx ry h hs
  obtain ⟨p, xs, i, z, rfl, rfl, hq, he, q⟩ := h
  cases rx
  obtain ⟨t, rfl⟩ := ry
  obtain ⟨its, r, pl, hz⟩ := I.tuple hq
  obtain ⟨j, h1, h2, h3, h4, h5⟩ := atI_get he
  obtain ⟨w, ew, rw'⟩ := r.get h2
  have hl := r.length
  have hn := line63
  have fin : EP X pins σ Q w s := ⟨z, H, I, rw', q⟩
  exact subscriptTail_builtinR (x := w) pl.typeIs slot_tuple_getitem.lookup
    (getItem_tuple (j := j) (Q := fun r s' => r = w ∧ EP X pins σ Q r s') pl (by omega) (by omega) (by rw [List.size_toArray, ← hl]; exact h1) (by simpa using ew) ⟨rfl, fin⟩) hs
/-- the list's object behind a store -/
theorem mapSeq_set (its : List Value) (n j : Nat) (u : Value) : Obj.mapSeq (·.setIfInBounds j u) { cls := .type "list", data := .seq its.toArray n } = { cls := .type "list", data := .seq (its.set j u).toArray n } := by
  simp [Obj.mapSeq]
theorem Inv.lst {pins : List (Addr × Obj)} {σ : St} {H : Hp} {s : Shared} {p : Addr} {xs : List V} (I : Inv X pins σ H s) (h : H p = some (.lst xs)) :
    ∃ (its : List Value) (n : Nat), Vals xs its ∧ s.heap.get? p = some { cls := .type "list", data := .seq its.toArray n } ∧ xs.length ≤ sizeLine := by
  obtain ⟨z, its, n, r, e⟩ := I.hok p _ h
  exact ⟨its, n, r, e, z⟩
/-- the list at p is written by an update of its object -/
theorem Inv.lstUpd {pins : List (Addr × Obj)} {σ : St} {H : Hp} {s : Shared} {p : Addr} {xs ys : List V} {its its' : List Value} {n n' : Nat} {f : Obj → Obj} (I : Inv X pins σ H s) (h : H p = some (.lst xs))
    (ho : s.heap.get? p = some { cls := .type "list", data := .seq its.toArray n }) (hf : f { cls := .type "list", data := .seq its.toArray n } = { cls := .type "list", data := .seq its'.toArray n' }) (r : Vals ys its') (hz : ys.length ≤ sizeLine) (t : Nat) :
    Inv X pins σ (upd H p (.lst ys)) { s with heap := s.heap.update p f, toks := t } := by
  have e : (s.heap.update p f).get? p = some { cls := .type "list", data := .seq its'.toArray n' } := by
    rw [Heap.get?_update_self f ho (by rw [hf] <;> rfl), hf]
  refine I.write (x := p) (e := p) (by rw [h]; trivial) (.inl rfl) (fun b u hb q => (Heap.get?_update_other _ _ (Ne.symm hb)).trans q) ⟨_, e⟩ ?_
  exact ⟨hz, its', n', r, e⟩
noncomputable def rSetL : V → V → V → Hp → (Hp → Prop) → Prop := fun o i v H Q => ∃ p xs k j, o = .ref p ∧ i = .int k ∧ H p = some (.lst xs) ∧ ixN xs.length k = some j ∧ Q (upd H p (.lst (xs.set j v)))
theorem set_list : PSet X rSetL := by
  intro pins s σ H o i v ov iv u Q I ro ri rv h
  obtain ⟨p, xs, k, j, rfl, rfl, hp, hj, q⟩ := h
  cases ro
  obtain ⟨t, rfl⟩ := ri
  obtain ⟨its, n, r, ho, hz⟩ := I.lst hp
  obtain ⟨h1, h2, h3, h4⟩ := ixN_seq hj
  have hl := r.length
  have hn := line63
  have I' : Inv X pins σ (upd H p (.lst (xs.set j v))) { s with heap := s.heap.update p (Obj.mapSeq (·.setIfInBounds j u)) } :=
    I.lstUpd hp ho (mapSeq_set its n j u) (r.set rv j) (by rw [List.length_set]; exact hz) s.toks
  by_cases h0 : 0 ≤ k
  · have hk : k.toNat = j := by
      rw [seqIndex_of h0 h4] at h1
      exact Option.some.inj h1
    exact PySem.W.ki_setAt ho h0 (by omega) (by rw [List.size_toArray, ← hl]; exact h4) (by rw [hk]; exact ⟨_, I', q⟩)
  · have hk : (k + (its.toArray.size : Int)).toNat = j := by
      rw [seqIndex_neg (by omega) h3] at h1
      rw [List.size_toArray, ← hl]
      exact Option.some.inj h1
    exact PySem.W.ki_setBack ho (by omega) (by rw [List.size_toArray, ← hl]; exact h3) (by omega) (by rw [hk]; exact ⟨_, I', q⟩)
theorem slice_bounds (lo hi : Option Int) (n : Nat) : (sliceBounds lo hi none n).1 = ((HT.sIx n 0 lo : Nat) : Int) ∧ (sliceBounds lo hi none n).2.1 = ((HT.sIx n n hi : Nat) : Int) ∧ (sliceBounds lo hi none n).2.2 = 1 := by
  refine ⟨?_, ?_, rfl⟩
  · cases lo with
    | none => simp [sliceBounds, HT.sIx]
    | some i =>
      simp only [sliceBounds, HT.sIx, Option.getD_none, show (1 : Int) > 0 by decide, if_true]
      by_cases h : i < 0
      · simp only [h, if_true] <;> omega
      · simp only [h, if_false] <;> omega
  · cases hi with
    | none => simp [sliceBounds, HT.sIx]
    | some i =>
      simp only [sliceBounds, HT.sIx, Option.getD_none, show (1 : Int) > 0 by decide, if_true]
      by_cases h : i < 0
      · simp only [h, if_true] <;> omega
      · simp only [h, if_false] <;> omega
theorem slicePick_cut (its : List Value) (lo hi : Option Int) : slicePick its.toArray lo hi none = ((its.drop (HT.sIx its.length 0 lo)).take (HT.sIx its.length its.length hi - HT.sIx its.length 0 lo)).toArray := by
  obtain ⟨h1, h2, h3⟩ := slice_bounds lo hi its.toArray.size
  unfold slicePick
  rw [h1, h2, h3]
  simp only [sliceRange_one, pick_run, List.size_toArray] <;> rfl
/-- xs[lo:hi] of a list: a new list -/
noncomputable def rSlL (K : PySem.W.Frag) : V → Option Int → Option Int → Hp → VK → Prop := fun x lo hi H Q => ∃ a xs, x = .ref a ∧ SqL K H a xs ∧ ∀ p, H p = none → Q (.ref p) (upd H p (.lst (cutV xs lo hi)))
theorem sl_list : SlR X (rSlL X.K) := by
  intro pins s σ H x v vl vu lo hi sl Q I rx hs pl pu h
  obtain ⟨a, xs, rfl, hx, q⟩ := h
  cases rx
  obtain ⟨its, r, ht, hz⟩ := I.list hx
  have hlen := r.length
  refine ⟨"list", _, slot_list_getitem.lookup, ht.isList.typeIs, ?_⟩
  refine wpAny_getItem_list_slice ht.isList hs pl pu .none (by simp) ?_ (by rw [List.size_toArray] <;> omega)
  rw [slicePick_cut, ← hlen]
  refine ⟨.ref s.heap.objs.size, _, I.laid (t' := s.toks) (o := .lst (cutV xs lo hi)) (fun b ob q => Heap.get?_push_of_some _ q) (Nat.le_refl _) ?_, rfl, q _ (I.hok.fresh (Nat.le_refl _))⟩
  exact ⟨Nat.le_trans (cutV_length xs lo hi) hz, _, 0, (r.drop (HT.sIx xs.length 0 lo)).take (HT.sIx xs.length xs.length hi - HT.sIx xs.length 0 lo), Heap.get?_push_size _ rfl⟩
noncomputable def flatV : V → Bool
  | .non => true
  | .bl _ => true
  | .int _ => true
  | .str _ => true
  | _ => false
/-- == of flat values -/
noncomputable def eqV : V → V → Bool
  | .non, .non => true
  | .bl a, .bl b => a == b
  | .bl a, .int b => (if a then 1 else 0) == b
  | .int a, .bl b => a == (if b then 1 else 0)
  | .int a, .int b => a == b
  | .str a, .str b => a == b
  | _, _ => false
theorem eqAt_V {A : Around} {s : Shared} {y x : V} {u v : Value} (ry : RelV y u) (rx : RelV x v) (fy : flatV y = true) (fx : flatV x = true) : SeqAt.EqAt A s u v (eqV y x) := by
  cases y with
  | non =>
    cases ry
    cases x with
    | non => cases rx; exact SeqAt.EqAt.same _
    | bl b => cases rx; exact SeqAt.EqAt.none_bool b
    | int b => obtain ⟨t, rfl⟩ := rx; exact SeqAt.EqAt.none_int b t
    | str b => obtain ⟨t, rfl⟩ := rx; exact SeqAt.EqAt.none_str b t
    | _ => exact absurd (show false = true from fx) Bool.false_ne_true
  | bl a =>
    cases ry
    cases x with
    | non => cases rx; exact SeqAt.EqAt.bool_none a
    | bl b => cases rx; exact SeqAt.EqAt.bool_bool a b
    | int b => obtain ⟨t, rfl⟩ := rx; exact SeqAt.EqAt.bool_int a b t
    | str b => obtain ⟨t, rfl⟩ := rx; exact SeqAt.EqAt.bool_str a b t
    | _ => exact absurd (show false = true from fx) Bool.false_ne_true
  | int a =>
    obtain ⟨t', rfl⟩ := ry
    cases x with
    | non => cases rx; exact SeqAt.EqAt.int_none a t'
    | bl b => cases rx; exact SeqAt.EqAt.int_bool a t' b
    | int b => obtain ⟨t, rfl⟩ := rx; exact SeqAt.EqAt.int_int a t' b t
    | str b => obtain ⟨t, rfl⟩ := rx; exact SeqAt.EqAt.int_str a t' b t
    | _ => exact absurd (show false = true from fx) Bool.false_ne_true
  | str a =>
    obtain ⟨t', rfl⟩ := ry
    cases x with
    | non => cases rx; exact SeqAt.EqAt.str_none a t'
    | bl b => cases rx; exact SeqAt.EqAt.str_bool a t' b
    | int b => obtain ⟨t, rfl⟩ := rx; exact SeqAt.EqAt.str_int a t' b t
    | str b => obtain ⟨t, rfl⟩ := rx; exact SeqAt.EqAt.str_str a t' b t
    | _ => exact absurd (show false = true from fx) Bool.false_ne_true
  | _ => exact absurd (show false = true from fy) Bool.false_ne_true
/-- the items' answers, read off the values (a value's own answer does not lean on its token) -/
noncomputable def eqU (x : V) (u : Value) : Bool := match u with
  | .none => eqV .non x
  | .bool b => eqV (.bl b) x
  | .int i _ => eqV (.int i) x
  | .str z _ => eqV (.str z) x
  | _ => false
theorem eqU_of {x y : V} {u : Value} (r : RelV y u) (f : flatV y = true) : eqU x u = eqV y x := by
  cases y with
  | non => cases r; rfl
  | bl b => cases r; rfl
  | int i => obtain ⟨t, rfl⟩ := r; rfl
  | str z => obtain ⟨t, rfl⟩ := r; rfl
  | _ => exact absurd (show false = true from f) Bool.false_ne_true
theorem any_eqU {x : V} : ∀ {xs : List V} {us : List Value}, Vals xs us → xs.all flatV = true → us.any (eqU x) = xs.any fun y => eqV y x
  | _, _, .nil, _ => rfl
  | y :: xs, u :: us, .cons r t, f => by
    rw [List.all_cons, Bool.and_eq_true] at f
    rw [List.any_cons, List.any_cons, eqU_of r f.1, any_eqU t f.2]
theorem mem_eqAt {A : Around} {s : Shared} {x : V} {v : Value} (rx : RelV x v) (fx : flatV x = true) : ∀ {xs : List V} {us : List Value}, Vals xs us → xs.all flatV = true → ∀ u ∈ us, SeqAt.EqAt A s u v (eqU x u)
  | _, _, .nil, _ => fun u hu => by cases hu
  | y :: xs, u :: us, .cons r t, f => fun u' hu => by
    rw [List.all_cons, Bool.and_eq_true] at f
    rcases List.mem_cons.mp hu with rfl | hu
    · rw [eqU_of r f.1]; exact eqAt_V r rx f.1 fx
    · exact mem_eqAt rx fx t f.2 u' hu
noncomputable def inV (x : V) (xs : List V) : Bool := xs.any fun y => eqV y x
/-- x in a list or tuple of flat items -/
noncomputable def rIn (K : PySem.W.Frag) (neg : Bool) : R2 := fun x y H Q => ∃ p xs, y = .ref p ∧ (SqL K H p xs ∨ SqT K H p xs) ∧ flatV x = true ∧ xs.all flatV = true ∧ Q (.bl (if neg then !inV x xs else inV x xs)) H
theorem op_notIn_seq : OpR X (compareOp .NotIn) (rIn X.K true) := by
  intro pins s σ H x y v u Q I rx ry h
  obtain ⟨p, xs, rfl, hq, fx, fs, q⟩ := h
  cases ry
  rcases hq with hq | hq
  · obtain ⟨its, r, pl, hz⟩ := I.list hq
    refine SeqAt.notIn_listAt (eqU x) pl.isList (fun w hw => mem_eqAt rx fx r fs w (by simpa using hw)) ⟨.bl _, H, I, rfl, ?_⟩
    rw [show its.toArray.any (eqU x) = its.any (eqU x) by simp, any_eqU r fs]
    exact q
  · obtain ⟨its, r, pl, hz⟩ := I.tuple hq
    refine SeqAt.notIn_tupleAt (eqU x) pl (fun w hw => mem_eqAt rx fx r fs w (by simpa using hw)) ⟨.bl _, H, I, rfl, ?_⟩
    rw [show its.toArray.any (eqU x) = its.any (eqU x) by simp, any_eqU r fs]
    exact q
theorem call_len_seq : CallR X (.builtin "len") (fun xs H Q => ∃ p ys, xs = [.ref p] ∧ (SqL X.K H p ys ∨ SqT X.K H p ys) ∧ Q (.int ys.length) H) := by
  intro pins s σ H xs us Q I r h
  obtain ⟨p, ys, rfl, hq, q⟩ := h
  obtain ⟨u, rfl, rx⟩ := vals1 r
  cases rx
  have hn := line63
  rcases hq with hq | hq
  · obtain ⟨its, r', pl, hz⟩ := I.list hq
    have hlen := r'.length
    exact Calls.call_len_list pl.isList (by simp only [List.size_toArray] <;> omega) ⟨.int ys.length, H, I.tok _, ⟨s.toks + 1, by rw [List.size_toArray, hlen]⟩, q⟩
  · obtain ⟨its, r', pl, hz⟩ := I.tuple hq
    have hlen := r'.length
    exact len_tuple pl (by simp only [List.size_toArray] <;> omega) ⟨.int ys.length, H, I.tok _, ⟨s.toks + 1, by rw [List.size_toArray, hlen]⟩, q⟩
theorem call_list_of : CallR X (.type "list") (fun xs H Q => ∃ p ys, xs = [.ref p] ∧ (SqL X.K H p ys ∨ SqT X.K H p ys) ∧ ∀ l, H l = none → Q (.ref l) (upd H l (.lst ys))) := by
  intro pins s σ H xs us Q I r h
  obtain ⟨p, ys, rfl, hq, q⟩ := h
  obtain ⟨u, rfl, rx⟩ := vals1 r
  cases rx
  have fin : ∀ (its : List Value), Vals ys its → ys.length ≤ sizeLine → ∀ (h' : Heap) (c' : Nat), (∀ b o', s.heap.get? b = some o' → h'.get? b = some o') →
      h'.get? s.heap.objs.size = some { cls := .type "list", dict := none, data := .seq its.toArray c', slots := #[] } → EP X pins σ Q (.ref s.heap.objs.size) { s with heap := h' } := fun its r' hz h' c' kp e =>
    ⟨.ref s.heap.objs.size, _, I.laid (t' := s.toks) kp (Nat.le_refl _) (show ObjOk X.prog X.w _ h' _ (.lst ys) from ⟨hz, its, c', r', e⟩), rfl, q _ (I.hok.fresh (Nat.le_refl _))⟩
  rcases hq with hq | hq
  · obtain ⟨its, r', pl, hz⟩ := I.list hq
    have hlen := r'.length
    obtain ⟨o, ho, hc, n, hd⟩ := pl.isList
    exact call_list_seq p (.inl rfl) ho hc hd (fun h' c' kp e => fin its r' hz h' c' kp e) (by simp only [List.size_toArray] <;> omega)
  · obtain ⟨its, r', pl, hz⟩ := I.tuple hq
    have hlen := r'.length
    obtain ⟨o, ho, hc, n, hd⟩ := pl
    exact call_list_seq p (.inr rfl) ho hc hd (fun h' c' kp e => fin its r' hz h' c' kp e) (by simp only [List.size_toArray] <;> omega)
/-- the value is of that builtin type -/
noncomputable def tyV (K : PySem.W.Frag) (T : String) (x : V) (H : Hp) : Prop := match x with
  | .str _ => T = "str"
  | .int _ => T = "int"
  | .ref p => (T = "list" ∧ ∃ xs, SqL K H p xs) ∨ (T = "tuple" ∧ ∃ o, K.lookup p = some o ∧ o.cls = .type "tuple" ∧ o.dict = none) ∨
      (T = "dict" ∧ ((∃ kvs, H p = some (.dK kvs)) ∨ ∃ kvs, H p = some (.dT kvs))) ∨ (T = "set" ∧ ∃ S n, H p = some (.set S n))
  | _ => False
theorem tyV_is {pins : List (Addr × Obj)} {σ : St} {H : Hp} {s : Shared} {T : String} {x : V} {v : Value} (I : Inv X pins σ H s) (r : RelV x v) (ty : tyV X.K T x H) :
    s.TypeIs v T ∧ ∀ a, v = .ref a → ∃ ob, s.heap.get? a = some ob ∧ ob.dict = none := by
  cases x with
  | str z =>
    obtain ⟨t, rfl⟩ := r
    cases (show T = "str" from ty)
    exact ⟨typeIs_str s z t, fun _ e => nomatch e⟩
  | int i =>
    obtain ⟨t, rfl⟩ := r
    cases (show T = "int" from ty)
    exact ⟨typeIs_int s i t, fun _ e => nomatch e⟩
  | ref p =>
    cases r
    rcases ty with ⟨rfl, xs, hq⟩ | ⟨rfl, o, hk, hc, hd⟩ | ⟨rfl, hk⟩ | ⟨rfl, S, n, hk⟩
    · obtain ⟨its, _, pl, _⟩ := I.list hq
      refine ⟨pl.isList.typeIs, fun a e => ?_⟩
      cases e
      obtain ⟨o, n, e, c, hd, _⟩ := pl
      exact ⟨o, e, hd⟩
    · refine ⟨⟨o, I.kIn p o hk, hc⟩, fun a e => ?_⟩
      cases e
      exact ⟨o, I.kIn _ o hk, hd⟩
    · have z : ∃ o, s.heap.get? p = some o ∧ o.ExactDict := by
        rcases hk with ⟨kvs, hk⟩ | ⟨kvs, hk⟩
        · obtain ⟨_, _, _, _, o, _, _, e, ex, _⟩ := I.hok p _ hk
          exact ⟨o, e, ex⟩
        · obtain ⟨_, _, _, _, o, _, _, e, ex, _⟩ := I.hok p _ hk
          exact ⟨o, e, ex⟩
      obtain ⟨o, e, ex⟩ := z
      refine ⟨⟨o, e, ex.1⟩, fun a e2 => ?_⟩
      cases e2
      exact ⟨o, e, ex.2.1⟩
    · obtain ⟨o, _, _, _, e, ex, _⟩ := I.hok p _ hk
      refine ⟨⟨o, e, ex.1⟩, fun a e2 => ?_⟩
      cases e2
      exact ⟨o, e, ex.2.1⟩
  | _ => exact False.elim ty
noncomputable def tBM (K : PySem.W.Frag) (T : String) (r : V → List V → Hp → VK → Prop) (to : TE) (t : TA) : TE := fun σ H Q => to σ H fun x H1 => tyV K T x H1 ∧ t σ H1 fun xs H2 => r x xs H2 Q
variable {o e : Expr} {es : List Expr} {to : TE} {t : TA} {name : Str} {apos cpos : Pos} {T id : String} {r : V → List V → Hp → VK → Prop}
theorem pe_bm (pa : PlainAttrs T) (slot : Slot T name id) (hty : typeOf (.builtin id) = pure (.type "method_descriptor")) (hm : MtR X id r) (ho : PE X o to) (ha : PA X (e :: es) t)
    (hbase : attributeBase o name X.env (eval o X.env) = eval o X.env := by rfl)
    (hfew : ((backTo cpos (starEach (e :: es) X.env)).all (fun x => !x.1) && (backToKw cpos (keywordEach [] X.env)).all (fun x => x.1.isSome)
      && decide ((e :: es).length + ([] : List Keyword).length + (if ([] : List Keyword).isEmpty then 0 else 1) < 30)) = true := by rfl)
    (hline : (apos.endLine == cpos.line) = true := by rfl) (hs : starEach (e :: es) X.env = (false, eval e X.env) :: starEach es X.env := by rfl) (hplain : (backTo cpos (starEach es X.env)).any (·.1) = false := by rfl) :
    PE X (.Call (.Attribute o name apos) (e :: es) [] cpos) (tBM X.K T r to t) := by
  intro pins s σ H Q I h
  refine wpAny_Call_method_late hbase hfew hline rfl (thn (ho pins s σ H _ I h) fun v s1 ⟨x, H1, I1, r1, ty, q1⟩ => ?_)
  obtain ⟨h1, h2⟩ := tyV_is I1 r1 ty
  refine ⟨T, id, pa, slot, hty, h1, h2, ?_⟩
  have hA := ha cpos pins s1 σ H1 _ I1 q1
  rw [hs] at hA ⊢
  refine Calls.callWith_builtin (by show (false || (backTo cpos (starEach es X.env)).any (·.1)) = false; rw [hplain] <;> rfl) (Calls.evalArgs_plain ?_)
  exact thn hA fun us s2 ⟨vs, H2, I2, r2, q2⟩ => hm pins s2 σ H2 x vs v us Q I2 r1 r2 q2
/- xs.append(e), list.index on a module's tuple .. are MtR facts of 06m -/
end
end L2
namespace L2
open PySem PySem.Spec PyProof.Rows
noncomputable def MtM (X : Cx) (id : String) (r : V → List V → Hp → VK → Prop) : Prop :=
  ∀ (pins : List (Addr × Obj)) (s : Shared) (σ : St) (H : Hp) (x : V) (xs : List V) (v : Value) (us : List Value) (Q : VK), Inv X pins σ H s → RelV x v → Vals xs us → r x xs H Q →
    wpAny (model X.prog X.w) X.A (call (.builtin id) (v :: us)) (EP X pins σ Q) X.xe s
theorem Vals.one : ∀ {x : V} {us : List Value}, Vals [x] us → ∃ u, us = [u] ∧ RelV x u
  := by intro _ _ h; cases h with | cons r n => cases n; exact ⟨_, rfl, r⟩
theorem Vals.two : ∀ {x y : V} {us : List Value}, Vals [x, y] us → ∃ u v, us = [u, v] ∧ RelV x u ∧ RelV y v
  := by intro _ _ _ h; cases h with | cons r q => cases q with | cons q n => cases n; exact ⟨_, _, rfl, r, q⟩
theorem Vals.rep {xs : List V} {us : List Value} (h : Vals xs us) : ∀ k : Nat, Vals (List.replicate k xs).flatten (List.replicate k us).flatten
  | 0 => .nil
  | k + 1 => by
    rw [List.replicate_succ, List.replicate_succ, List.flatten_cons, List.flatten_cons]
    exact Vals.append h (Vals.rep h k)
theorem foldl_rep (its : List Value) : ∀ (k : Nat) (acc : List Value),
    List.foldl (fun x1 x2 => x1 ++ x2) acc.toArray (List.replicate k its.toArray) = (acc ++ (List.replicate k its).flatten).toArray
  | 0, acc => by simp
  | k + 1, acc => by
    have e : acc.toArray ++ its.toArray = (acc ++ its).toArray := by simp
    have e2 : (acc ++ its) ++ (List.replicate k its).flatten = acc ++ (List.replicate (k + 1) its).flatten := by
      rw [List.replicate_succ, List.flatten_cons, List.append_assoc]
    rw [← e2, ← foldl_rep its k (acc ++ its), ← e, List.replicate_succ, List.foldl_cons]
section
variable {X : Cx} {pins : List (Addr × Obj)} {σ : St} {H : Hp} {s : Shared} {l b : Addr} {xs ys zs : List V}
theorem Inv.lset {its its' : List Value} {n : Nat} {f : Array Value → Array Value} {t' : Nat} (I : Inv X pins σ H s) (hH : H l = some (.lst xs))
    (e : s.heap.get? l = some { cls := .type "list", data := .seq its.toArray n }) (hf : f its.toArray = its'.toArray) (hv : Vals ys its') (hz : ys.length ≤ sizeLine) :
    Inv X pins σ (upd H l (.lst ys)) { s with heap := s.heap.update l (Obj.mapSeq f), toks := t' } := by
  have q := PySem.IsL.update e f
  rw [hf] at q
  refine I.write (x := l) (e := l) (by rw [hH]; exact trivial) (.inl rfl) (fun b' u hb hu => (Heap.get?_update_other s.heap (Obj.mapSeq f) (Ne.symm hb)).trans hu) ⟨_, q⟩ ?_
  exact ⟨hz, its', _, hv, q⟩
theorem Inv.lnew {its : List Value} {t' : Nat} (I : Inv X pins σ H s) (hv : Vals ys its) (hz : ys.length ≤ sizeLine) :
    Inv X pins σ (upd H s.heap.objs.size (.lst ys)) { s with heap := s.heap.push { cls := .type "list", data := .seq its.toArray }, toks := t' } :=
  I.laid (fun _ _ q => Heap.get?_push_of_some _ q) (Nat.le_refl _) ⟨hz, its, 0, hv, Heap.get?_push_size _ rfl⟩
theorem Inv.fresh (I : Inv X pins σ H s) : H s.heap.objs.size = none := I.hok.fresh (Nat.le_refl _)
theorem Inv.lstM (I : Inv X pins σ H s) (hH : H l = some (.lst xs)) : xs.length ≤ sizeLine ∧ ∃ (its : List Value) (n : Nat), Vals xs its ∧ xs.length = its.length ∧ s.heap.get? l = some { cls := .type "list", data := .seq its.toArray n } := by
  obtain ⟨z, its, n, r, e⟩ := I.hok l _ hH
  exact ⟨z, its, n, r, r.length, e⟩
theorem notLongL {n : Nat} (h : n ≤ sizeLine) : Builtin.List.listTooLong n = false := by
  unfold Builtin.List.listTooLong
  exact decide_eq_false (by omega)
end
section
variable {X : Cx}
noncomputable def rAppend : V → List V → Hp → VK → Prop := fun x vs H Q => ∃ l xs y, x = .ref l ∧ vs = [y] ∧ H l = some (.lst xs) ∧ xs.length < sizeLine ∧ Q .non (upd H l (.lst (xs ++ [y])))
theorem mt_append : MtM X "list.append" rAppend := by
  intro pins s σ H x vs v us Q I rx rv h
  obtain ⟨l, xs, y, rfl, rfl, hH, hz, q⟩ := h
  cases rx
  obtain ⟨u, rfl, ru⟩ := rv.one
  obtain ⟨z, its, n, r, hl, e⟩ := I.lstM hH
  refine call_meets F.slot_list_append ⟨_, e, rfl⟩ F.entry_list_append (F.args_list_append_2 _ _) (PySem.list_append l its.toArray n u (by rw [List.size_toArray]; omega)) ⟨e, ?_⟩
  refine ⟨.non, _, I.lset (its' := its ++ [u]) hH e (by simp) (r.append (.cons ru .nil)) ?_, rfl, q⟩
  rw [List.length_append, List.length_singleton]
  omega
noncomputable def rCat : R2 := fun x y H Q => ∃ l b xs zs, x = .ref l ∧ y = .ref b ∧ H l = some (.lst xs) ∧ H b = some (.lst zs) ∧ xs.length + zs.length ≤ sizeLine ∧ ∀ p, H p = none → Q (.ref p) (upd H p (.lst (xs ++ zs)))
theorem op_cat : OpR X (binaryOp .Add) rCat := by
  intro pins s σ H x y v u Q I rx ry h
  obtain ⟨l, b, xs, zs, rfl, rfl, hH, hB, hz, q⟩ := h
  cases rx
  cases ry
  obtain ⟨z, its, n, r, hl, e⟩ := I.lstM hH
  obtain ⟨z2, its2, n2, r2, hl2, e2⟩ := I.lstM hB
  refine PySem.P.add_list e e2 ?_ (by rw [List.size_toArray, List.size_toArray]; omega)
  have ea : its.toArray ++ its2.toArray = (its ++ its2).toArray := by simp
  rw [ea]
  exact ⟨.ref _, _, I.lnew (t' := s.toks) (r.append r2) (by rw [List.length_append]; omega), rfl, q _ I.fresh⟩
/-- a list times an int (a negative one is nothing) -/
noncomputable def rRep : R2 := fun x y H Q => ∃ l k xs, x = .ref l ∧ y = .int k ∧ H l = some (.lst xs) ∧ -(2 ^ 63) ≤ k ∧ k < 2 ^ 63 ∧ xs.length * k.toNat ≤ sizeLine ∧
  ∀ p, H p = none → Q (.ref p) (upd H p (.lst (List.replicate k.toNat xs).flatten))
theorem len_rep {α : Type} (xs : List α) (k : Nat) : (List.replicate k xs).flatten.length = k * xs.length := by
  induction k with
  | zero => simp
  | succ k ih => rw [List.replicate_succ, List.flatten_cons, List.length_append, ih, Nat.succ_mul, Nat.add_comm]
theorem op_rep : OpR X (binaryOp .Mult) rRep := by
  intro pins s σ H x y v u Q I rx ry h
  obtain ⟨l, k, xs, rfl, rfl, hH, h1, h2, hz, q⟩ := h
  cases rx
  obtain ⟨t, rfl⟩ := ry
  obtain ⟨z, its, n, r, hl, e⟩ := I.lstM hH
  have hlen : its.toArray.size * k.toNat ≤ sizeLine := by rw [List.size_toArray, ← hl]; exact hz
  have hcap : ¬ its.toArray.size * k.toNat > (2 ^ 63 - 1) / 8 := by
    have : (sizeLine : Nat) ≤ (2 ^ 63 - 1) / 8 := by decide
    omega
  have hfit : ¬ (!Builtin.List.listFitsIndex k) = true := by
    rw [fitsIndex_both h1 h2]
    exact Bool.false_ne_true
  have hlong : ¬ Builtin.List.listTooLong (its.toArray.size * k.toNat) = true := by
    rw [notLongL hlen]
    exact Bool.false_ne_true
  have hnew : List.foldl (fun x1 x2 => x1 ++ x2) #[] (List.replicate (if its.toArray.isEmpty = true then 0 else k.toNat) its.toArray) = (List.replicate k.toNat its).flatten.toArray := by
    have f0 : ∀ m : Nat, List.foldl (fun x1 x2 => x1 ++ x2) #[] (List.replicate m its.toArray) = (List.replicate m its).flatten.toArray := fun m => by
      have := foldl_rep its m []
      rw [List.nil_append] at this
      exact this
    rw [f0]
    cases its with
    | nil => simp
    | cons a r' => rw [if_neg (by simp)]
  refine wpAny_binaryOp_repeat_ref (T := "list") (U := "int") (by decide) ⟨_, e, rfl⟩ (fun s' => typeIs_int s' k t) noFill_list_mul F.fills_int_mul F.slot_int_rmul repeat_list F.slot_int_index.lookup
    (call_meets F.slot_int_rmul (typeIs_int s k t) F.entry_int_rmul (F.args_int_rmul_2 _ _) (int___rmul___int_list k t l its.toArray n)
      ⟨e, rfl, ⟨_, e, rfl⟩, call_meets F.slot_list_mul ⟨_, e, rfl⟩ F.entry_list_mul (F.args_list_mul_2 _ _) (AutoListH.list___mul___list_int_3 l its.toArray n k t hfit hcap hlong) ⟨e, ?_⟩⟩)
  rw [hnew]
  exact ⟨.ref _, _, I.lnew (t' := s.toks) (r.rep k.toNat) (by rw [len_rep, Nat.mul_comm]; exact hz), rfl, q _ I.fresh⟩
end
section
variable {prog : Program} {w : World} {A : Around} {E : Value → Shared → Prop} {s : Shared}
set_option maxRecDepth 100000 in
end
section
variable {X : Cx}
end
end L2
namespace Att
open PySem PySem.W PySem.Calls PyProof.Rows
theorem ints_of_wellAll {P : Params} {h : Heap} : ∀ (ns : List Int) (vs : List Value), WellAll P h vs (ns.map WData.int) → IntsAre vs ns := by
  intro ns
  induction ns with
  | nil =>
    intro vs w
    rw [List.map_nil] at w
    cases w
    exact .nil
  | cons n ns ih =>
    intro vs w
    rw [List.map_cons] at w
    cases w with
    | cons a b =>
      cases a
      exact .cons _ _ (ih _ b)
theorem script_of {l : OpenLaw} {n : Nat} (hn : l.most = some n) {P : Params} {h : Heap} {args : List WData} {vals : List Value}
    (hpre : l.row.toRowW.claim.pre args = true) (hwl : WellAll P h vals args) :
    ∃ a vs ns, vals = [Value.ref a] ∧ args = [WData.list (ns.map WData.int)] ∧ h.get? a = some { cls := .type "list", data := .seq vs.toArray } ∧ IntsAre vs ns ∧ ns.length ≤ n := by
  have hsh : WShape.hasAll [] args [.list .int] = true := (pre_splitW hpre).1
  have hc : l.pre.holds [] { args := args } = true := (pre_splitW hpre).2
  obtain ⟨d, r, rfl, h1, h2⟩ := hasAllW_cons hsh
  obtain rfl := hasAllW_nil h2
  obtain ⟨xs, rfl, h3⟩ := hasW_list h1
  obtain ⟨ns, rfl⟩ := items_int h3
  have hlen : ns.length ≤ n := by
    unfold OpenLaw.pre at hc
    have h4 : (WTm.not (.lt (.lit (.int (n : Int))) (.len (.arg 0)))).holds [] { args := [.list (ns.map .int)] } = true := by
      have h4 := (holds_andW hc).1
      rw [hn] at h4
      exact h4
    have h5 := condW_of h4 (w_not (w_lt w_lit (w_len_list (w_arg rfl))))
    rw [List.length_map] at h5
    refine Nat.le_of_not_lt fun q => ?_
    have q' : (n : Int) < ((ns.length : Nat) : Int) := by omega
    first
      | (rw [decide_eq_true q'] at h5; exact absurd h5 (by decide))
      | (simp at h5; omega)
  cases hwl with
  | cons w1 w2 =>
    cases w2
    cases w1 with
    | list ho hall => exact ⟨_, _, ns, rfl, rfl, ho, ints_of_wellAll ns _ hall, hlen⟩
theorem post_true (l : OpenLaw) (args : List WData) : l.row.toRowW.claim.post args (.bool true) args = true :=
  postW_of (r := l.row.toRowW) (X := (true == true))
    (show WShape.has [] (.bool true) .bool = true by first | rfl | decide | simp [WShape.has, WShape.arms, WShape.armsAll])
    (show (WTm.eq .res (.lit (.bool true))).value [] { args := args, res := some (.bool true), after := args } = some (.bool (true == true)) from w_eq_bool (w_res rfl) w_lit) rfl
/-- the same from a codeAny of the CALL (for a layer whose function contracts speak of calls) -/
theorem attach_call {l : OpenLaw} {n : Nat} {q : Program} {loose : List Str} {XP : (Str → Option Value) → Heap → Prop} {YP : World → Heap → Prop} {d : DefRec}
    (hn : l.most = some n) (hdf : d.params.defaults = [])
    (call : ∀ (w : World) (s₀ s₁ : Shared) (mg mb : Str → Option Value) (fa : Addr) (o : Obj) (pm cd doc : Value) (a : Addr) (vs : List Value) (ns : List Int),
      Ground q loose [] XP w s₀ mg mb s₁.heap → YP w s₁.heap →
      s₁.heap.get? fa = some o → o.data = .func (docDef d.name d.params d.body d.scope pm cd doc) → s₁.heap.CodeRec cd d.name → mg d.name = some (.ref fa) →
      s₁.heap.get? a = some { cls := .type "list", data := .seq vs.toArray } → IntsAre vs ns → ns.length ≤ n → s₁.gens = #[] →
      codeAny (model l.prog w) callerA (.call (.ref fa) ⟨[.ref a], []⟩) (fun r s' => r = .ok (.ret (.bool true)) ∧ OldK s₁.heap s'.heap ∧ s'.os = s₁.os ∧ AllBare s'.gens) s₁) :
    WalkO q loose XP YP l.row.toRowW d [] (fun f vs => PySem.call f vs) := by
  intro w s₀ s₁ mg mb G Y fa o pm cd doc dV kV ho hd hcd hD hmg hg args vals as hpre hlay hrd hwl hlo
  obtain rfl : dV = .none := Dflts.none hD hdf
  obtain rfl : kV = .none := Dflts.noKw hD
  obtain ⟨a, vs, ns, rfl, rfl, hobj, hints, hlen⟩ := script_of hn hpre hwl
  refine enter_call (codeAny_mono (call w s₀ s₁ mg mb fa o pm cd doc a vs ns G Y ho (fd_plain hd) hcd hmg hobj hints hlen hg) fun r s' hq => ?_)
  obtain ⟨rfl, h2, h3, h4⟩ := hq
  exact ⟨.inl ⟨.bool true, .bool true, [], rfl, fun _ => rfl, .bool true, post_true l _, fun _ => ⟨List.Pairwise.nil, fun _ hm => (nomatch hm)⟩⟩, h2, h3, h4⟩
section
variable {prog : Program} {w : World} {A : Around} {E : Value → Shared → Prop} {s : Shared} {K : Frag}
end
end Att
namespace L2
open PySem PySem.Spec PyProof.Rows
theorem vals_ints : ∀ {vs : List Value} {ns : List Int}, IntsAre vs ns → Vals (ns.map V.int) vs
  | _, _, .nil => .nil
  | _, _, .cons n t h => .cons ⟨t, rfl⟩ (vals_ints h)
/-- nothing is tracked but the script, known to the object (or it is an object of the module) -/
noncomputable def Only (H : Hp) : Prop := ∀ b, H b = none ∨ ∃ o xs, H b = some (.frz o (.lst xs))
/-- THE HEAD: the law's promise, at the heap behind the top. F, the promise of the law's def, may use that base is part of the heap (so K.In base, base.Ns mainGlobals mg stand in Mod) -/
theorem law_call {P : Program} {w : World} {K : PySem.W.Frag} {mg mb : Str → Option Value} {CX : CXT} {k : Nat} {fa a : Addr} {fd : FuncData} {x : Str} {sp : Sp} {s₁ : Shared} {vs : List Value} {ns : List Int}
    (KX : K.In s₁.heap) (hns : s₁.heap.Ns mainGlobals mg) (hb : s₁.heap.Ns builtinsNs mb) (hbb : ∀ x : Str, x ≠ "__name__" → mb x = bootBuiltins x) (hlim : s₁.heap.NoLimit) (hg : s₁.gens = #[])
    (ha : s₁.heap.get? a = some { cls := .type "list", data := .seq vs.toArray }) (hi : IntsAre vs ns) (hl : ns.length ≤ sizeLine) (hr : Room k callerA)
    (F : ∀ base : Heap, K.In base → base.Ns mainGlobals mg → FnOk P w K mg base CX k fa fd [x] sp) (hbind : ∀ (s : Shared) (u : Value), BindsTo s fd ⟨[u], []⟩ [(x, u)])
    (hsp : ∀ H : Hp, Only H → SqL K H a (ns.map V.int) → sp [.ref a] H (fun v _ => v = .bl true) fun _ _ _ => False)
    (hCX : ∀ H e s', CX [] H s₁ (fun _ _ _ => False) e s' → False) :
    codeAny (model P w) callerA (.call (.ref fa) ⟨[.ref a], []⟩) (fun r s' => r = .ok (.ret (.bool true)) ∧ OldK s₁.heap s'.heap ∧ s'.os = s₁.os ∧ AllBare s'.gens) s₁ := by
  have rv := vals_ints hi
  have lenV := hi.length
  -- from an abstract heap in which nothing but the script may be tracked
  have core : ∀ H : Hp, Only H → SqL K H a (ns.map V.int) → HOk P w H s₁.heap → (∀ b, H b ≠ none → b = a) → (H a ≠ none → K.lookup a = none) →
      codeAny (model P w) callerA (.call (.ref fa) ⟨[.ref a], []⟩) (fun r s' => r = .ok (.ret (.bool true)) ∧ OldK s₁.heap s'.heap ∧ s'.os = s₁.os ∧ AllBare s'.gens) s₁ := by
    intro H hO hS hok hA hK
    have base_of : ∀ {b : Addr} {o : Obj}, s₁.heap.get? b = some o → H b = none → (hidT s₁.heap H).get? b = some o := fun e n => hidT_get e n
    have noA : ∀ {b : Addr} {o : Obj} {es : Array DictEntry} {ep : Nat}, s₁.heap.get? b = some o → o.data = .dict es ep → H b = none := fun {b o es ep} e d => by
      cases q : H b with
      | none => rfl
      | some u =>
        have e' : b = a := hA b (by rw [q]; simp)
        subst e'
        rw [ha] at e; cases e
        have d' : Data.seq vs.toArray _ = Data.dict es ep := d
        cases d'
    have nsK : ∀ {b : Addr} {m : Str → Option Value}, s₁.heap.Ns b m → (hidT s₁.heap H).Ns b m := fun {b m} ⟨o, es, ep, e, d, r⟩ => ⟨o, es, ep, base_of e (noA e d), d, r⟩
    have hKb : K.In (hidT s₁.heap H) := fun b o e => base_of (KX b o e) (by
      cases q : H b with
      | none => rfl
      | some u =>
        have e' : b = a := hA b (by rw [q]; simp)
        subst e'
        rw [hK (by rw [q]; simp)] at e; cases e)
    have hM : Mod K mg (hidT s₁.heap H) := ⟨hKb, nsK hns, ⟨mb, nsK hb, hbb⟩, let ⟨mc, h1, h2⟩ := hlim; ⟨mc, nsK h1, h2⟩⟩
    have e0 : Env0 P w K mg (hidT s₁.heap H) callerA [] s₁ H := ⟨rfl, hM, fun b o e => of_hidT e, Nat.le_of_eq (hidT_size _ _), trivial, fun b hb => absurd (show b ∈ ([] : List Addr) from hb) (by simp), hok, .of_eq hg⟩
    refine codeAny_mono ((F _ hKb (nsK hns)).run callerA [] s₁ H ⟨[.ref a], []⟩ [.ref a] [.ref a] _ _ hr e0 (hbind s₁ (.ref a)) (.cons rfl .nil) (hsp H hO hS)) fun r s' h => ?_
    cases r with
    | error e => exact (hCX H e s' h).elim
    | ok fl =>
      cases fl with
      | next => exact False.elim h
      | brk => exact False.elim h
      | cont => exact False.elim h
      | ret u =>
        obtain ⟨v, H', os, bare, un, hok', r', q⟩ := h
        have q' : v = .bl true := q
        subst q'
        obtain rfl : u = Value.bool true := r'
        refine ⟨rfl, OldK.of_keep fun b o e => ?_, os, bare⟩
        cases q : H b with
        | none => exact un.keep b o e q (by intro z; exact absurd (show b ∈ ([] : List Addr) from z) (by simp)) (by simp)
        | some u =>
          rcases hO b with z | ⟨ob, xs, z⟩
          · rw [q] at z; cases z
          · have z2 := un.frzs b ob _ z
            obtain ⟨e1, _⟩ := hok b _ z
            obtain ⟨e2, _⟩ := hok' b _ z2
            rw [e] at e1; cases e1
            exact e2
  cases hk : K.lookup a with
  | some o =>
    -- the script is one of the module's own objects
    have e := KX a o hk
    rw [ha] at e
    cases e
    refine core (fun _ => none) (fun _ => .inl rfl) (.inr ⟨_, vs.toArray, _, hk, rfl, rfl, rfl, by rw [List.size_toArray, lenV]; exact hl, by simpa using rv⟩) (fun b u z => by have z' : (none : Option HO) = some u := z; cases z') (fun b z => absurd rfl z) fun z => absurd rfl z
  | none =>
    refine core (fun b => if b = a then some (.frz { cls := .type "list", data := .seq vs.toArray } (.lst (ns.map V.int))) else none) (fun b => ?_) (.inl (.inr ⟨{ cls := .type "list", data := .seq vs.toArray }, if_pos rfl⟩)) (fun b u z => ?_) (fun b z => ?_) fun _ => hk
    · by_cases hb : b = a
      · exact .inr ⟨_, _, if_pos hb⟩
      · exact .inl (if_neg hb)
    · by_cases hb : b = a
      · have z' := (if_pos hb).symm.trans z
        cases z'
        subst hb
        exact ⟨ha, by rw [List.length_map]; exact hl, vs, _, rv, ha⟩
      · have z' := (if_neg hb).symm.trans z
        cases z'
    · by_cases hb : b = a
      · exact hb
      · exact absurd (if_neg hb) z
end L2
namespace L2
open PySem PySem.Spec PyProof.Rows
/-- the goal that k_head leaves (case hc), from the law's promise. F gives the function object fd (K's own) once, then the promise over every base -/
theorem walk_of {l : PySem.W.OpenLaw} {n k : Nat} {q : Program} {loose : List Str} {XP : (Str → Option Value) → Heap → Prop} {YP : World → Heap → Prop} {d : DefRec} {K : Params → PySem.W.Frag} {CX : World → CXT} {sp : World → Sp} {x : Str}
    (hn : l.most = some n) (hn2 : n ≤ sizeLine) (hdf : d.params.defaults = []) (hr : Room k callerA)
    (hY : ∀ (w : World) (h : Heap), YP w h → (K w.params).In h)
    (F : ∀ (w : World) (mg : Str → Option Value) (fa : Addr) (h : Heap), (K w.params).In h → h.Ns mainGlobals mg → mg d.name = some (.ref fa) →
      ∃ fd : FuncData, (∀ (s : Shared) (u : Value), BindsTo s fd ⟨[u], []⟩ [(x, u)]) ∧
        ∀ base : Heap, (K w.params).In base → base.Ns mainGlobals mg → FnOk l.prog w (K w.params) mg base (CX w) k fa fd [x] (sp w))
    (hsp : ∀ (w : World) (H : Hp) (a : Addr) (ns : List Int), ns.length ≤ n → Only H → SqL (K w.params) H a (ns.map V.int) → sp w [.ref a] H (fun v _ => v = .bl true) fun _ _ _ => False)
    (hCX : ∀ (w : World) (H : Hp) (s : Shared) (e : Value) (s' : Shared), CX w [] H s (fun _ _ _ => False) e s' → False) :
    PySem.W.WalkO q loose XP YP l.row.toRowW d [] (fun f vs => PySem.call f vs) := by
  refine Att.attach_call hn hdf fun w s₀ s₁ mg mb fa o pm cd doc a vs ns G Y ho hd hcd hmg hobj hints hlen hg => ?_
  have KX := hY w _ Y
  obtain ⟨fd, hb, hF⟩ := F w mg fa _ KX G.T.g hmg
  exact law_call KX G.T.g G.T.b G.T.builtins G.T.nolimit hg hobj hints (Nat.le_trans hlen hn2) hr hF hb (fun H hO hS => hsp w H a ns hlen hO hS) fun H e s' => hCX w H s₁ e s'
end L2
/- THE LAST THEOREM (shape; LID, My.* are yours):
   My.Adr: a structure of the addresses that your layer names (classes, functions); My.Txt K t: a structure (Prop) of the equations over K;
   My.txt_mk : {K} {implicit addresses ..} (e1 : nsIn K mainGlobals "law" = some (some (.ref f))) (e2 : K.lookup f = some ⟨oc, od, .func (fnOf "law" "law" params body scope dV kV doc pm an cdv ct), sl⟩) (e3 : codeIn K cdv "law" = true) .. : ∃ t, My.Txt K t
set_option maxRecDepth 100000 in
set_option maxHeartbeats 0 in
theorem PySem.Challenge.cw_LID_holds : PySem.Challenge.rw_LID.Holds := by
  w_on; o_law; k_head; (case hw => w_witness2)
  k_fill
  refine L2.walk_of (l := PySem.Challenge.rw_LID) (n := 63) (k := 40) (x := "script") (CX := fun w => ..) (sp := fun _ => My.sp_law) rfl (by decide) rfl ⟨rfl, by decide, by decide⟩ (fun w h Y => PySem.W.kIn_of Y) ?F ?S ?C
  case F =>
    intro w mg fa h KX G hmg
    have T : ∃ t, My.Txt (L2.KOf KX) t := by
      dsimp only [L2.KOf]                          -- K must stand as «<heap const> w.params» for k_is
      refine' My.txt_mk ?e1 ?e2 ?e3 ..
      (case e1 => PySem.W.k_is)                    -- in the order: a name -> its address -> its object -> its parts
      (case e2 => PySem.W.k_is)
      ..
    obtain ⟨t, T⟩ := T
    have e0 := hmg.symm.trans (PySem.W.mg_of KX G T.law)
    cases e0                                       -- fa is the law's own address
    exact ⟨_, fun s u => .of_eq rfl, fun base kb nb => My.law_fn T kb nb⟩     -- if «.of_eq rfl» comes too early: refine' ⟨_, ?b, fun base kb nb => My.law_fn T kb nb⟩; exact fun s u => .of_eq rfl
  case S => exact fun w H a ns hl hO hS => ..
  case C => exact ..
(the tactic k_is has no namespace: write k_is) -/
namespace L2
open PySem PySem.Spec PyProof.Rows
noncomputable def defArgs (s : Stmt) : Arguments := match s with
  | .FunctionDef _ a _ _ _ _ _ _ _ _ => a
  | _ => { posonlyargs := [], args := [], vararg := none, kwonlyargs := [], kw_defaults := [], kwarg := none, defaults := [] }
noncomputable def defBody (s : Stmt) : List Stmt := match s with
  | .FunctionDef _ _ b _ _ _ _ _ _ _ => b
  | _ => []
noncomputable def defScope (s : Stmt) : Scope := match s with
  | .FunctionDef _ _ _ _ _ _ sc _ _ _ => sc
  | _ => { kind := .function, names := [], isGenerator := false, isCoroutine := false }
noncomputable abbrev CX0 : CXT := fun _ _ _ _ _ _ => False
noncomputable abbrev E0 : XK := fun _ _ _ => False
theorem pass0 {X : Cx} : Passes CX0 X E0 := fun _ _ _ _ _ _ _ h => h.elim
structure Fun (K : PySem.W.Frag) (x qual : Str) (st : Stmt) (f : Addr) (fd : FuncData) : Prop where
  ex : ∃ (oc : Value) (od : Option Addr) (kV doc pm : Value) (an : Option Addr) (cdv ct : Value) (osl : Array (Option Value)),
    fd = PySem.W.fnOf x qual (defArgs st) (defBody st) (defScope st) .none kV doc pm an cdv ct ∧ K.lookup f = some ⟨oc, od, .func fd, osl⟩ ∧ PySem.W.codeIn K cdv qual = true
  kp : PySem.W.keepIn K (.ref f) = true
section
variable {P : Program} {w : World} {K : PySem.W.Frag} {mg : Str → Option Value} {base : Heap}
/-- THE RULE for a def: its body as a term of rules, and the reading of that term -/
theorem Fun.ok {x qual : Str} {st : Stmt} {f : Addr} {fd : FuncData} {N ps : List Str} {k : Nat} {sp : Sp} (F : Fun K x qual st f fd) (S : FnScope N ps (defScope st)) (len : ∀ vs H Q E, sp vs H Q E → vs.length = ps.length)
    (hbody : ∀ (cdv : Value) (A : Around) (outer : List Env) (s : Shared) (H : Hp) (vs : List V) (Q : VK) (E : XK), Room k (A.deeper (envOfC qual (defScope st) s.heap.objs.size f cdv)) → sp vs H Q E →
      ∃ t, PSs (cxOf CX0 P w K mg base N qual (defScope st) f cdv A outer s H E).nox (defBody st) t ∧ t { nx := fun _ H' => Q .non H', rt := Q } (start N vs) H) : FnOk P w K mg base CX0 (k + 1) f fd ps sp := by
  obtain ⟨oc, od, kV, doc, pm, an, cdv, ct, osl, rfl, lk, hcd⟩ := F.ex
  refine fn_of lk hcd S len fun A outer s H vs Q E hr hsp => ?_
  obtain ⟨t, h, q⟩ := hbody cdv A outer s H vs Q E hr hsp
  exact ⟨t, h.nox, q⟩
/-- how its arguments bind (no defaults): h is «fun _ _ _ _ _ _ us hl => match us, hl with | [_, _], _ => rfl», one _ a parameter -/
theorem Fun.binds {x qual : Str} {st : Stmt} {f : Addr} {fd : FuncData} {ps : List Str} (F : Fun K x qual st f fd)
    (h : ∀ (kV doc pm : Value) (an : Option Addr) (cdv ct : Value) (us : List Value), us.length = ps.length → bindArgs (PySem.W.fnOf x qual (defArgs st) (defBody st) (defScope st) .none kV doc pm an cdv ct) ⟨us, []⟩ = pure (ps.zip us)) : Binds K fd ps [] := by
  obtain ⟨oc, od, kV, doc, pm, an, cdv, ct, osl, rfl, lk, hcd⟩ := F.ex
  exact .all (h kV doc pm an cdv ct)
theorem fun_mk {x qual : Str} {st : Stmt} {f : Addr} {oc : Value} {od an : Option Addr} {osl : Array (Option Value)} {kV doc pm cdv ct : Value} (l : K.lookup f = some ⟨oc, od, .func (PySem.W.fnOf x qual (defArgs st) (defBody st) (defScope st) .none kV doc pm an cdv ct), osl⟩)
    (c : PySem.W.codeIn K cdv qual = true) (k : PySem.W.keepIn K (.ref f) = true) : Fun K x qual st f (PySem.W.fnOf x qual (defArgs st) (defBody st) (defScope st) .none kV doc pm an cdv ct) := ⟨⟨oc, od, kV, doc, pm, an, cdv, ct, osl, rfl, l, c⟩, k⟩
end
theorem hu_of {A : Around} {k : Nat} (hr : Room k A) : A.units + 1 < cLine := Nat.lt_of_le_of_lt (Nat.add_le_add_left (by decide : 1 ≤ 64) _) hr.units
section
variable {X : Cx}
theorem pv (i : Nat) {x : Str} {pos : Pos} (hN : X.N[i]? = some x := by rfl) (hv : Vis X.env.scope x := by first | exact Or.inl rfl | exact Or.inr (Or.inl rfl) | exact Or.inr (Or.inr rfl)) (hd : (x == ("__debug__" : Str)) = false := by decide)
    (hcd : (x == ("__classdict__" : Str)) = false := by decide) : PE X (.Name x pos) (tVar i) := pe_var hN hv hd hcd
end
theorem iteF {A B : Prop} (h : B) : if false = true then A else B := by
  rw [if_neg Bool.false_ne_true]
  exact h
theorem iteT {A B : Prop} (h : A) : if true = true then A else B := by
  rw [if_pos rfl]
  exact h
theorem ite2 {c A B : Prop} [Decidable c] (h1 : c → A) (h2 : ¬ c → B) : if c then A else B := by
  by_cases h : c
  · rw [if_pos h]
    exact h1 h
  · rw [if_neg h]
    exact h2 h
/-- all that was tracked is as it was -/
noncomputable def Same (H H' : Hp) : Prop := ∀ b o, H b = some o → H' b = some o
theorem Same.refl (H : Hp) : Same H H := fun _ _ h => h
theorem Same.trans {H H1 H2 : Hp} (a : Same H H1) (b : Same H1 H2) : Same H H2 := fun c o h => b c o (a c o h)
theorem Same.free {H H' : Hp} (e : Same H H') {l : Addr} (h : H' l = Option.none) : H l = Option.none := by
  cases q : H l with
  | none => rfl
  | some o =>
    rw [e l o q] at h
    cases h
theorem Same.seq {K : PySem.W.Frag} {H H' : Hp} {a : Addr} {xs : List V} (e : Same H H') (h : SqL K H a xs) : SqL K H' a xs := by
  rcases h with (h | ⟨o, h⟩) | h
  · exact .inl (.inl (e _ _ h))
  · exact .inl (.inr ⟨o, e _ _ h⟩)
  · exact .inr h
end L2
end
section
set_option maxRecDepth 100000
namespace KsTab
open PySem PySem.SetTable
end KsTab
end
section
set_option maxRecDepth 100000
namespace KsTab
open PySem PySem.SetTable
end KsTab
end
section
set_option maxRecDepth 100000
set_option maxHeartbeats 4000000
namespace KS
open PySem KsTab
section
variable {prog : Program} {w : World} {A : Around} {E : Value → Shared → Prop} {s : Shared}
end
end KS
end
section
set_option maxRecDepth 100000
set_option maxHeartbeats 4000000
namespace KS
open PySem KsTab PyProof.Rows
section
variable {prog : Program} {w : World} {A : Around} {E : Value → Shared → Prop} {s : Shared}
set_option maxHeartbeats 8000000 in
end
end KS
end
section
set_option maxRecDepth 100000
set_option maxHeartbeats 4000000
namespace KS
open PySem KsTab PyProof.Rows
section
variable {prog : Program} {w : World} {A : Around} {E : Value → Shared → Prop} {s : Shared}
end
end KS
end
section
set_option maxRecDepth 100000
set_option maxHeartbeats 4000000
namespace KS
open PySem KsTab PyProof.Rows
section
variable {prog : Program} {w : World} {A : Around} {E : Value → Shared → Prop} {s : Shared}
end
end KS
end
section
set_option maxRecDepth 100000
set_option maxHeartbeats 4000000
set_option linter.all false
namespace KS
open PySem KsTab PyProof.Rows PySem.W
section
variable {N : Nat} (hN : 0 < N)
include hN
end
section
variable {prog : Program} {w : World} {A : Around} {E : Value → Shared → Prop} {s : Shared}
end
end KS
end
section
set_option maxRecDepth 100000
set_option maxHeartbeats 4000000
namespace KS
open PySem PySem.Spec L2
open PyProof.Rows hiding St
noncomputable def clFold (env : Env) : List (Str × NameKind) → List (Str × Addr) → List (Str × Addr)
  | [], acc => acc
  | (n, k) :: r, acc => if (k == NameKind.free) = true then clFold env r ((n, (env.cells.lookup n).getD 0) :: acc) else clFold env r acc
theorem closure_fold {env : Env} : ∀ (l : List (Str × NameKind)) (acc : List (Str × Addr)), (∀ y ∈ l, y.2 = .free → (env.cells.lookup y.1).isSome = true) →
    (forIn l acc fun (x : Str × NameKind) (r : List (Str × Addr)) => match x with
      | (name, kind) => if (kind == NameKind.free) = true then do
            let a ← cellOf env name
            pure (ForInStep.yield ((name, a) :: r))
          else pure (ForInStep.yield r) : Sem (List (Str × Addr))) = pure (clFold env l acc)
  | [], acc, _ => rfl
  | (n, k) :: l, acc, h => by
    rw [List.forIn_cons]
    have hr : ∀ y ∈ l, y.2 = .free → (env.cells.lookup y.1).isSome = true := fun y hy => h y (List.mem_cons_of_mem _ hy)
    dsimp only
    by_cases hk : (k == NameKind.free) = true
    · rw [if_pos hk]
      obtain ⟨c, hc⟩ := Option.isSome_iff_exists.mp (h (n, k) List.mem_cons_self (eq_of_beq hk))
      have e1 : cellOf env n = pure c := by unfold cellOf; rw [hc]
      have e2 : clFold env ((n, k) :: l) acc = clFold env l ((n, c) :: acc) := by
        show (if (k == NameKind.free) = true then _ else _) = _
        rw [if_pos hk, hc]; rfl
      rw [e1, e2]
      exact closure_fold l _ hr
    · rw [if_neg hk]
      have e2 : clFold env ((n, k) :: l) acc = clFold env l acc := by
        show (if (k == NameKind.free) = true then _ else _) = _
        rw [if_neg hk]
      rw [e2]
      exact closure_fold l _ hr
theorem closure_eq {scope : Scope} {env : Env} (h : ∀ y ∈ scope.names, y.2 = .free → (env.cells.lookup y.1).isSome = true) : closureFor scope env = pure (clFold env scope.names []) := by
  have e := closure_fold scope.names [] h
  unfold closureFor
  simp only [] at e ⊢
  first
    | (rw [e]; rfl)
    | exact e
    | (refine Eq.trans (congrArg (fun m => m >>= fun r => pure r) e) rfl)
theorem clFold_look {env : Env} {x : Str} {c : Addr} : ∀ (l : List (Str × NameKind)) (acc : List (Str × Addr)), (∀ y ∈ l, y.2 = .free → (env.cells.lookup y.1).isSome = true) →
    (∀ y d, acc.lookup y = some d → env.cells.lookup y = some d) → (clFold env l acc).lookup x = some c → env.cells.lookup x = some c
  | [], acc, _, ha, h => ha x c h
  | (n, k) :: l, acc, hl, ha, h => by
    have hr : ∀ y ∈ l, y.2 = .free → (env.cells.lookup y.1).isSome = true := fun y hy => hl y (List.mem_cons_of_mem _ hy)
    by_cases hk : (k == NameKind.free) = true
    · have e2 : clFold env ((n, k) :: l) acc = clFold env l ((n, (env.cells.lookup n).getD 0) :: acc) := by
        show (if (k == NameKind.free) = true then _ else _) = _
        rw [if_pos hk]
      rw [e2] at h
      refine clFold_look l _ hr (fun y d e => ?_) h
      rw [List.lookup_cons] at e
      by_cases hy : (y == n) = true
      · rw [hy] at e
        have ey : y = n := eq_of_beq hy
        subst ey
        obtain ⟨c', hc⟩ := Option.isSome_iff_exists.mp (hl (y, k) List.mem_cons_self (eq_of_beq hk))
        rw [hc] at e ⊢
        exact e
      · have hy' : (y == n) = false := by cases q : (y == n) with | true => exact absurd q hy | false => rfl
        rw [hy'] at e
        exact ha y d e
    · have e2 : clFold env ((n, k) :: l) acc = clFold env l acc := by
        show (if (k == NameKind.free) = true then _ else _) = _
        rw [if_neg hk]
      rw [e2] at h
      exact clFold_look l _ hr ha h
theorem clFold_keeps {env : Env} {x : Str} : ∀ (l : List (Str × NameKind)) (acc : List (Str × Addr)), (acc.lookup x).isSome = true → ((clFold env l acc).lookup x).isSome = true
  | [], _, h => h
  | (n, k) :: l, acc, h => by
    show (List.lookup x (if (k == NameKind.free) = true then _ else _)).isSome = true
    split
    · refine clFold_keeps l _ ?_
      rw [List.lookup_cons]
      split
      · rfl
      · exact h
    · exact clFold_keeps l _ h
theorem clFold_has {env : Env} {x : Str} : ∀ (l : List (Str × NameKind)) (acc : List (Str × Addr)), (x, NameKind.free) ∈ l → ((clFold env l acc).lookup x).isSome = true
  | [], _, h => nomatch h
  | (n, k) :: l, acc, h => by
    show (List.lookup x (if (k == NameKind.free) = true then _ else _)).isSome = true
    rcases List.mem_cons.mp h with e | h
    · cases e
      rw [if_pos (by rfl)]
      refine clFold_keeps l _ ?_
      rw [List.lookup_cons]
      simp
    · split
      · exact clFold_has l _ h
      · exact clFold_has l _ h
theorem relabel_lookup {scope : Scope} {env : Env} {x : Str} : (relabel scope env).names.lookup x =
    (scope.names.lookup x).map fun k => if (k == NameKind.free && env.scope.kind == .function && env.kindOf x == some .cell) = true then .cell else k := by
  unfold relabel
  dsimp only
  induction scope.names with
  | nil => rfl
  | cons y l ih =>
    obtain ⟨n, k⟩ := y
    rw [List.map_cons]
    by_cases hx : (x == n) = true
    · have ex : x = n := eq_of_beq hx
      subst ex
      dsimp only
      split
      · rename_i hc
        rw [List.lookup_cons, List.lookup_cons, hx]
        show some NameKind.cell = _
        simp only [Option.map_some]
        rw [if_pos hc]
      · rename_i hc
        rw [List.lookup_cons, List.lookup_cons, hx]
        show some k = _
        simp only [Option.map_some]
        rw [if_neg hc]
    · have hx' : (x == n) = false := by cases q : (x == n) with | true => exact absurd q hx | false => rfl
      rw [List.lookup_cons (a := x) (b := k) (k := n), hx']
      dsimp only
      split
      · rw [List.lookup_cons, hx']; exact ih
      · rw [List.lookup_cons, hx']; exact ih
theorem mem_of_look {l : List (Str × NameKind)} {x : Str} {k : NameKind} (h : l.lookup x = some k) : (x, k) ∈ l := PySem.mem_of_lookup h
structure CompOk (scope : Scope) (xs : List Str) (osc : Scope) (N : List Str) : Prop where
  kind : scope.kind = .function
  nocell : ∀ y ∈ scope.names, y.2 ≠ .cell
  free : ∀ y ∈ scope.names, y.2 = .free → osc.names.lookup y.1 = some .cell ∨ osc.names.lookup y.1 = some .free
  loc : ∀ y ∈ scope.names, y.2 = .local → scope.names.lookup y.1 = some .local
  own : ∀ y ∈ N, scope.names.lookup y = some .local → y ∈ xs
  empty : scope.names.lookup Str.empty = none
noncomputable def blkN (N xs : List Str) : List Str := N.map (fun y => if xs.contains y = true then Str.empty else y) ++ xs
noncomputable def blk (X : Cx) (scope : Scope) (xs : List Str) (cl : List (Str × Addr)) (C : Addr) (s₀ : Shared) (H₀ : Hp) (ex : List Addr) : Cx :=
  { X with N := blkN X.N xs, s₀ := s₀, H₀ := H₀, env := compEnvC scope cl C X.env, outer := X.stack, ex := ex, fn := fun _ => false, pn := [], xe := fun _ _ => False }
noncomputable def PIf (X : Cx) (ifs : List Expr) (t : TT) : Prop :=
  ∀ (pins : List (Addr × Obj)) (s : Shared) (σ : St) (H : Hp) (Q : Bool → Hp → Prop), Inv X pins σ H s → t σ H Q →
    wpAny (model X.prog X.w) X.A (forIn ifs true fun c r => if r = true then do let ok ← isTrue c X.env (eval c X.env); pure (ForInStep.yield ok) else pure (ForInStep.yield r)) (TP X pins σ Q) X.xe s
noncomputable def tAll : TT := fun _ H Q => Q true H
theorem pif_nil {X : Cx} : PIf X [] tAll := fun _ _ _ H _ I h => wpAny_tests_nil ⟨H, I, h⟩
/-- the reading: W by the turn, a measure, the items so far, the heap -/
noncomputable def CompW (n : Nat) (J : It) (g : TG) (tt : TT) (te : TE) (σ : St) (Q : VK) (W : Nat → Nat → List V → Hp → Prop) : Prop :=
  ∀ i m ys H, W i m ys H →
    (J.stop i H ∧ ys.length ≤ sizeLine ∧ ∀ p, H p = none → Q (.ref p) (upd H p (.lst ys))) ∨
    (J.go i H ∧ ys.length < sizeLine ∧ ∃ N : List V → Hp → Prop, (∀ ys' H', N ys' H' → ∃ m', m' < m ∧ W (i + 1) m' ys' H') ∧ ∀ x H', J.yld i H x H' → g x (σ ++ List.replicate n none) H' fun σ2 H2 => σ2.take σ.length = σ ∧
      tt σ2 H2 fun c H3 => if c = true then te σ2 H3 fun v H4 => N (ys ++ [v]) H4 else N ys H3)
noncomputable def tComp (n : Nat) (wi : TI) (g : TG) (tt : TT) (te : TE) : TE := fun σ H Q => wi σ H fun J H1 => ∃ W : Nat → Nat → List V → Hp → Prop, (∃ m, W 0 m [] H1) ∧ CompW n J g tt te σ Q W
/-- over a range -/
theorem comp_range {n k : Nat} {lo : Int} {g : TG} {tt : TT} {te : TE} {σ : St} {Q : VK} {H : Hp} (Pv : Nat → List V → Hp → Prop) (h0 : Pv 0 [] H) (hn : n < sizeLine) (hl : ∀ i ys H, Pv i ys H → ys.length ≤ i)
    (hs : ∀ i ys H, i < n → Pv i ys H → g (.int (lo + i)) (σ ++ List.replicate k none) H fun σ2 H2 => σ2.take σ.length = σ ∧ tt σ2 H2 fun c H3 => if c = true then te σ2 H3 fun v H4 => Pv (i + 1) (ys ++ [v]) H4 else Pv (i + 1) ys H3)
    (hd : ∀ ys H p, Pv n ys H → H p = none → Q (.ref p) (upd H p (.lst ys))) : ∃ W : Nat → Nat → List V → Hp → Prop, (∃ m, W 0 m [] H) ∧ CompW k (Itr lo n) g tt te σ Q W := by
  refine ⟨fun i m ys H => m = n - i ∧ i ≤ n ∧ Pv i ys H, ⟨n, by simp, Nat.zero_le _, h0⟩, ?_⟩
  rintro i m ys H ⟨rfl, hi, p⟩
  have hy := hl i ys H p
  by_cases hlt : i < n
  · refine .inr ⟨hlt, by omega, Pv (i + 1), fun ys' H' p' => ⟨n - (i + 1), by omega, rfl, hlt, p'⟩, fun x H' y => ?_⟩
    obtain ⟨e, y⟩ := y
    subst e y
    exact hs i ys _ hlt p
  · have e : i = n := by omega
    subst e
    exact .inl ⟨Nat.le_refl _, by omega, fun q hq => hd ys H q p hq⟩
theorem compLoop_any {prog : Program} {w : World} {A : Around} {R : Result → Shared → Prop} {s : Shared} {elt target iter : Expr} {ifs : List Expr} {scope : Scope} {pos : Pos} {it acc : Value} {env : Env} (Iv : Nat → Shared → Prop)
    (turn : ∀ n s, Iv n s → wpAny (model prog w) A (pyNext it) (fun r s₁ => (r = none ∧ R (.ok .next) s₁) ∨ ∃ v, r = some v ∧
        wpAny (model prog w) A (letOwnedTupleGo target it v) (fun _ t₁ => wpAny (model prog w) A (assign target env v) (fun _ s₂ =>
          wpAny (model prog w) A (forIn ifs true fun c r => if r = true then do let ok ← isTrue c env (eval c env); pure (ForInStep.yield ok) else pure (ForInStep.yield r)) (fun ok s₃ =>
            if ok = true then wpAny (model prog w) A (eval elt env) (fun x s₄ =>
              wpAny (model prog w) A (call (.builtin "list.append") [acc, x]) (fun _ s₅ => ∃ m, m < n ∧ Iv m s₅) (fun _ _ => False) s₄) (fun _ _ => False) s₃
            else ∃ m, m < n ∧ Iv m s₃) (fun _ _ => False) s₂) (fun _ _ => False) t₁) (fun _ _ => False) s₁) (fun _ _ => False) s)
    (n : Nat) (h : Iv n s) : codeAny (model prog w) A (.compLoop (.ListComp elt [⟨target, iter, ifs, 0⟩] scope pos) 0 it acc env) R s := by
  refine codeAny_loop rfl Iv (fun n s hI => ?_) n h
  show wpAny _ A ((compTurn (.ListComp elt [⟨target, iter, ifs, 0⟩] scope pos) 0 it acc env).onRaise (fun x => do noteFrame x env; theTreesLotGoes x)) _ _ s
  refine wpAny_noted ?_
  rw [compTurn_list]
  refine wpAny_bind (wpAny_standAt (wpAny_bind (wpAny_mono (turn n s hI) (fun r s₁ q1 => ?_) fun _ _ z => z.elim)))
  rcases q1 with ⟨rfl, q⟩ | ⟨v, rfl, q⟩
  · exact wpAny_pure q
  · refine wpAny_bind (wpAny_mono q (fun _ t₁ q2 => ?_) fun _ _ z => z.elim)
    refine wpAny_bind (wpAny_mono q2 (fun _ s₂ q3 => ?_) fun _ _ z => z.elim)
    refine wpAny_bind (wpAny_mono q3 (fun ok s₃ q4 => ?_) fun _ _ z => z.elim)
    cases ok with
    | false =>
      have q5 : ∃ m, m < n ∧ Iv m s₃ := q4
      exact wpAny_pure ⟨rfl, q5⟩
    | true =>
      refine wpAny_bind (wpAny_bind (wpAny_mono q4 (fun x s₄ q5 => ?_) fun _ _ z => z.elim))
      exact wpAny_bind (wpAny_mono q5 (fun _ s₅ q6 => wpAny_pure (wpAny_pure ⟨rfl, q6⟩)) fun _ _ z => z.elim)
/-- an object that stands there untracked is taken in -/
theorem HOk.adopt {P : Program} {w : World} {H : Hp} {h : Heap} {a : Addr} {o : HO} (x : HOk P w H h) (hn : H a = none) (new : ObjOk P w (upd H a o) h a o) : HOk P w (upd H a o) h := fun b u e => by
  by_cases hb : b = a
  · subst hb
    rw [upd_same] at e
    cases e
    exact new
  · rw [upd_ne hb] at e
    exact (x b u e).stay (fun _ _ _ q => q) (fun c q => by rw [upd_ne (ne_of_none q hn)]; exact q) fun c xs q => by rw [upd_ne (ne_of_none q hn)]; exact q
section
variable {X : Cx} {elt tg iter : Expr} {ifs : List Expr} {scope : Scope} {xs : List Str} {pos : Pos} {g : TG} {tt : TT} {te : TE}
theorem blk_ok {pins : List (Addr × Obj)} {σ : St} {H : Hp} {s : Shared} {C : Addr} {fp : List Addr} (I : Inv X pins σ H s) (K : CompOk scope xs X.env.scope X.N) (hC : s.heap.objs.size ≤ C) (hf : ∀ b ∈ fp, FpOk X pins H b) (hfl : ∀ b ∈ fp, b < s.heap.objs.size) :
    (blk X scope xs (clFold X.env scope.names []) C s H fp).Ok := by
  have hcl : ∀ y ∈ scope.names, y.2 = .free → (X.env.cells.lookup y.1).isSome = true := fun y hy hk => by
    obtain ⟨c, hc⟩ := I.ok.has y.1 (K.free y hy hk)
    rw [hc]; rfl
  have look : ∀ x c, (clFold X.env scope.names []).lookup x = some c → X.env.cells.lookup x = some c := fun x c e => clFold_look scope.names [] hcl (fun y d z => by cases z) e
  refine ⟨I.ok.mod, K.kind, I.ok.glob, I.ok.blt, hC, fun x y c h1 h2 => I.ok.inj x y c (look x c h1) (look y c h2), fun x hx => ?_, fun x c z => Bool.noConfusion z, I.ok.hd, I.ok.frames, .inl rfl, fun b hb => ⟨Nat.ne_of_lt (Nat.lt_of_lt_of_le (hfl b hb) hC), fun x c e => (hf b hb).2.2.2.2.1 x c (look x c e)⟩,
    I.bs, Nat.le_trans I.ok.bsz I.sz, fun b o e hb => ?_, fun b hb hm => ?_, I.stack, I.stkFree⟩
  · have hx' : (relabel scope X.env).names.lookup x = some .cell ∨ (relabel scope X.env).names.lookup x = some .free := hx
    rw [relabel_lookup] at hx'
    cases q : scope.names.lookup x with
    | none => rw [q] at hx'; rcases hx' with z | z <;> cases z
    | some k =>
      have hm := mem_of_look q
      have hk : k = .free := by
        rw [q] at hx'
        simp only [Option.map_some] at hx'
        split at hx'
        · rename_i hc
          simp only [Bool.and_eq_true] at hc
          exact eq_of_beq hc.1.1
        · rcases hx' with z | z
          · exact absurd (Option.some.inj z) (K.nocell (x, k) hm)
          · exact Option.some.inj z
      subst hk
      exact Option.isSome_iff_exists.mp (clFold_has scope.names [] hm)
  · rcases (hf b hb).2.2.2.1 with z | z
    · exact I.ok.noex b o e z
    · exact absurd (Nat.lt_of_lt_of_le (Heap.lt_size e) (Nat.le_trans I.ok.bsz z)) (Nat.lt_irrefl _)
  · rcases List.mem_cons.mp (I.stkSub b hm) with z | z
    · exact (hf b hb).2.1 z
    · exact (hf b hb).2.2.1 z
/-- the block's state at its start -/
theorem blk_inv {pins : List (Addr × Obj)} {σ : St} {H : Hp} {s : Shared} {C : Addr} {fp : List Addr} {h1 : Heap} {m1 : Str → Option Value} {tk : Nat} (I : Inv X pins σ H s) (K : CompOk scope xs X.env.scope X.N) (hC : s.heap.objs.size ≤ C) (hf : ∀ b ∈ fp, FpOk X pins H b) (hfl : ∀ b ∈ fp, b < s.heap.objs.size)
    (keep : ∀ b o, s.heap.get? b = some o → h1.get? b = some o) (hns : h1.Ns C m1) :
    Inv (blk X scope xs (clFold X.env scope.names []) C s H fp) [] (σ ++ List.replicate xs.length none) H { s with heap := h1, toks := tk } := by
  have ok := blk_ok (scope := scope) (xs := xs) I K hC hf hfl
  have hcl : ∀ y ∈ scope.names, y.2 = .free → (X.env.cells.lookup y.1).isSome = true := fun y hy hk => by
    obtain ⟨c, hc⟩ := I.ok.has y.1 (K.free y hy hk)
    rw [hc]; rfl
  have look : ∀ x c, (clFold X.env scope.names []).lookup x = some c → X.env.cells.lookup x = some c := fun x c e => clFold_look scope.names [] hcl (fun y d z => by cases z) e
  have cellK : ∀ x c v, X.env.cells.lookup x = some c → s.heap.IsCell c v → h1.IsCell c v := fun x c v _ ⟨o, ho, hd⟩ => ⟨o, keep c o ho, hd⟩
  refine ⟨ok, rfl, I.bare, Un.kept keep, ⟨m1, hns, fun i x v e1 e2 e3 => ?_⟩, fun x c e => ?_, I.hok.fresh hC, fun x c e => I.freeC x c (look x c e), fun p hp => absurd (show p ∈ ([] : List (Addr × Obj)) from hp) (by simp), I.hok.kept keep, ?_⟩
  · have hi : i < σ.length := by
      by_cases hi : i < σ.length
      · exact hi
      · rw [List.getElem?_append_right (Nat.le_of_not_lt hi), List.getElem?_replicate] at e2
        split at e2 <;> cases e2
    rw [List.getElem?_append_left hi] at e2
    have hiN : i < X.N.length := by rw [← I.len]; exact hi
    have e1' : ((X.N.map fun y => if xs.contains y = true then Str.empty else y) ++ xs)[i]? = some x := e1
    rw [List.getElem?_append_left (by rw [List.length_map]; exact hiN), List.getElem?_map] at e1'
    obtain ⟨y, hy⟩ : ∃ y, X.N[i]? = some y := ⟨X.N[i], by simp [hiN]⟩
    rw [hy] at e1'
    simp only [Option.map_some, Option.some.injEq] at e1'
    have e3' : (relabel scope X.env).names.lookup x = some .local ∨ (relabel scope X.env).names.lookup x = some .cell ∨ (relabel scope X.env).names.lookup x = some .free := e3
    rw [relabel_lookup] at e3'
    cases q : scope.names.lookup x with
    | none => rw [q] at e3'; rcases e3' with z | z | z <;> cases z
    | some k =>
      have hm := mem_of_look q
      have hxy : y = x ∧ xs.contains y ≠ true := by
        by_cases hc : xs.contains y = true
        · rw [if_pos hc] at e1'
          rw [← e1', K.empty] at q
          cases q
        · rw [if_neg hc] at e1'
          exact ⟨e1', hc⟩
      obtain ⟨rfl, hnx⟩ := hxy
      have hk : k = .free := by
        rw [q] at e3'
        simp only [Option.map_some] at e3'
        split at e3'
        · rename_i hc
          simp only [Bool.and_eq_true] at hc
          exact eq_of_beq hc.1.1
        · rcases e3' with z | z | z
          · exfalso
            rw [Option.some.inj z] at q
            exact hnx (List.contains_iff_mem.mpr (K.own y (List.mem_of_getElem? hy) q))
          · exact absurd (Option.some.inj z) (K.nocell (y, k) hm)
          · exact Option.some.inj z
      subst hk
      have ho := K.free (y, NameKind.free) hm rfl
      obtain ⟨m0, _, hl⟩ := I.loc
      obtain ⟨u, r, l⟩ := hl i y v hy e2 (.inr ho)
      refine ⟨u, r, .inr ⟨?_, ?_⟩⟩
      · show (relabel scope X.env).names.lookup y = some .cell ∨ (relabel scope X.env).names.lookup y = some .free
        rw [relabel_lookup, q]
        simp only [Option.map_some]
        split
        · exact .inl rfl
        · exact .inr rfl
      · rcases l with ⟨z, _⟩ | ⟨_, c, hc, hcell⟩
        · exfalso
          have z' : X.env.scope.names.lookup y = some .local := z
          rcases ho with h | h <;> (rw [z'] at h; cases h)
        · obtain ⟨c', hc'⟩ := Option.isSome_iff_exists.mp (clFold_has (env := X.env) scope.names [] hm)
          have := look y c' hc'
          rw [hc] at this
          cases this
          exact ⟨c, hc', cellK y c _ hc hcell⟩
  · obtain ⟨v, z⟩ := I.cell x c (look x c e)
    exact ⟨v, cellK x c v (look x c e) z⟩
  · show (σ ++ List.replicate xs.length none).length = ((X.N.map fun y => if xs.contains y = true then Str.empty else y) ++ xs).length
    rw [List.length_append, List.length_append, List.length_replicate, List.length_map, I.len]
theorem comp_loop {B : Cx} {σ : St} {n : Nat} {H : Hp} {s : Shared} {it D : Addr} {fp : List Addr} {tn : Nat → Heap → Prop} {J : It} {Q : VK} {R : Result → Shared → Prop}
    (hc : B.calm = true) (hx : B.xe = fun _ _ => False) (hpn : B.pn = []) (hg : PG B tg g) (ht : PIf B ifs tt) (he : PE B elt te)
    (I : Inv B [] (σ ++ List.replicate n none) H s) (T : Turn B.prog B.w B.K tg J fp it tn) (st : tn 0 s.heap) (hf : ∀ b ∈ fp, FpOk B [] H b) (hfD : FpOk B [] H D) (hDf : ∀ b ∈ fp, D ≠ b)
    (hD : s.heap.get? D = some { cls := .type "list", data := .seq ([] : List Value).toArray 0 }) (W : Nat → Nat → List V → Hp → Prop) (w0 : ∃ m, W 0 m [] H) (hw : CompW n J g tt te σ Q W)
    (fin : ∀ s' H' ys its k, Inv B [] (σ ++ List.replicate n none) H' s' → H' D = none → s'.heap.get? D = some { cls := .type "list", data := .seq (List.toArray its) k } → Vals ys its → ys.length ≤ sizeLine →
      (∀ p, H' p = none → Q (.ref p) (upd H' p (.lst ys))) → R (.ok .next) s') :
    codeAny (model B.prog B.w) B.A (.compLoop (.ListComp elt [⟨tg, iter, ifs, 0⟩] scope pos) 0 (.ref it) (.ref D) B.env) R s := by
  obtain ⟨m0, w0⟩ := w0
  have no : ∀ e t, B.xe e t → False := fun e t z => by rw [hx] at z; exact z
  refine compLoop_any (fun q s' => ∃ i H' ys its k, Inv B [] (σ ++ List.replicate n none) H' s' ∧ tn i s'.heap ∧ (∀ b ∈ fp, H' b = none) ∧ H' D = none ∧ s'.heap.get? D = some { cls := .type "list", data := .seq (List.toArray its) k } ∧ Vals ys its ∧ W i q ys H') ?_ m0
    ⟨0, H, [], [], 0, I, st, fun b hb => (hf b hb).1, hfD.1, hD, .nil, w0⟩
  rintro q s' ⟨i, H', ys, its, k, I', st', fr', hDn, hDo, rv, w'⟩
  have fD : ∀ {H2 : Hp}, H2 D = none → FpOk B [] H2 D := fun z => ⟨z, hfD.2⟩
  have Ip : Inv B [(D, { cls := .type "list", data := .seq (List.toArray its) k })] (σ ++ List.replicate n none) H' s' := I'.pins_of fun p hp => by
    obtain rfl := List.mem_singleton.mp hp
    exact ⟨hDo, hDn, hfD.2.1, hfD.2.2.1, fun v z => by cases z⟩
  have ff : ∀ {H2 : Hp}, (∀ b ∈ fp, H2 b = none) → ∀ b ∈ fp, FpOk B [(D, { cls := .type "list", data := .seq (List.toArray its) k })] H2 b := fun z b hb => by
    obtain ⟨_, f1, f2, f3, f4, _⟩ := hf b hb
    refine ⟨z b hb, f1, f2, f3, f4, fun p hp => ?_⟩
    rw [hpn] at hp
    obtain rfl := List.mem_singleton.mp hp
    exact hDf b hb
  rcases hw i q ys H' w' with ⟨stop, hz, qq⟩ | ⟨go, hz, N, hN, step⟩
  · refine wpAny_mono (T.done B rfl rfl rfl hc i _ s' _ H' (fun _ _ => False) Ip (ff fr') st' stop) (fun r s1 ⟨hr, I1⟩ => .inl ⟨hr, ?_⟩) fun _ _ z => z
    have pD := I1.pin _ (List.mem_append_right _ (List.mem_singleton.mpr rfl))
    exact fin s1 H' ys its k (I1.pins_of fun p hp => nomatch hp) hDn pD.1 rv hz qq
  · refine wpAny_mono (T.item B rfl rfl rfl hc i _ s' _ H' (fun _ _ => False) Ip (ff fr') st' go) (fun r s1 ⟨u, hr, h4⟩ => .inr ⟨u, hr, wpAny_mono h4 (fun _ s2 ⟨x, H2, I2, r2, y2, st2, fr2⟩ => ?_) fun _ _ z => z⟩) fun _ _ z => z
    have I2' := I2.pinned (ff fr2) (T.obj _ _ st2)
    refine wpAny_mono (hg _ s2 _ H2 x u _ I2' r2 (step x H2 y2)) (fun _ s3 ⟨σ3, H3, I3, tk3, q3⟩ => ?_) no
    refine wpAny_mono (ht _ s3 σ3 H3 _ I3 q3) (fun ok s4 ⟨H4, I4, q4⟩ => ?_) no
    have wk : ∀ {H9 : Hp} {s9 : Shared}, Inv B ([(D, { cls := .type "list", data := .seq (List.toArray its) k })] ++ pinsAt fp s2.heap) σ3 H9 s9 → Inv B [] (σ ++ List.replicate n none) H9 s9 := fun {H9 s9} I9 => by
      refine (I9.pins_of (pins' := []) fun p hp => nomatch hp).weak ?_ fun j v e => ?_
      · rw [I.len, I9.len]
      · have hj : j < σ.length := by
          by_cases hj : j < σ.length
          · exact hj
          · rw [List.getElem?_append_right (Nat.le_of_not_lt hj), List.getElem?_replicate] at e
            split at e <;> cases e
        rw [List.getElem?_append_left hj, ← tk3, List.getElem?_take_of_lt hj] at e
        exact e
    have pinD : ∀ {H9 : Hp} {s9 : Shared}, Inv B ([(D, { cls := .type "list", data := .seq (List.toArray its) k })] ++ pinsAt fp s2.heap) σ3 H9 s9 → s9.heap.get? D = some { cls := .type "list", data := .seq (List.toArray its) k } ∧ H9 D = none := fun I9 =>
      let z := I9.pin (D, _) (List.mem_append_right _ (List.mem_append_left _ (List.mem_singleton.mpr rfl)))
      ⟨z.1, z.2.1⟩
    have pinF : ∀ {H9 : Hp} {s9 : Shared}, Inv B ([(D, { cls := .type "list", data := .seq (List.toArray its) k })] ++ pinsAt fp s2.heap) σ3 H9 s9 → tn (i + 1) s9.heap ∧ ∀ b ∈ fp, H9 b = none := fun I9 =>
      ⟨T.keep _ _ _ st2 fun b hb o e => (I9.pin (b, o) (List.mem_append_right _ (List.mem_append_right _ (mem_pinsAt hb e)))).1, fun b hb => by
        obtain ⟨o, e, _⟩ := T.obj _ _ st2 b hb
        exact (I9.pin (b, o) (List.mem_append_right _ (List.mem_append_right _ (mem_pinsAt hb e)))).2.1⟩
    cases ok with
    | false =>
      obtain ⟨m', hm, w4⟩ := hN ys H4 (show N ys H4 from q4)
      exact ⟨m', hm, i + 1, H4, ys, its, k, wk I4, (pinF I4).1, (pinF I4).2, (pinD I4).2, (pinD I4).1, rv, w4⟩
    | true =>
      rw [if_pos rfl]
      refine wpAny_mono (he _ s4 σ3 H4 _ I4 q4) (fun v s5 ⟨y, H5, I5, r5, n5⟩ => ?_) no
      obtain ⟨m', hm, w5⟩ := hN _ H5 n5
      obtain ⟨e5, d5⟩ := pinD I5
      have hlen := rv.length
      refine call_meets F.slot_list_append ⟨_, e5, rfl⟩ F.entry_list_append (F.args_list_append_2 _ _) (PySem.list_append D its.toArray k v (by rw [List.size_toArray]; omega)) ⟨e5, ?_⟩
      have up := PySem.IsL.update e5 (·.push v)
      have up2 : ∃ k2, (s5.heap.update D (Obj.mapSeq (·.push v))).get? D = some { cls := .type "list", data := .seq (List.toArray (its ++ [v])) k2 } := by
        rw [show its.toArray.push v = List.toArray (its ++ [v]) by simp] at up
        exact ⟨_, up⟩
      obtain ⟨k2, up2⟩ := up2
      have oth : ∀ b o, b ≠ D → s5.heap.get? b = some o → (s5.heap.update D (Obj.mapSeq (·.push v))).get? b = some o := fun b o hb e => (Heap.get?_update_other s5.heap (Obj.mapSeq (·.push v)) (Ne.symm hb)).trans e
      obtain ⟨g0, g1, g2, g3, g4, g5⟩ := fD (H2 := H5) d5
      have I6 := (wk I5).turned (t' := s5.toks) oth g0 g1 g3 g4 g5
      refine ⟨m', hm, i + 1, H5, ys ++ [y], its ++ [v], k2, I6, ?_, (pinF I5).2, d5, up2, rv.append (.cons r5 .nil), w5⟩
      exact T.keep _ _ _ (pinF I5).1 fun b hb o e => oth b o (Ne.symm (hDf b hb)) e
theorem comp_block {pins : List (Addr × Obj)} {σ : St} {H : Hp} {s : Shared} {it : Addr} {fp : List Addr} {tn : Nat → Heap → Prop} {J : It} {Q : VK} {E : Value → Shared → Prop} {RR : Value → Addr → Result → Shared → Prop}
    (hc : X.calm = true) (K : CompOk scope xs X.env.scope X.N) (hg : ∀ cl C s₀ H₀ ex, PG (blk X scope xs cl C s₀ H₀ ex) tg g) (ht : ∀ cl C s₀ H₀ ex, PIf (blk X scope xs cl C s₀ H₀ ex) ifs tt) (he : ∀ cl C s₀ H₀ ex, PE (blk X scope xs cl C s₀ H₀ ex) elt te)
    (I : Inv X pins σ H s) (T : Turn X.prog X.w X.K tg J fp it tn) (st : tn 0 s.heap) (hf : ∀ b ∈ fp, FpOk X pins H b) (W : Nat → Nat → List V → Hp → Prop) (w0 : ∃ m, W 0 m [] H) (hw : CompW xs.length J g tt te σ Q W)
    (fin : ∀ D C s' H' ys oC m, s'.heap.get? C = some oC → s'.heap.Ns C m → Inv X (pins ++ [(C, oC)]) σ (upd H' D (.lst ys)) s' → FpOk X pins (upd H' D (.lst ys)) C → Q (.ref D) (upd H' D (.lst ys)) → RR (.ref D) C (.ok .next) s') :
    wpAny (model X.prog X.w) X.A (newList []) (fun acc s₃ => wpAny (model X.prog X.w) X.A (newFunctionEnv scope X.env.globals (clFold X.env scope.names []) [] X.env.qual none .none (some X.env)) (fun cenv s₄ =>
      codeAny (model X.prog X.w) X.A (.compStart (.ListComp elt [⟨tg, iter, ifs, 0⟩] scope pos) 0 (.ref it) acc { cenv with scope := relabel scope X.env }) (RR acc cenv.locals) s₄) E s₃) E s := by
  have hfl : ∀ b ∈ fp, b < s.heap.objs.size := fun b hb => by
    obtain ⟨o, e, _⟩ := T.obj 0 _ st b hb
    exact Heap.lt_size e
  refine wpAny_newObj_type (wpAny_newFunctionEnv K.nocell (by intro y hy; simp at hy) (fun h₁ hns hsb => ?_) K.kind)
  dsimp only at hns hsb ⊢
  generalize hP : s.heap.push { cls := .type "list", dict := none, data := .seq ([] : List Value).toArray } = P at hns hsb ⊢
  have hCs : P.objs.size = s.heap.objs.size + 1 := by rw [← hP, Heap.size_push]
  have hDC : s.heap.objs.size ≠ P.objs.size := by rw [hCs]; exact Nat.ne_of_lt (Nat.lt_succ_self _)
  have hC : s.heap.objs.size ≤ P.objs.size := by rw [hCs]; exact Nat.le_succ _
  have keep : ∀ b o, s.heap.get? b = some o → h₁.get? b = some o := fun b o e => by
    refine hsb.extBut b o ?_ (Heap.get?_push_of_some _ (hP ▸ Heap.get?_push_of_some _ e))
    have := Heap.lt_size e
    exact Nat.ne_of_lt (Nat.lt_of_lt_of_le this hC)
  have hD : h₁.get? s.heap.objs.size = some { cls := .type "list", data := .seq ([] : List Value).toArray 0 } := hsb.extBut _ _ hDC (Heap.get?_push_of_some _ (hP ▸ Heap.get?_push_size _ rfl))
  have IB := blk_inv (scope := scope) (xs := xs) (tk := s.toks + ([] : List (Str × Value)).length) I K hC hf hfl keep hns
  have fC : ∀ {H2 : Hp}, H2 P.objs.size = none → FpOk X pins H2 P.objs.size := fun z => I.fpOk hC z
  have look : ∀ x c, (clFold X.env scope.names []).lookup x = some c → X.env.cells.lookup x = some c := fun x c e => clFold_look scope.names [] (fun y hy hk => by
    obtain ⟨c, hc⟩ := I.ok.has y.1 (K.free y hy hk)
    rw [hc]; rfl) (fun y d z => by cases z) e
  have nstk : ∀ b, s.heap.objs.size ≤ b → b ∉ frs X.stack := fun b hb hm => by
    rcases List.mem_cons.mp (I.stkSub b hm) with z | z
    · exact absurd (Nat.lt_of_lt_of_le I.lt (z ▸ hb)) (Nat.lt_irrefl _)
    · exact I.nofs hb z
  have loop : codeAny (model X.prog X.w) X.A (.compLoop (.ListComp elt [⟨tg, iter, ifs, 0⟩] scope pos) 0 (.ref it) (.ref s.heap.objs.size) (compEnvC scope (clFold X.env scope.names []) P.objs.size X.env))
      (RR (.ref s.heap.objs.size) P.objs.size) { s with heap := h₁, toks := s.toks + ([] : List (Str × Value)).length } := by
    refine comp_loop (B := blk X scope xs (clFold X.env scope.names []) P.objs.size s H fp) (D := s.heap.objs.size) hc rfl rfl (hg _ _ _ _ _) (ht _ _ _ _ _) (he _ _ _ _ _) IB T (T.keep _ _ _ st fun b _ o e => keep b o e) (fun b hb => ?_) ?_ (fun b hb => Nat.ne_of_gt (hfl b hb)) hD W w0 hw ?_
    · refine ⟨(hf b hb).1, Nat.ne_of_lt (Nat.lt_of_lt_of_le (hfl b hb) hC), ?_, .inl hb, fun x c e => (hf b hb).2.2.2.2.1 x c (look x c e), fun p hp => absurd (show p ∈ ([] : List (Addr × Obj)) from hp) (by simp)⟩
      intro hm
      rcases List.mem_cons.mp (I.stkSub b hm) with z | z
      · exact (hf b hb).2.1 z
      · exact (hf b hb).2.2.1 z
    · refine ⟨I.hok.fresh (Nat.le_refl _), hDC, nstk _ (Nat.le_refl _), .inr (Nat.le_refl _), fun x c e z => ?_, fun p hp => absurd (show p ∈ ([] : List (Addr × Obj)) from hp) (by simp)⟩
      obtain ⟨v, q⟩ := I.cell x c (look x c e)
      exact absurd q.lt (by rw [z]; exact Nat.lt_irrefl _)
    · intro s' H' ys its k I' hDn hDo rv hz qq
      obtain ⟨m, hnC, _⟩ := id I'.loc
      obtain ⟨oC, es, ep, hoC, hdC, _⟩ := id hnC
      have u := I'.base
      have low : ∀ b o, s.heap.get? b = some o → b ≠ s.heap.objs.size := fun b o e => Nat.ne_of_lt (Heap.lt_size e)
      have lowH : ∀ b o, H b = some o → b ≠ s.heap.objs.size := fun b o e => ne_of_none e (I.hok.fresh (Nat.le_refl _))
      have u' : Un (frs X.stack) fp H (upd H' s.heap.objs.size (.lst ys)) s.heap s'.heap :=
        ⟨u.keep, u.slot, fun b o e n hx => by rw [upd_ne (low b o e)]; exact u.free b o e n hx, u.there, fun b ts e => by rw [upd_ne (lowH b _ e)]; exact u.tups b ts e,
          fun b o v e => by rw [upd_ne (lowH b _ e)]; exact u.frzs b o v e, fun b ps e => by rw [upd_ne (lowH b _ e)]; exact u.tbls b ps e⟩
      have hok' := HOk.adopt (o := .lst ys) I'.hok hDn ⟨hz, its, k, rv, hDo⟩
      have J1 : Inv X pins σ (upd H' s.heap.objs.size (.lst ys)) s' := I.call' (ch := fp) I'.os u' hok' I'.bare fun b hb => ⟨(hf b hb).2.2.2.1, (hf b hb).2.1, (hf b hb).2.2.2.2.1, (hf b hb).2.2.2.2.2⟩
      have hCn : upd H' s.heap.objs.size (.lst ys) P.objs.size = none := by rw [upd_ne (Ne.symm hDC)]; exact I'.free
      have fc := fC hCn
      refine fin _ _ s' H' ys oC m hoC hnC (J1.pins_of fun p hp => ?_) fc (qq _ hDn)
      rcases List.mem_append.mp hp with z | z
      · exact J1.pin p (List.mem_append_right _ z)
      · obtain rfl := List.mem_singleton.mp z
        exact ⟨hoC, hCn, fc.2.1, fc.2.2.1, fun v z => by rw [hdC] at z; cases z⟩
  exact codeAny_compStart_list loop (T.self _ 0 _ _ _ (T.keep _ _ _ st fun b _ o e => keep b o e) loop)
/-- name = [elt for tg in iter if ..], the name a plain local of the def -/
theorem ps_comp {wi : TI} {i : Nat} {y : Str} {py spos : Pos} (hN : X.N.Nodup) (hi' : X.N[i]? = some y) (hy : X.env.scope.names.lookup y = some .local) (hc : X.calm = true) (K : CompOk scope xs X.env.scope X.N) (hi : PI X tg iter wi)
    (hg : ∀ cl C s₀ H₀ ex, PG (blk X scope xs cl C s₀ H₀ ex) tg g) (ht : ∀ cl C s₀ H₀ ex, PIf (blk X scope xs cl C s₀ H₀ ex) ifs tt) (he : ∀ cl C s₀ H₀ ex, PE (blk X scope xs cl C s₀ H₀ ex) elt te)
    (hsw : swapsWith (.ListComp elt [⟨tg, iter, ifs, 0⟩] scope pos) (some (.Name y py)) spos.line X.env = pure true) (hs : ∀ x, foldedSetIterable iter X.env x = pure x := by intro _; rfl) :
    PS X (.Assign [.Name y py] (.ListComp elt [⟨tg, iter, ifs, 0⟩] scope pos) spos) (tAsg (tComp xs.length wi g tt te) (gName i)) := by
  intro pins s σ H D0 I h
  have hcl : ∀ y ∈ scope.names, y.2 = .free → (X.env.cells.lookup y.1).isSome = true := fun y hy hk => by
    obtain ⟨c, hc⟩ := I.ok.has y.1 (K.free y hy hk)
    rw [hc]; rfl
  rw [exec_Assign_Name_used _ _ _ _ hsw]
  refine wpAny_bind (wpAny_standAt (wpAny_bind ?_))
  show wpAny _ _ (comprehension (.ListComp elt [⟨tg, iter, ifs, 0⟩] scope pos) scope X.env _ (newList []) false (eval iter X.env) (some (assign (.Name y py) X.env)) >>= fun _ => pure ()) _ _ s
  refine wpAny_bind (wpAny_mono (wpAny_comprehension_free (use := some (assign (.Name y py) X.env)) (Q := fun _ s' => SP X pins D0 .next s') rfl hs (closure_eq hcl) K.kind K.loc (thn (hi pins s σ H _ I h) fun v s1 h1 => thn h1 fun itv s2 h2 => ?_)) (fun _ s' hq => wpAny_pure (wpAny_pure hq)) fun _ _ z => z)
  obtain ⟨it, fp, tn, J, H2, e, I2, T, st2, f2, W, w0, hw⟩ := h2
  subst e
  refine comp_block (RR := fun acc C => compPost (model X.prog X.w) X.A X.xe (some (assign (.Name y py) X.env)) (fun _ s' => SP X pins D0 .next s') acc C) hc K hg ht he I2 T st2 f2 W w0 hw ?_
  intro D C s' H' ys oC m hoC hnC J fc q
  show wpAny _ _ (assign (.Name y py) X.env (.ref D)) _ _ s'
  refine wpAny_assign_Name (store_ok J hN hi' (.inl hy) (show RelV (.ref D) (.ref D) from rfl) (fun s2 I3 => ?_) (.inr hy))
  have pC := I3.pin (C, oC) (List.mem_append_right _ (List.mem_append_right _ (List.mem_singleton.mpr rfl)))
  obtain ⟨o, es, ep, ho, r⟩ := hnC
  rw [hoC] at ho
  cases ho
  refine ⟨m, ⟨oC, es, ep, pC.1, r⟩, fun h' hsb => ⟨_, _, ?_, q⟩⟩
  exact (I3.pins_of (pins' := pins) fun p hp => I3.pin p (List.mem_append_right _ (List.mem_append_left _ hp))).turned (t' := s2.toks) (fun b o hb e => hsb.extBut b o hb e) fc.1 fc.2.1 fc.2.2.2.1 fc.2.2.2.2.1 fc.2.2.2.2.2
end
end KS
end
section
set_option Elab.async false
set_option maxRecDepth 100000
set_option maxHeartbeats 4000000
set_option linter.all false
namespace KS
open PySem PySem.Spec L2
open PyProof.Rows hiding St
section
variable {X : Cx} {elt tg iter : Expr} {ifs : List Expr} {scope : Scope} {x : Str} {pos : Pos} {g : TG} {tt : TT} {te : TE}
end
end KS
end
section
set_option maxRecDepth 100000
set_option maxHeartbeats 4000000
namespace KS
open PySem PySem.Spec L2
open PyProof.Rows hiding St
section
variable {X : Cx}
noncomputable def rIndex (K : PySem.W.Frag) : V → List V → Hp → VK → Prop := fun x vs H Q => ∃ (l : Addr) (ns : List Int) (k : Int), x = .ref l ∧ vs = [.int k] ∧ SqL K H l (ns.map V.int) ∧ k ∈ ns ∧ Q (.int (ns.idxOf k : Nat)) H
theorem idx_no {ns : List Int} {k : Int} : ∀ {j : Nat} (hj : j < ns.length), j < ns.idxOf k → ns[j] ≠ k := by
  induction ns with
  | nil => intro j hj; exact absurd hj (Nat.not_lt_zero _)
  | cons a r ih =>
    intro j hj h
    rw [List.idxOf_cons] at h
    by_cases e : (a == k) = true
    · rw [e] at h; exact absurd h (Nat.not_lt_zero _)
    · have e' : (a == k) = false := by cases q : (a == k) with | true => exact absurd q e | false => rfl
      rw [e'] at h
      cases j with
      | zero =>
        intro z
        simp only [List.getElem_cons_zero] at z
        rw [z] at e
        simp at e
      | succ j =>
        simp only [List.getElem_cons_succ]
        exact ih (by simpa using hj) (by simpa using h)
theorem mt_index : MtM X "list.index" (rIndex X.K) := by
  intro pins s σ H x vs v us Q I rx rv h
  obtain ⟨l, ns, k, rfl, rfl, hl, hk, q⟩ := h
  cases rx
  obtain ⟨u, rfl, t, rfl⟩ := rv.one
  obtain ⟨its, r, pl, hz⟩ := I.list hl
  obtain ⟨o, n, ho, hc, hdd, hd⟩ := pl
  obtain ⟨cls, dd, data, sl⟩ := o
  simp only at hc hdd hd
  subst hc hdd hd
  have hlen := r.length
  rw [List.length_map] at hlen
  have hj : ns.idxOf k < ns.length := List.idxOf_lt_length_iff.mpr hk
  have hs := sizeLine_eq
  have hz' : ns.length ≤ sizeLine := by rw [List.length_map] at hz; exact hz
  have flat : (ns.map V.int).all flatV = true := by simp [flatV]
  have at_ : ∀ j (h1 : j < its.length) (h2 : j < ns.length), eqU (.int k) its[j] = (ns[j] == k) := fun j h1 h2 => by
    obtain ⟨w, hw, rw'⟩ := r.get (i := j) (x := .int ns[j]) (by rw [List.getElem?_map, List.getElem?_eq_getElem h2]; rfl)
    rw [List.getElem?_eq_getElem h1] at hw
    rw [Option.some.inj hw, eqU_of rw' rfl]
    rfl
  refine call_meets PySem.F.slot_list_index ⟨_, ho, rfl⟩ PySem.F.entry_list_index (PySem.F.args_list_index_2 _ _)
    (SeqAt.list_indexAt l its.toArray n none sl (.int k t) (eqU (.int k)) (ns.idxOf k) (by simpa [← hlen] using hj) (by omega) ?_ ?_) ⟨ho, fun y hy => mem_eqAt (show RelV (.int k) (.int k t) from ⟨t, rfl⟩) rfl r flat y (by simpa using hy), ⟨.int _, H, I.tok _, ⟨_, rfl⟩, q⟩⟩
  · simp only [List.getElem_toArray]
    rw [at_ _ (by omega) hj]
    simpa using List.getElem_idxOf hj
  · intro j hjs hlt
    simp only [List.getElem_toArray]
    rw [at_ _ (by simpa using hjs) (by omega)]
    simpa using idx_no (by omega) hlt
/-- these addresses hold these tuples -/
noncomputable abbrev Tups (H : Hp) (kf : Addr → List Int) (rs : List Addr) : Prop := ∀ r ∈ rs, H r = some (.tup ((kf r).map V.int))
/-- t in xs, a tuple of ints in a list of such -/
noncomputable def rInT (K : PySem.W.Frag) (neg : Bool) : R2 := fun x y H Q => ∃ (a p : Addr) (rs : List Addr) (kf : Addr → List Int), x = .ref a ∧ y = .ref p ∧ SqL K H p (rs.map V.ref) ∧ Tups H kf rs ∧ H a = some (.tup ((kf a).map V.int)) ∧
  Q (.bl (if neg then !decide (kf a ∈ rs.map kf) else decide (kf a ∈ rs.map kf))) H
theorem ObjOk.there {P : Program} {w : World} {H : Hp} {h : Heap} {a : Addr} {o : HO} (x : ObjOk P w H h a o) : ∃ ob, h.get? a = some ob := by
  cases o with
  | lst xs => obtain ⟨_, _, _, _, e⟩ := x; exact ⟨_, e⟩
  | tup xs => obtain ⟨_, _, _, _, e, _⟩ := x; exact ⟨_, e⟩
  | dK kvs => obtain ⟨_, _, _, _, o, _, _, e, _⟩ := x; exact ⟨_, e⟩
  | dT kvs => obtain ⟨_, _, _, _, o, _, _, e, _⟩ := x; exact ⟨_, e⟩
  | set S n => obtain ⟨o, _, _, _, e, _⟩ := x; exact ⟨_, e⟩
  | ins C dx fs => obtain ⟨_, _, _, e, _⟩ := x; exact ⟨_, e⟩
  | own y => obtain ⟨_, e⟩ := x; exact ⟨_, e⟩
  | xd fs => obtain ⟨_, ⟨_, _, _, e, _⟩, _⟩ := x; exact ⟨_, e⟩
  | rng lo hi => obtain ⟨_, _, _, e⟩ := x; exact ⟨_, e⟩
  | frz ob u => obtain ⟨e, _⟩ := x; exact ⟨_, e⟩
  | tbl ps => exact ⟨_, (show h.get? a = some _ from x)⟩
  | met f y => exact ⟨_, (show h.get? a = some _ from x)⟩
  | ext φ => obtain ⟨_, ⟨_, e⟩, _⟩ := x; exact ⟨_, e⟩
end
end KS
end
section
set_option maxRecDepth 100000
set_option maxHeartbeats 4000000
set_option linter.all false
namespace KS
open PySem PySem.Spec L2
open PyProof.Rows hiding St
section
variable {X : Cx}
variable {K : PySem.W.Frag}
theorem ixL (hK : X.K = K) : IxR X (rIxL K) := hK ▸ ix_list
theorem ixT (hK : X.K = K) : IxR X (rIxT K) := hK ▸ ix_tup
end
end KS
end
section
set_option maxRecDepth 100000
set_option maxHeartbeats 4000000
set_option linter.all false
namespace KS
open PySem PySem.Spec L2
open PyProof.Rows hiding St
section
variable {X : Cx}
end
end KS
end
section
set_option maxRecDepth 100000
set_option maxHeartbeats 4000000
set_option linter.all false
namespace KS
open PySem PySem.Spec L2
open PyProof.Rows hiding St
section
variable {X : Cx} {K : PySem.W.Frag}
noncomputable def rLenS (K : PySem.W.Frag) : List V → Hp → VK → Prop := fun xs H Q => ∃ p ys, xs = [.ref p] ∧ (SqL K H p ys ∨ SqT K H p ys) ∧ Q (.int ys.length) H
theorem lenS (hK : X.K = K) : CallR X (.builtin "len") (rLenS K) := hK ▸ call_len_seq
noncomputable def rListS (K : PySem.W.Frag) : List V → Hp → VK → Prop := fun xs H Q => ∃ p ys, xs = [.ref p] ∧ (SqL K H p ys ∨ SqT K H p ys) ∧ ∀ l, H l = none → Q (.ref l) (upd H l (.lst ys))
theorem listS (hK : X.K = K) : CallR X (.type "list") (rListS K) := hK ▸ call_list_of
theorem piL {tg l : Expr} {tl : TE} (hK : X.K = K) (hl : PE X l tl) : PI X tg l (iList K tl) := hK ▸ pi_list hl
theorem slL (hK : X.K = K) : SlR X (rSlL K) := hK ▸ sl_list
theorem pgT {es : List Expr} {k n : Nat} {t : TGs} {pos : Pos} (hK : X.K = K) (hc : X.calm = true) (h : PGs X es t) (hn : (assignEach es X.env).length = n := by rfl) (hst : (assignEach es X.env).findIdx? (·.1) = none := by rfl) : PG X (.Tuple es k pos) (gTup K n t) := hK ▸ pg_tup hc h hn hst
variable {o e : Expr} {es : List Expr} {to : TE} {t : TA} {name : Str} {apos cpos : Pos} {T id : String} {r : V → List V → Hp → VK → Prop}
theorem peM (hK : X.K = K) (pa : PlainAttrs T) (slot : Slot T name id) (hty : typeOf (.builtin id) = pure (.type "method_descriptor")) (hm : MtR X id r) (ho : PE X o to) (ha : PA X (e :: es) t)
    (hbase : attributeBase o name X.env (eval o X.env) = eval o X.env := by rfl)
    (hfew : ((backTo cpos (starEach (e :: es) X.env)).all (fun x => !x.1) && (backToKw cpos (keywordEach [] X.env)).all (fun x => x.1.isSome)
      && decide ((e :: es).length + ([] : List Keyword).length + (if ([] : List Keyword).isEmpty then 0 else 1) < 30)) = true := by rfl)
    (hline : (apos.endLine == cpos.line) = true := by rfl) (hs : starEach (e :: es) X.env = (false, eval e X.env) :: starEach es X.env := by rfl) (hplain : (backTo cpos (starEach es X.env)).any (·.1) = false := by rfl) :
    PE X (.Call (.Attribute o name apos) (e :: es) [] cpos) (tBM K T r to t) := hK ▸ pe_bm pa slot hty hm ho ha hbase hfew hline hs hplain
end
end KS
end
section
set_option maxRecDepth 100000
set_option maxHeartbeats 4000000
set_option linter.all false
namespace KS
open PySem PySem.Spec L2
open PyProof.Rows hiding St
section
variable {X : Cx} {K : PySem.W.Frag}
end
end KS
end
section
set_option maxRecDepth 100000
set_option linter.all false
namespace KT
open PySem PySem.Builtin PySem.Builtin.Str PySem.StrLaws
end KT
end
section
set_option maxRecDepth 100000
set_option maxHeartbeats 4000000
set_option linter.all false
namespace KS
open PySem PySem.Spec L2
open PyProof.Rows hiding St
section
variable {X : Cx} {K : PySem.W.Frag}
/-- {e} of an f-string, an int -/
noncomputable def tFv (te : TE) : TE := fun σ H Q => te σ H fun v H1 => ∃ i : Int, v = .int i ∧ i.natAbs.log2 < 1920 ∧ Q (.str (Str.ofString (toString i))) H1
theorem pe_fv {e : Expr} {te : TE} {pos : Pos} (he : PE X e te) : PE X (.FormattedValue e (-1) none pos) (tFv te) := by
  intro pins s σ H Q I h
  refine wpAny_FormattedValue_plain (thn (he pins s σ H _ I h) fun v s1 ⟨x, H1, I1, r1, i, e1, hi, q⟩ => ?_)
  subst e1
  obtain ⟨t, rfl⟩ := r1
  exact wpAny_formatField_int hi ⟨.str _, H1, I1.tok _, ⟨_, rfl⟩, q⟩
/-- an f-string of parts -/
noncomputable def tJn : List TE → Str → TE
  | [], acc => fun _ H Q => Q (.str acc) H
  | t :: ts, acc => fun σ H Q => t σ H fun v H1 => ∃ y : Str, v = .str y ∧ (acc ++ y).length ≤ sizeLine ∧ tJn ts (acc ++ y) σ H1 Q
theorem joins_of : ∀ {es : List Expr} {ts : List TE}, Paired (PE X) es ts → ∀ (acc : Str) (pins : List (Addr × Obj)) (s : Shared) (σ : St) (H : Hp) (Q : VK), acc.length ≤ sizeLine → Inv X pins σ H s → tJn ts acc σ H Q →
    Joins (model X.prog X.w) X.A X.xe (evalEach es X.env) acc (fun out s₁ => out.length ≤ sizeLine ∧ EP X pins σ Q (.str out s₁.toks) { s₁ with toks := s₁.toks + 1 }) s := by
  intro es ts hp
  induction hp with
  | nil => intro acc pins s σ H Q hz I h; exact ⟨hz, .str acc, H, I.tok _, ⟨_, rfl⟩, h⟩
  | cons he _ ih =>
    intro acc pins s σ H Q hz I h
    show wpAny _ _ _ _ _ _
    refine thn (he pins s σ H _ I h) fun v s1 ⟨x, H1, I1, r1, y, e1, hy, q⟩ => ?_
    subst e1
    obtain ⟨t, rfl⟩ := r1
    exact ⟨y, t, rfl, hy, ih _ pins s1 σ H1 Q hy I1 q⟩
theorem pe_jn {v1 v2 : Expr} {rest : List Expr} {ts : List TE} {pos : Pos} (hp : Paired (PE X) (v1 :: v2 :: rest) ts) : PE X (.JoinedStr (v1 :: v2 :: rest) pos) (tJn ts Str.empty) := by
  intro pins s σ H Q I h
  exact wpAny_JoinedStr (joins_of hp Str.empty pins s σ H Q (by decide) I h)
end
end KS
end
section
set_option maxRecDepth 100000
set_option maxHeartbeats 4000000
set_option linter.all false
namespace KS
open PySem PySem.Spec L2
open PyProof.Rows hiding St
section
variable {X : Cx} {K : PySem.W.Frag}
end
end KS
end
section
set_option Elab.async false
set_option linter.all false
set_option maxRecDepth 100000
namespace L2
open PySem PySem.Spec PyProof.Rows
section
variable {κ : Type} [DecidableEq κ]
noncomputable def valV (kvs : List (κ × V)) (k : κ) : Option V := (kvs.find? fun kv => decide (kv.1 = k)).map (·.2)
/-- in its place, or at the end -/
noncomputable def putK (kvs : List (κ × V)) (k : κ) (v : V) : List (κ × V) :=
  if (kvs.any fun kv => decide (kv.1 = k)) = true then kvs.map (fun kv => if kv.1 = k then (kv.1, v) else kv) else kvs ++ [(k, v)]
theorem valV_pos {p : κ × V} {r : List (κ × V)} {k : κ} (e : p.1 = k) : valV (p :: r) k = some p.2 := by simp [valV, List.find?_cons, e]
theorem valV_neg {p : κ × V} {r : List (κ × V)} {k : κ} (e : ¬ p.1 = k) : valV (p :: r) k = valV r k := by simp [valV, List.find?_cons, e]
theorem valV_any (k : κ) : ∀ kvs : List (κ × V), (kvs.any fun kv => decide (kv.1 = k)) = (valV kvs k).isSome
  | [] => rfl
  | p :: r => by
    rw [List.any_cons]
    by_cases e : p.1 = k
    · simp only [valV_pos e, decide_eq_true e, Bool.true_or, Option.isSome_some]
    · rw [valV_neg e, decide_eq_false e, Bool.false_or]; exact valV_any k r
theorem valV_map (k j : κ) (y : V) : ∀ kvs : List (κ × V), valV (kvs.map fun kv => if kv.1 = k then (kv.1, y) else kv) j = (valV kvs j).map fun x => if j = k then y else x
  | [] => rfl
  | p :: r => by
    have ih := valV_map k j y r
    rw [List.map_cons]
    by_cases h : p.1 = k
    · rw [if_pos h]
      by_cases e : p.1 = j
      · rw [valV_pos (p := (p.1, y)) e, valV_pos e, Option.map_some, if_pos (e.symm.trans h)]
      · rw [valV_neg (p := (p.1, y)) e, valV_neg e, ih]
    · rw [if_neg h]
      by_cases e : p.1 = j
      · rw [valV_pos (p := p) e, valV_pos e, Option.map_some, if_neg (fun z => h (e.trans z))]
      · rw [valV_neg (p := p) e, valV_neg e, ih]
theorem valV_snoc (k j : κ) (y : V) : ∀ kvs : List (κ × V), valV kvs k = none → valV (kvs ++ [(k, y)]) j = if j = k then some y else valV kvs j
  | [], _ => by
    by_cases e : k = j
    · rw [if_pos e.symm]; exact valV_pos (p := (k, y)) e
    · rw [if_neg (fun z => e z.symm)]; exact valV_neg (p := (k, y)) e
  | p :: r, hn => by
    rw [List.cons_append]
    have hk : ¬ p.1 = k := fun z => by rw [valV_pos z] at hn; cases hn
    rw [valV_neg hk] at hn
    have ih := valV_snoc k j y r hn
    by_cases e : p.1 = j
    · rw [valV_pos e, valV_pos e, if_neg (fun z => hk (e.trans z))]
    · rw [valV_neg e, valV_neg e, ih]
theorem valV_put (kvs : List (κ × V)) (k j : κ) (y : V) : valV (putK kvs k y) j = if j = k then some y else valV kvs j := by
  unfold putK
  by_cases a : (kvs.any fun kv => decide (kv.1 = k)) = true
  · rw [if_pos a, valV_map]
    rw [valV_any] at a
    by_cases e : j = k
    · obtain ⟨x, hx⟩ := Option.isSome_iff_exists.mp a
      rw [if_pos e, e, hx, Option.map_some, if_pos rfl]
    · rw [if_neg e]
      cases valV kvs j with
      | none => rfl
      | some x => rw [Option.map_some, if_neg e]
  · rw [if_neg a]
    refine valV_snoc k j y kvs ?_
    rw [valV_any] at a
    cases q : valV kvs k with
    | none => rfl
    | some x => rw [q] at a; exact (a rfl).elim
theorem length_putK (kvs : List (κ × V)) (k : κ) (v : V) : (putK kvs k v).length ≤ kvs.length + 1 := by
  unfold putK
  split
  · rw [List.length_map]; omega
  · rw [List.length_append, List.length_cons, List.length_nil]; omega
theorem RelO.isSome_eq {o : Option V} {u : Option Value} (r : RelO o u) : o.isSome = u.isSome := by
  cases o with
  | none => cases u with
    | none => rfl
    | some _ => exact (show False from r).elim
  | some _ => cases u with
    | none => exact (show False from r).elim
    | some _ => rfl
/-- raw tables of the same keys -/
theorem KV.val {kvs : List (κ × V)} {vs : List (κ × Value)} (r : KV kvs vs) (k : κ) : RelO (valV kvs k) (valueAt vs k) := by
  unfold KV at r
  induction r with
  | nil => exact True.intro
  | @cons p q ps qs h t ih =>
    obtain ⟨h1, h2⟩ := h
    by_cases e : p.1 = k
    · have e' : q.1 = k := h1.symm.trans e
      have b : valueAt (q :: qs) k = some q.2 := by simp [valueAt, List.find?_cons, e']
      rw [valV_pos e, b]; exact h2
    · have e' : ¬ q.1 = k := fun z => e (h1.trans z)
      have b : valueAt (q :: qs) k = valueAt qs k := by simp [valueAt, List.find?_cons, e']
      rw [valV_neg e, b]; exact ih
theorem KV.any {kvs : List (κ × V)} {vs : List (κ × Value)} (r : KV kvs vs) (k : κ) : (kvs.any fun kv => decide (kv.1 = k)) = vs.any fun kv => decide (kv.1 = k) := by
  unfold KV at r
  induction r with
  | nil => rfl
  | cons h t ih => rw [List.any_cons, List.any_cons, ih, h.1]
theorem KV.repl {kvs : List (κ × V)} {vs : List (κ × Value)} (r : KV kvs vs) (k : κ) {y : V} {u : Value} (ry : RelV y u) :
    KV (kvs.map fun kv => if kv.1 = k then (kv.1, y) else kv) (vs.map fun kv => if kv.1 = k then (kv.1, u) else kv) := by
  unfold KV at r ⊢
  induction r with
  | nil => exact .nil
  | @cons p q ps qs h t ih =>
    rw [List.map_cons, List.map_cons]
    refine .cons ?_ ih
    obtain ⟨h1, h2⟩ := h
    by_cases e : p.1 = k
    · rw [if_pos e, if_pos (h1.symm.trans e)]; exact ⟨h1, ry⟩
    · rw [if_neg e, if_neg (fun z => e (h1.trans z))]; exact ⟨h1, h2⟩
theorem KV.put {kvs : List (κ × V)} {vs : List (κ × Value)} (r : KV kvs vs) (k : κ) {y : V} {u : Value} (ry : RelV y u) : KV (putK kvs k y) (stored vs k u) := by
  unfold putK stored
  rw [r.any k]
  by_cases e : (vs.any fun kv => decide (kv.1 = k)) = true
  · rw [if_pos e, if_pos e]; exact r.repl k ry
  · rw [if_neg e, if_neg e]; exact Paired.snoc r ⟨rfl, ry⟩
theorem KV.length {kvs : List (κ × V)} {vs : List (κ × Value)} (r : KV kvs vs) : kvs.length = vs.length := Paired.length r
end
theorem kV_is {P : Program} {w : World} {k : Key} {u : Value} (r : RelV (kV k) u) : (mixKind P w).is k u = true := by
  cases k with
  | inl i => obtain ⟨t, e⟩ := (show ∃ t, u = Value.int i t from r); subst e; exact mixKind_int P w i t
  | inr x => obtain ⟨t, e⟩ := (show ∃ t, u = Value.str x t from r); subst e; exact mixKind_str P w x t
theorem items_are {P : Program} {w : World} : ∀ {ks : List Key} {us : List Value}, Vals (ks.map kV) us → ItemsAre (mixKind P w) ks us
  | [], _, r => by rw [List.map_nil] at r; cases r; exact .nil
  | k :: ks, _, r => by
    rw [List.map_cons] at r
    cases r with
    | cons h t => exact .cons (kV_is h) (items_are t)
/-- raw entries of a dict with tuple keys -/
noncomputable abbrev KT (H : Hp) : List (List Key × V) → List (List Key × Addr × Value) → Prop := Paired fun p q => p.1 = q.1 ∧ H q.2.1 = some (.tup (p.1.map kV)) ∧ RelV p.2 q.2.2
theorem KT.val {H : Hp} {kvs : List (List Key × V)} {xs : List (List Key × Addr × Value)} (r : KT H kvs xs) (k : List Key) : RelO (valV kvs k) ((atKey xs k).map (·.2)) := by
  induction r with
  | nil => exact True.intro
  | @cons p q ps qs h t ih =>
    obtain ⟨h1, _, h2⟩ := h
    by_cases e : p.1 = k
    · have e' : q.1 = k := h1.symm.trans e
      have b : atKey (q :: qs) k = some q.2 := by simp [atKey, List.find?_cons, e']
      rw [valV_pos e, b]; exact h2
    · have e' : ¬ q.1 = k := fun z => e (h1.trans z)
      have b : atKey (q :: qs) k = atKey qs k := by simp [atKey, List.find?_cons, e']
      rw [valV_neg e, b]; exact ih
theorem KT.repl {H : Hp} {kvs : List (List Key × V)} {xs : List (List Key × Addr × Value)} (r : KT H kvs xs) (k : List Key) {y : V} {u : Value} (ry : RelV y u) :
    KT H (kvs.map fun kv => if kv.1 = k then (kv.1, y) else kv) (xs.map (putAt k u)) := by
  induction r with
  | nil => exact .nil
  | @cons p q ps qs h t ih =>
    rw [List.map_cons, List.map_cons]
    refine .cons ?_ ih
    obtain ⟨h1, h2, h3⟩ := h
    unfold putAt
    by_cases e : p.1 = k
    · rw [if_pos e, if_pos (h1.symm.trans e)]; exact ⟨h1, h2, ry⟩
    · rw [if_neg e, if_neg (fun z => e (h1.trans z))]; exact ⟨h1, h2, h3⟩
theorem KT.put {H : Hp} {kvs : List (List Key × V)} {xs : List (List Key × Addr × Value)} (r : KT H kvs xs) (k : List Key) {b : Addr} {y : V} {u : Value} (hb : H b = some (.tup (k.map kV))) (ry : RelV y u) :
    KT H (putK kvs k y) (storedH xs k b u) := by
  have e : (kvs.any fun kv => decide (kv.1 = k)) = (atKey xs k).isSome := by
    rw [valV_any, (r.val k).isSome_eq, Option.isSome_map]
  unfold putK storedH
  rw [e]
  by_cases q : (atKey xs k).isSome = true
  · rw [if_pos q, if_pos q]; exact r.repl k ry
  · rw [if_neg q, if_neg q]; exact Paired.snoc r ⟨rfl, hb, ry⟩
theorem KT.keeps {H H' : Hp} {kvs : List (List Key × V)} {xs : List (List Key × Addr × Value)} (r : KT H kvs xs) (ht : ∀ b ys, H b = some (.tup ys) → H' b = some (.tup ys)) : KT H' kvs xs :=
  Paired.mapP r fun _ _ z => ⟨z.1, ht _ _ z.2.1, z.2.2⟩
section
variable {P : Program} {w : World} {H : Hp} {h : Heap} {a : Addr}
theorem rd_of {u : HO} (ok : HOk P w H h) (e : Rd H a u) : ObjOk P w H h a u := e.ok ok
theorem dk_rd {kvs : List (Key × V)} (ok : HOk P w H h) (e : Rd H a (.dK kvs)) : kvs.length ≤ sizeLine ∧ (a == sysModules) = false ∧ ∃ vs, KV kvs vs ∧ h.DictOf (mixKind P w) a vs :=
  show ObjOk P w H h a (.dK kvs) from rd_of ok e
theorem dk_of {kvs : List (Key × V)} (ok : HOk P w H h) (e : H a = some (.dK kvs)) : kvs.length ≤ sizeLine ∧ (a == sysModules) = false ∧ ∃ vs, KV kvs vs ∧ h.DictOf (mixKind P w) a vs := dk_rd ok (.inl e)
/-- a tracked tuple of ints and texts is a key -/
theorem key_of {ks : List Key} (ok : HOk P w H h) (e : H a = some (.tup (ks.map kV))) : (tupleKind (mixKind P w)).is h ks a := by
  obtain ⟨_, its, r, o, h1, h2, n, h3⟩ := (show ObjOk P w H h a (.tup (ks.map kV)) from ok a _ e)
  exact ⟨o, its.toArray, n, h1, h2, h3, by simpa using items_are r⟩
theorem dt_rd {kvs : List (List Key × V)} (ok : HOk P w H h) (e : Rd H a (.dT kvs)) : kvs.length ≤ sizeLine ∧ (a == sysModules) = false ∧
    ∃ xs, KT H kvs xs ∧ h.DictOfH (tupleKind (mixKind P w)) a xs := by
  obtain ⟨z, y, xs, r, o, es, ep, h1, h2, h3, h4, h5⟩ := (show ObjOk P w H h a (.dT kvs) from rd_of ok e)
  refine ⟨z, y, xs, r, o, es, ep, h1, h2, h3, h4, fun x hx => ?_, h5⟩
  have all : ∀ {l : List (List Key × V)} {m : List (List Key × Addr × Value)}, KT H l m → ∀ x ∈ m, (tupleKind (mixKind P w)).is h x.1 x.2.1 := by
    intro l m q
    induction q with
    | nil => intro x hx; exact nomatch hx
    | @cons p q ps qs hq t ih =>
      intro x hx
      rcases List.mem_cons.mp hx with e | hx
      · subst e
        exact key_of ok (by rw [← hq.1]; exact hq.2.1)
      · exact ih x hx
  exact all r x hx
theorem dt_of {kvs : List (List Key × V)} (ok : HOk P w H h) (e : H a = some (.dT kvs)) : kvs.length ≤ sizeLine ∧ (a == sysModules) = false ∧
    ∃ xs, KT H kvs xs ∧ h.DictOfH (tupleKind (mixKind P w)) a xs := dt_rd ok (.inl e)
end
/-- what the dict at a holds at the key y -/
noncomputable def DGet (H : Hp) (a : Addr) (y : V) (r : Option V) : Prop :=
  (∃ kvs k, Rd H a (.dK kvs) ∧ y = kV k ∧ r = valV kvs k) ∨ ∃ kvs k b, Rd H a (.dT kvs) ∧ y = .ref b ∧ H b = some (.tup (k.map kV)) ∧ r = valV kvs k
/-- the heap behind a[y] = v -/
noncomputable def DPut (H : Hp) (a : Addr) (y v : V) (H' : Hp) : Prop :=
  (∃ kvs k, H a = some (.dK kvs) ∧ y = kV k ∧ kvs.length < sizeLine ∧ H' = upd H a (.dK (putK kvs k v))) ∨
  ∃ kvs k b, H a = some (.dT kvs) ∧ y = .ref b ∧ H b = some (.tup (k.map kV)) ∧ kvs.length < sizeLine ∧ H' = upd H a (.dT (putK kvs k v))
theorem DGet.k {H : Hp} {a : Addr} {kvs : List (Key × V)} {k : Key} (e : H a = some (.dK kvs)) : DGet H a (kV k) (valV kvs k) := .inl ⟨kvs, k, .inl e, rfl, rfl⟩
theorem DPut.k {H : Hp} {a : Addr} {kvs : List (Key × V)} {k : Key} {v : V} (e : H a = some (.dK kvs)) (hl : kvs.length < sizeLine) : DPut H a (kV k) v (upd H a (.dK (putK kvs k v))) := .inl ⟨kvs, k, e, rfl, hl, rfl⟩
section
variable {X : Cx} {pins : List (Addr × Obj)} {σ : St} {H : Hp} {s : Shared} {a : Addr} {y v : V} {u r : Value} {o : Option V} {A : Around} {E : Value → Shared → Prop}
theorem Inv.big (I : Inv X pins σ H s) : sysModules < s.heap.objs.size := by
  have h : mainGlobals < s.heap.objs.size := (I.mod.glob.keeps I.bk).lt
  exact Nat.lt_trans (by decide) h
/-- d[y], there -/
theorem d_getItem {Q : Value → Shared → Prop} (hu : A.units + 1 < cLine) (I : Inv X pins σ H s) (g : DGet H a y (some v)) (ry : RelV y u) (h : ∀ w' s', Inv X pins σ H s' → RelV v w' → Q w' s') :
    wpAny (model X.prog X.w) A (getItem (.ref a) u) Q E s := by
  rcases g with ⟨kvs, k, e, ey, l⟩ | ⟨kvs, k, b, e, ey, eb, l⟩
  · subst ey
    obtain ⟨z, hd, vs, rel, dd⟩ := dk_rd I.hok e
    obtain ⟨w', hw, rw'⟩ := RelO.some_of (v := v) (o := valueAt vs k) (by rw [l]; exact rel.val k)
    exact wpAny_getItem_of (kV_is ry) dd.mapOf hw (h w' _ (I.tok _) rw')
  · subst ey
    cases (show u = Value.ref b from ry)
    obtain ⟨z, hd, xs, rel, dd⟩ := dt_rd I.hok e
    obtain ⟨w', hw, rw'⟩ := RelO.some_of (v := v) (o := (atKey xs k).map (·.2)) (by rw [l]; exact rel.val k)
    obtain ⟨p, hp, hp2⟩ := Option.map_eq_some_iff.mp hw
    refine wpAny_getItem_heap (tupleKind_room_in1 hu) (key_of I.hok eb) dd hp ?_
    rw [hp2]
    exact h w' _ (I.tok _) rw'
/-- a dict's object is replaced -/
theorem d_write {h' : Heap} {t' : Nat} {ob : HO} (I : Inv X pins σ H s) (mu : Mut (H a)) (hs : Heap.SameBut a s.heap h') (he : ∃ q, h'.get? a = some q) (new : ObjOk X.prog X.w (upd H a ob) h' a ob) :
    Inv X pins σ (upd H a ob) { s with heap := h', toks := t' } :=
  I.write (x := a) (e := a) mu (.inl rfl) (fun b q hb z => (hs.2 b hb).trans z) he new
theorem dk_new {P : Program} {w : World} {H' : Hp} {h' : Heap} {kvs : List (Key × V)} {vs : List (Key × Value)} (z : kvs.length ≤ sizeLine) (hd : (a == sysModules) = false) (rel : KV kvs vs) (dd : h'.DictOf (mixKind P w) a vs) :
    ObjOk P w H' h' a (.dK kvs) := ⟨z, hd, vs, rel, dd⟩
/-- d[y] = v -/
theorem d_setItem {H' : Hp} {Q : Unit → Shared → Prop} (hu : A.units + 1 < cLine) (I : Inv X pins σ H s) (g : DPut H a y v H') (ry : RelV y u) (rv : RelV v r) (h : ∀ s', Inv X pins σ H' s' → Q () s') :
    wpAny (model X.prog X.w) A (setItem (.ref a) u r) Q E s := by
  rcases g with ⟨kvs, k, e, ey, l, eH⟩ | ⟨kvs, k, b, e, ey, eb, l, eH⟩
  · subst ey eH
    obtain ⟨z, hd, vs, rel, dd⟩ := dk_of I.hok e
    have hz : vs.length ≤ sizeLine := by rw [← rel.length]; exact z
    have hl : (putK kvs k v).length ≤ sizeLine := by have := length_putK kvs k v; omega
    refine wpAny_setItem_pairs (hsz := hz) (kV_is ry) dd fun h' dd' hs => h _ ?_
    have he : ∃ q, h'.get? a = some q := let ⟨q, _, _, hq, _⟩ := dd'; ⟨q, hq⟩
    exact d_write I (by rw [e]; exact True.intro) hs he (dk_new hl hd (rel.put k rv) dd')
  · subst ey eH
    cases (show u = Value.ref b from ry)
    obtain ⟨z, hd, xs, rel, dd⟩ := dt_of I.hok e
    have hz : xs.length ≤ sizeLine := by rw [← Paired.length rel]; exact z
    have hl : (putK kvs k v).length ≤ sizeLine := by have := length_putK kvs k v; omega
    refine wpAny_setItem_heap (hsz := hz) (tupleKind_room_in1 hu) (key_of I.hok eb) dd fun h' dd' hs => h _ ?_
    obtain ⟨q, es, ep, hq, h2, h3, h4, _, h5⟩ := dd'
    refine d_write I (by rw [e]; exact True.intro) hs ⟨q, hq⟩ ⟨hl, hd, _, (rel.put k eb rv).keeps fun c ys ec => ?_, q, es, ep, hq, h2, h3, h4, h5⟩
    rw [upd_ne (ne_of ec e (fun z => nomatch z))]
    exact ec
end
section
variable {X : Cx} {pins : List (Addr × Obj)} {σ : St} {H : Hp} {s : Shared} {a : Addr} {kvs : List (Key × V)} {k : Key} {u : Value} {A : Around} {E : Value → Shared → Prop}
end
/-- the element of a subscription, not a slice -/
noncomputable def NoSl (i : Expr) : Prop := ∀ ov iv, subscripted i false ov iv = operate [ov, iv] (getItem ov iv)
theorem subD_of {prog : Program} {w : World} {A : Around} {E : Value → Shared → Prop} {s : Shared} {env : Env} {value slice : Expr} {pos : Pos} {T id : String} {Q : Value → Shared → Prop}
    (hl : typeLookup (.type T) "__getitem__" = pure (some (.builtin id))) (hs : NoSl slice)
    (h : wpAny (model prog w) A (eval value env) (fun o s₁ => wpAny (model prog w) A (eval slice env) (fun i s₂ => s₂.TypeIs o T ∧ wpAny (model prog w) A (getItem o i) Q E s₂) E s₁) E s) :
    wpAny (model prog w) A (eval (.Subscript value slice pos) env) Q E s := by
  refine Subscript_ (wpAny_mono h (fun o s₁ h₁ => wpAny_mono h₁ (fun i s₂ h₂ => ?_) fun _ _ x => x) fun _ _ x => x)
  obtain ⟨hT, h₂⟩ := h₂
  unfold subscriptTail
  refine wpAny_bind ?_
  rw [getitemInPython_of_ne hT.not_modules]
  refine wpAny_bind (wpAny_specialOf hT hl ?_)
  have fin : wpAny (model prog w) A (subscripted slice false o i) (fun r s₃ => wpAny (model prog w) A (letTemporaryGo value o r >>= fun _ => pure r) Q E s₃) E s₂ := by
    rw [hs o i]
    exact wpAny_operating (wpAny_mono h₂ (fun r s₃ h₃ => wpAny_bind (wpAny_letTemporaryGo (wpAny_pure h₃))) fun _ _ x => x)
  first
    | exact wpAny_pure (wpAny_bind fin)
    | exact wpAny_bind (wpAny_pure (wpAny_bind fin))
    | exact wpAny_bind fin
theorem dict_typeIs {X : Cx} {pins : List (Addr × Obj)} {σ : St} {H : Hp} {s : Shared} {a : Addr} {y : V} {o : Option V} (I : Inv X pins σ H s) (g : DGet H a y o) : s.TypeIs (.ref a) "dict" := by
  rcases g with ⟨kvs, k, e, _, _⟩ | ⟨kvs, k, b, e, _, _, _⟩
  · obtain ⟨_, _, vs, _, dd⟩ := dk_rd I.hok e
    exact dd.typeIs
  · obtain ⟨_, _, xs, _, dd⟩ := dt_rd I.hok e
    exact dd.typeIs
/-- d[y] -/
noncomputable def tDGet (td ty : TE) : TE := fun σ H Q => td σ H fun x H1 => ty σ H1 fun y H2 => ∃ a v, x = .ref a ∧ DGet H2 a y (some v) ∧ Q v H2
/-- d[y] = v -/
noncomputable def sDPut (td ty tv : TE) : TS := fun D σ H => tv σ H fun v H1 => td σ H1 fun x H2 => ty σ H2 fun y H3 => ∃ a H4, x = .ref a ∧ DPut H3 a y v H4 ∧ D.nx σ H4
section
variable {X : Cx} {o i e value : Expr} {pos pos' tpos : Pos} {td ty tv : TE}
theorem pe_dget (hu : X.A.units + 1 < cLine) (ho : PE X o td) (hi : PE X i ty) (hs : NoSl i) : PE X (.Subscript o i pos) (tDGet td ty) := by
  intro pins s σ H Q I h
  refine subD_of PySem.F.slot_dict_getitem.lookup hs (thn (ho pins s σ H _ I h) fun u s1 ⟨x, H1, I1, rx, q1⟩ => thn (hi pins s1 σ H1 _ I1 q1) fun iv s2 ⟨y, H2, I2, ry, a, v, ex, g, q2⟩ => ?_)
  subst ex
  obtain rfl : u = Value.ref a := rx
  exact ⟨dict_typeIs I2 g, d_getItem hu I2 g ry fun w' s3 I3 rw' => ⟨v, H2, I3, rw', q2⟩⟩
theorem ps_dput (hu : X.A.units + 1 < cLine) (ho : PE X o td) (hi : PE X i ty) (hv : PE X value tv) (hs : swapsWith value (some (.Subscript o i pos')) pos.line X.env = pure false) :
    PS X (.Assign [.Subscript o i pos'] value pos) (sDPut td ty tv) := by
  intro pins s σ H D I h
  refine wpAny_Assign_Subscript (thn (hv pins s σ H _ I h) fun r s1 ⟨v, H1, I1, rv, q1⟩ => thn (ho pins s1 σ H1 _ I1 q1) fun u s2 ⟨x, H2, I2, rx, q2⟩ => thn (hi pins s2 σ H2 _ I2 q2) fun iv s3 ⟨y, H3, I3, ry, a, H4, ex, g, q3⟩ => ?_) hs
  subst ex
  obtain rfl : u = Value.ref a := rx
  exact d_setItem hu I3 g ry rv fun s4 I4 => ⟨σ, H4, I4, q3⟩
end
theorem dk_empty {P : Program} {w : World} {H : Hp} (h : Heap) (hb : sysModules < h.objs.size) : ObjOk P w H (h.push { cls := .type "dict", data := .dict #[] }) h.objs.size (.dK []) :=
  ⟨Nat.zero_le _, beq_eq_false_iff_ne.mpr (Ne.symm (Nat.ne_of_lt hb)), [], .nil, Heap.DictOf.new h⟩
/-- {}, to be a dict of the kind that is wanted -/
noncomputable def tDNewK : TE := fun _ H Q => ∀ p, H p = none → Q (.ref p) (upd H p (.dK []))
section
variable {X : Cx} {pos : Pos}
theorem pe_dnewK : PE X (.Dict [] [] pos) tDNewK := fun pins s σ H Q I h =>
  wpAny_Dict_empty ⟨.ref s.heap.objs.size, _, I.laid (a := s.heap.objs.size) (o := .dK []) (t' := s.toks) (fun _ _ q => Heap.get?_push_of_some _ q) (Nat.le_refl _) (dk_empty s.heap I.big), rfl, h _ (I.hok.fresh (Nat.le_refl _))⟩
end
section
variable {X : Cx} {pins : List (Addr × Obj)} {σ : St} {H : Hp} {s : Shared} {a : Addr} {y d : V} {u r : Value} {o : Option V} {A : Around} {E : Value → Shared → Prop}
end
section
variable {X : Cx} {o e f : Expr} {apos cpos : Pos} {td ty tx : TE}
end
section
variable {X : Cx} {pins : List (Addr × Obj)} {σ : St} {H : Hp} {s : Shared} {a : Addr} {kvs : List (Key × V)} {A : Around} {E : Value → Shared → Prop}
end
section
variable {X : Cx} {pins : List (Addr × Obj)} {σ : St} {H : Hp} {s : Shared} {a : Addr} {y : V} {u : Value} {A : Around} {E : Value → Shared → Prop}
end
end L2
end
section
set_option Elab.async false
set_option maxRecDepth 100000
set_option linter.all false
namespace L2
open PySem PySem.Spec PyProof.Rows
section
variable {X : Cx}
noncomputable def tCut (t : TS) : TS := fun D σ H => ∃ N : St → Hp → Prop, t { D with nx := N } σ H ∧ ∀ σ' H', N σ' H' → D.nx σ' H'
theorem ps_cut {st : Stmt} {t : TS} (h : PS X st t) : PS X st (tCut t) := by
  intro pins s σ H D I ⟨N, h1, h2⟩
  refine thn (h pins s σ H { D with nx := N } I h1) fun f s1 q => ?_
  cases f with
  | next =>
    obtain ⟨σ', H', I', q⟩ := q
    exact ⟨σ', H', I', h2 σ' H' q⟩
  | ret v => exact q
  | brk => exact q
  | cont => exact q
end
end L2
end
section
set_option maxRecDepth 100000
set_option maxHeartbeats 4000000
set_option linter.all false
namespace KS
open PySem PySem.Spec L2
open PyProof.Rows hiding St
/-- two sequences of one kind -/
noncomputable def Sq2 (K : PySem.W.Frag) (H : Hp) (a c : Addr) (xs ys : List V) : Prop := (SqL K H a xs ∧ SqL K H c ys) ∨ (SqT K H a xs ∧ SqT K H c ys)
noncomputable def allE (e : Nat → Bool) (n m : Nat) : Bool := (List.range (min n m)).all e && n == m
/-- x == y comes out as b, n deep -/
noncomputable def EqD (K : PySem.W.Frag) (H : Hp) : Nat → V → V → Bool → Prop
  | 0, x, y, b => (x = y ∧ (∃ a, x = .ref a) ∧ b = true) ∨ (flatV x = true ∧ flatV y = true ∧ b = eqV x y)
  | n + 1, x, y, b => EqD K H n x y b ∨ ∃ a c xs ys e, x = .ref a ∧ y = .ref c ∧ a ≠ c ∧ Sq2 K H a c xs ys ∧ (∀ (j : Nat) (x y : V), xs[j]? = some x → ys[j]? = some y → EqD K H n x y (e j)) ∧ b = allE e xs.length ys.length
section
variable {X : Cx} {pins : List (Addr × Obj)} {σ : St} {H : Hp} {s : Shared}
theorem get_of {xs : List V} {us : List Value} (r : Vals xs us) {j : Nat} (hj : j < us.toArray.size) : ∃ x, xs[j]? = some x ∧ RelV x us.toArray[j] := by
  have hl : us.length = xs.length := r.length.symm
  have hj' : j < us.length := by simpa using hj
  have hx : j < xs.length := by omega
  obtain ⟨u, hu, ru⟩ := r.get (i := j) (x := xs[j]) (by simp [hx])
  refine ⟨xs[j], by simp [hx], ?_⟩
  rw [List.getElem?_eq_getElem hj'] at hu
  rw [List.getElem_toArray, Option.some.inj hu]
  exact ru
theorem seq_rc {A : Around} {n : Nat} {a c : Addr} {xs ys : List V} {e : Nat → Bool} (I : Inv X pins σ H s) (hu : A.units < cLine) (h2 : Sq2 X.K H a c xs ys)
    (he : ∀ (j : Nat) (x y : V) (u v : Value), xs[j]? = some x → ys[j]? = some y → RelV x u → RelV y v → SeqAt.EqAt A.in1 s u v (e j)) : SeqAt.RcAt A s (.ref a) (.ref c) (allE e xs.length ys.length) := by
  rcases h2 with ⟨ha, hc⟩ | ⟨ha, hc⟩
  · obtain ⟨its, r, pa, _⟩ := I.list ha
    obtain ⟨its2, r2, pc, _⟩ := I.list hc
    have l1 : xs.length = its.toArray.size := by simpa using r.length
    have l2 : ys.length = its2.toArray.size := by simpa using r2.length
    by_cases hl : its.toArray.size = its2.toArray.size
    · have e1 : allE e xs.length ys.length = (List.range its.toArray.size).all e := by
        unfold allE
        rw [l1, l2, ← hl, Nat.min_self]
        simp
      rw [e1]
      refine SeqAt.RcAt.lists pa.isList pc.isList hl hu fun j h1 h2 => ?_
      obtain ⟨x, hx, rx⟩ := get_of r h1
      obtain ⟨y, hy, ry⟩ := get_of r2 h2
      exact he j x y _ _ hx hy rx ry
    · have e1 : allE e xs.length ys.length = false := by
        unfold allE
        rw [l1, l2]
        simp only [Bool.and_eq_false_iff]
        right
        simpa using hl
      rw [e1]
      exact SeqAt.RcAt.lists_lengths pa.isList pc.isList (by simpa using hl) hu
  · obtain ⟨its, r, pa, _⟩ := I.tuple ha
    obtain ⟨its2, r2, pc, _⟩ := I.tuple hc
    have l1 : xs.length = its.toArray.size := by simpa using r.length
    have l2 : ys.length = its2.toArray.size := by simpa using r2.length
    unfold allE
    rw [l1, l2]
    refine SeqAt.RcAt.tuples (show s.heap.IsTuple a its.toArray from pa) (show s.heap.IsTuple c its2.toArray from pc) hu fun j h1 h2 => ?_
    obtain ⟨x, hx, rx⟩ := get_of r h1
    obtain ⟨y, hy, ry⟩ := get_of r2 h2
    exact he j x y _ _ hx hy rx ry
theorem seq_ne {A : Around} {n : Nat} {a c : Addr} {xs ys : List V} {e : Nat → Bool} (I : Inv X pins σ H s) (hu : A.units < cLine) (h2 : Sq2 X.K H a c xs ys)
    (he : ∀ (j : Nat) (x y : V) (u v : Value), xs[j]? = some x → ys[j]? = some y → RelV x u → RelV y v → SeqAt.EqAt A.in1 s u v (e j)) : SeqAt.RcNeAt A s (.ref a) (.ref c) (!allE e xs.length ys.length) := by
  rcases h2 with ⟨ha, hc⟩ | ⟨ha, hc⟩
  · obtain ⟨its, r, pa, _⟩ := I.list ha
    obtain ⟨its2, r2, pc, _⟩ := I.list hc
    have l1 : xs.length = its.toArray.size := by simpa using r.length
    have l2 : ys.length = its2.toArray.size := by simpa using r2.length
    by_cases hl : its.toArray.size = its2.toArray.size
    · have e1 : allE e xs.length ys.length = (List.range its.toArray.size).all e := by
        unfold allE
        rw [l1, l2, ← hl, Nat.min_self]
        simp
      rw [e1]
      refine SeqAt.RcNeAt.lists pa.isList pc.isList hl hu fun j h1 h2 => ?_
      obtain ⟨x, hx, rx⟩ := get_of r h1
      obtain ⟨y, hy, ry⟩ := get_of r2 h2
      exact he j x y _ _ hx hy rx ry
    · have e1 : allE e xs.length ys.length = false := by
        unfold allE
        rw [l1, l2]
        simp only [Bool.and_eq_false_iff]
        right
        simpa using hl
      rw [e1]
      exact SeqAt.RcNeAt.lists_lengths pa.isList pc.isList (by simpa using hl) hu
  · obtain ⟨its, r, pa, _⟩ := I.tuple ha
    obtain ⟨its2, r2, pc, _⟩ := I.tuple hc
    have l1 : xs.length = its.toArray.size := by simpa using r.length
    have l2 : ys.length = its2.toArray.size := by simpa using r2.length
    unfold allE
    rw [l1, l2]
    refine SeqAt.RcNeAt.tuples (show s.heap.IsTuple a its.toArray from pa) (show s.heap.IsTuple c its2.toArray from pc) hu fun j h1 h2 => ?_
    obtain ⟨x, hx, rx⟩ := get_of r h1
    obtain ⟨y, hy, ry⟩ := get_of r2 h2
    exact he j x y _ _ hx hy rx ry
theorem eqD_at (I : Inv X pins σ H s) : ∀ (n : Nat) (A : Around) (x y : V) (u v : Value) (b : Bool), A.units + n < cLine → EqD X.K H n x y b → RelV x u → RelV y v → SeqAt.EqAt A s u v b
  | 0, A, x, y, u, v, b, hu, h, rx, ry => by
    rcases h with ⟨rfl, ⟨a, rfl⟩, rfl⟩ | ⟨h1, h2, rfl⟩
    · cases rx
      cases ry
      exact SeqAt.EqAt.same _
    · exact eqAt_V rx ry h1 h2
  | n + 1, A, x, y, u, v, b, hu, h, rx, ry => by
    rcases h with h | ⟨a, c, xs, ys, e, rfl, rfl, hne, h2, he, rfl⟩
    · exact eqD_at I n A x y u v b (by omega) h rx ry
    · cases rx
      cases ry
      refine SeqAt.EqAt.of_refs hne (seq_rc (n := n) I (by omega) h2 fun j x y u v hx hy rx ry => ?_)
      exact eqD_at I n A.in1 x y u v (e j) (by show A.units + 1 + n < cLine; omega) (he j x y hx hy) rx ry
end
section
variable {X : Cx}
/-- xs == ys, sequences of one kind, their items n deep -/
noncomputable def rEqS (K : PySem.W.Frag) (neg : Bool) (n : Nat) : R2 := fun x y H Q => ∃ a c xs ys e, x = .ref a ∧ y = .ref c ∧ Sq2 K H a c xs ys ∧ (∀ (j : Nat) (x y : V), xs[j]? = some x → ys[j]? = some y → EqD K H n x y (e j)) ∧ Q (.bl (if neg then !allE e xs.length ys.length else allE e xs.length ys.length)) H
theorem op_eqS {n : Nat} (hu : X.A.units + n + 1 < cLine) : OpR X (compareOp .Eq) (rEqS X.K false n) := by
  intro pins s σ H x y v u Q I rx ry h
  obtain ⟨a, c, xs, ys, e, rfl, rfl, h2, he, q⟩ := h
  cases rx
  cases ry
  exact seq_rc (n := n) I (by omega) h2 (fun j x y u v hx hy rx ry => eqD_at I n X.A.in1 x y u v (e j) (by show X.A.units + 1 + n < cLine; omega) (he j x y hx hy) rx ry) _ _ _ _ ⟨.bl _, H, I, rfl, q⟩
theorem op_neS {n : Nat} (hu : X.A.units + n + 1 < cLine) : OpR X (compareOp .NotEq) (rEqS X.K true n) := by
  intro pins s σ H x y v u Q I rx ry h
  obtain ⟨a, c, xs, ys, e, rfl, rfl, h2, he, q⟩ := h
  cases rx
  cases ry
  exact seq_ne (n := n) I (by omega) h2 (fun j x y u v hx hy rx ry => eqD_at I n X.A.in1 x y u v (e j) (by show X.A.units + 1 + n < cLine; omega) (he j x y hx hy) rx ry) _ _ _ _ ⟨.bl _, H, I, rfl, q⟩
end
theorem allE_true {xs ys : List V} (h : xs.length = ys.length) : allE (fun _ => true) xs.length ys.length = true := by
  unfold allE
  simp [h]
noncomputable def EqT (K : PySem.W.Frag) (H : Hp) (n : Nat) (x y : V) : Prop := EqD K H n x y true
theorem EqT.flat {K : PySem.W.Frag} {H : Hp} {n : Nat} {x : V} (h : flatV x = true) (he : eqV x x = true) : EqT K H n x x := by
  induction n with
  | zero => exact .inr ⟨h, h, he.symm⟩
  | succ n ih => exact .inl ih
theorem rEqS.true {K : PySem.W.Frag} {H : Hp} {n : Nat} {a c : Addr} {xs ys : List V} {neg : Bool} {Q : VK} (h2 : Sq2 K H a c xs ys) (h : Paired (EqT K H n) xs ys) (q : Q (.bl (!neg)) H) : rEqS K neg n (.ref a) (.ref c) H Q := by
  refine ⟨a, c, xs, ys, fun _ => Bool.true, rfl, rfl, h2, fun j x y hx hy => ?_, ?_⟩
  · clear h2
    induction h generalizing j with
    | nil => simp at hx
    | cons r t ih =>
      cases j with
      | zero => simp at hx hy; subst hx; subst hy; exact r
      | succ j => exact ih j (by simpa using hx) (by simpa using hy)
  · rw [allE_true (Paired.length h)]
    cases neg <;> exact q
end KS
end
section
set_option maxRecDepth 100000
set_option maxHeartbeats 4000000
set_option linter.all false
namespace KS
open PySem KsTab PyProof.Rows
section
variable {prog : Program} {w : World} {A : Around} {E : Value → Shared → Prop} {s : Shared}
end
end KS
end
section
set_option maxRecDepth 100000
set_option maxHeartbeats 4000000
set_option linter.all false
namespace KS
open PySem KsTab PyProof.Rows
section
variable {prog : Program} {w : World} {A : Around} {E : Value → Shared → Prop} {s : Shared}
set_option maxHeartbeats 8000000 in
end
section
open L2
variable {X : Cx}
end
end KS
end
section
set_option maxRecDepth 100000
set_option maxHeartbeats 4000000
set_option linter.all false
namespace KS
open PySem PySem.Spec L2
open PyProof.Rows hiding St
section
variable {X : Cx} {pins : List (Addr × Obj)} {σ : St} {H : Hp} {s : Shared} {h' : Heap}
end
section
variable {X : Cx}
end
end KS
end
section
set_option maxRecDepth 100000
set_option maxHeartbeats 4000000
set_option linter.all false
namespace KS
open PySem PySem.Calls PyProof.Rows PySem.Spec
section
variable {prog : Program} {w : World} {A : Around} {E : Value → Shared → Prop} {s : Shared}
end
end KS
end
section
set_option maxRecDepth 100000
set_option maxHeartbeats 4000000
set_option linter.all false
namespace KS
open PySem PySem.Calls PyProof.Rows PySem.Spec
section
variable {prog : Program} {w : World} {A : Around} {E : Value → Shared → Prop} {s : Shared}
end
end KS
end
section
set_option maxRecDepth 100000
set_option maxHeartbeats 4000000
set_option linter.all false
namespace KS
open PySem PySem.Spec L2
open PyProof.Rows hiding St
section
variable {X : Cx} {pins : List (Addr × Obj)} {σ : St} {H : Hp} {s : Shared} {h' : Heap}
end
section
variable {X : Cx}
end
end KS
end
section
set_option maxRecDepth 100000
namespace KP
/-- a round: not empty, no thing twice, each better than the next one, the last one than the first -/
structure Rnd (r : Nat → Nat → Prop) (c : List Nat) : Prop where
  ne : c ≠ []
  nd : c.Nodup
  st : ∀ (i : Nat) (x y : Nat), c[i]? = some x → c[i + 1]? = some y → r x y
  cl : ∀ (x y : Nat), c[c.length - 1]? = some x → c[0]? = some y → r x y
/-- each of these is better than one of these -/
noncomputable def Fwd (r : Nat → Nat → Prop) (C : List Nat) : Prop := ∀ x ∈ C, ∃ y ∈ C, r x y
theorem Rnd.fwd {r : Nat → Nat → Prop} {c : List Nat} (h : Rnd r c) : Fwd r c := by
  intro x hx
  obtain ⟨i, hi⟩ := List.getElem?_of_mem hx
  have hl := (List.getElem?_eq_some_iff.mp hi).1
  by_cases hn : i + 1 < c.length
  · exact ⟨c[i + 1], List.getElem_mem hn, h.st i x _ hi (by simp [hn])⟩
  · have e : i = c.length - 1 := by omega
    have h0 : 0 < c.length := by omega
    exact ⟨c[0], List.getElem_mem h0, h.cl x _ (e ▸ hi) (by simp [h0])⟩
theorem sub_len {α : Type} [DecidableEq α] : ∀ {l m : List α}, l.Nodup → (∀ x ∈ l, x ∈ m) → l.length ≤ m.length
  | [], _, _, _ => Nat.zero_le _
  | a :: l, m, nd, h => by
    have ha := h a List.mem_cons_self
    have nd' := List.nodup_cons.mp nd
    have := sub_len (l := l) (m := m.erase a) nd'.2 fun x hx => by
      have hne : x ≠ a := fun e => nd'.1 (e ▸ hx)
      exact (List.mem_erase_of_ne hne).mpr (h x (List.mem_cons_of_mem _ hx))
    rw [List.length_erase_of_mem ha] at this
    have hp : 0 < m.length := List.length_pos_of_mem ha
    simp only [List.length_cons]
    omega
/-- a walk so far: w the things met, x the one at hand -/
structure Wk (r : Nat → Nat → Prop) (S w : List Nat) (x : Nat) : Prop where
  nd : w.Nodup
  sub : ∀ y ∈ w, y ∈ S
  at_ : x ∈ S
  st : ∀ (i : Nat) (a b : Nat), w[i]? = some a → w[i + 1]? = some b → r a b
  la : ∀ a, w[w.length - 1]? = some a → r a x
theorem Wk.start {r : Nat → Nat → Prop} {S : List Nat} {x : Nat} (h : x ∈ S) : Wk r S [] x :=
  ⟨List.nodup_nil, (fun _ h => nomatch h), h, (fun i a b e => by simp at e), (fun a e => by simp at e)⟩
theorem Wk.step {r : Nat → Nat → Prop} {S w : List Nat} {x y : Nat} (h : Wk r S w x) (hx : x ∉ w) (hy : y ∈ S) (hr : r x y) : Wk r S (w ++ [x]) y where
  nd := List.nodup_append.mpr ⟨h.nd, List.nodup_cons.mpr ⟨(fun z => nomatch z), List.nodup_nil⟩, fun a ha b hb => by
    rw [List.mem_singleton.mp hb]
    exact fun e => hx (e ▸ ha)⟩
  sub := fun z hz => (List.mem_append.mp hz).elim (h.sub z) fun q => by rw [List.mem_singleton.mp q]; exact h.at_
  at_ := hy
  st := fun i a b e1 e2 => by
    have hl := (List.getElem?_eq_some_iff.mp e2).1
    rw [List.length_append, List.length_singleton] at hl
    rw [List.getElem?_append_left (by omega)] at e1
    by_cases hi : i + 1 < w.length
    · rw [List.getElem?_append_left hi] at e2
      exact h.st i a b e1 e2
    · have e : i + 1 = w.length := by omega
      rw [List.getElem?_append_right (by omega), e, Nat.sub_self] at e2
      cases e2
      exact h.la a (by rw [← e, Nat.add_sub_cancel]; exact e1)
  la := fun a e => by
    rw [List.length_append, List.length_singleton, Nat.add_sub_cancel, List.getElem?_append_right (Nat.le_refl _), Nat.sub_self] at e
    cases e
    exact hr
theorem Wk.len {r : Nat → Nat → Prop} {S w : List Nat} {x : Nat} (h : Wk r S w x) : w.length ≤ S.length := sub_len h.nd h.sub
theorem Wk.round {r : Nat → Nat → Prop} {S w : List Nat} {x j : Nat} (h : Wk r S w x) (hj : w[j]? = some x) : Rnd r (w.drop j) := by
  have hl := (List.getElem?_eq_some_iff.mp hj).1
  have len : (w.drop j).length = w.length - j := List.length_drop
  refine ⟨fun e => ?_, h.nd.sublist (List.drop_sublist _ _), fun i a b e1 e2 => ?_, fun a b e1 e2 => ?_⟩
  · have := congrArg List.length e
    rw [len] at this
    simp only [List.length_nil] at this
    omega
  · rw [List.getElem?_drop] at e1 e2
    exact h.st (j + i) a b e1 (by rw [Nat.add_assoc]; exact e2)
  · rw [len, List.getElem?_drop, show j + (w.length - j - 1) = w.length - 1 by omega] at e1
    rw [List.getElem?_drop, Nat.add_zero, hj] at e2
    cases e2
    exact h.la a e1
/-- where each leads on, there is a round -/
theorem round_of_fwd {r : Nat → Nat → Prop} {S : List Nat} (hS : Fwd r S) : ∀ (n : Nat) (w : List Nat) (x : Nat), S.length - w.length ≤ n → Wk r S w x → ∃ c, Rnd r c ∧ ∀ y ∈ c, y ∈ S
  | n, w, x, hn, h => by
    by_cases hx : x ∈ w
    · obtain ⟨j, hj⟩ := List.getElem?_of_mem hx
      exact ⟨w.drop j, h.round hj, fun y hy => h.sub y (List.mem_of_mem_drop hy)⟩
    · obtain ⟨y, hy, hr⟩ := hS x h.at_
      have h2 := h.step hx hy hr
      have l1 := h2.len
      rw [List.length_append, List.length_singleton] at l1
      cases n with
      | zero => omega
      | succ n => exact round_of_fwd hS n _ y (by rw [List.length_append, List.length_singleton]; omega) h2
theorem round_fwd {r : Nat → Nat → Prop} {S : List Nat} (hS : Fwd r S) (hne : S ≠ []) : ∃ c, Rnd r c ∧ ∀ y ∈ c, y ∈ S := by
  cases S with
  | nil => exact absurd rfl hne
  | cons a S => exact round_of_fwd hS _ [] a (Nat.le_refl _) (Wk.start List.mem_cons_self)
end KP
end
section
set_option maxRecDepth 100000
namespace KP
end KP
end
section
set_option maxRecDepth 100000
namespace KP
/-- sum along a path -/
noncomputable def path (f : Nat → Nat → Int) : List Nat → Int
  | [] => 0
  | [_] => 0
  | x :: y :: r => f x y + path f (y :: r)
/-- .. and back to the first -/
noncomputable def cyc (f : Nat → Nat → Int) (c : List Nat) : Int := f (c.getLastD 0) (c.headD 0) + path f c
theorem path_add (f g : Nat → Nat → Int) : ∀ (l : List Nat), path (fun x y => f x y + g x y) l = path f l + path g l
  | [] => rfl
  | [_] => rfl
  | x :: y :: r => by
    have := path_add f g (y :: r)
    unfold path
    rw [this]
    omega
theorem path_tel (m : Nat → Int) : ∀ (x : Nat) (r : List Nat), path (fun x y => m y - m x) (x :: r) = m ((x :: r).getLastD 0) - m x
  | x, [] => by simp [path]
  | x, y :: r => by
    have := path_tel m y r
    unfold path
    rw [this]
    have e : (x :: y :: r).getLastD 0 = (y :: r).getLastD 0 := rfl
    rw [e]
    omega
theorem cyc_tel (m : Nat → Int) {c : List Nat} (h : c ≠ []) : cyc (fun x y => m y - m x) c = 0 := by
  cases c with
  | nil => exact absurd rfl h
  | cons x r =>
    unfold cyc
    rw [path_tel]
    simp only [List.headD_cons]
    omega
theorem path_nn {f : Nat → Nat → Int} : ∀ {l : List Nat}, (∀ (i x y : Nat), l[i]? = some x → l[i + 1]? = some y → 0 ≤ f x y) → 0 ≤ path f l
  | [], _ => Int.le_refl _
  | [_], _ => Int.le_refl _
  | x :: y :: r, h => by
    unfold path
    have h1 := h 0 x y rfl rfl
    have h2 := path_nn (f := f) (l := y :: r) fun i a b ha hb => h (i + 1) a b (by simpa using ha) (by simpa using hb)
    omega
theorem path_pos {f : Nat → Nat → Int} : ∀ {l : List Nat}, (∀ (i x y : Nat), l[i]? = some x → l[i + 1]? = some y → 0 ≤ f x y) → (∃ (i x y : Nat), l[i]? = some x ∧ l[i + 1]? = some y ∧ 0 < f x y) → 0 < path f l
  | [], _, ⟨i, x, y, h, _⟩ => by simp at h
  | [_], _, ⟨i, x, y, h, h', _⟩ => by simp at h'
  | x :: y :: r, h, ⟨i, a, b, h1, h2, h3⟩ => by
    unfold path
    have g1 := h 0 x y rfl rfl
    cases i with
    | zero =>
      simp at h1 h2
      subst h1; subst h2
      have g2 := path_nn (f := f) (l := y :: r) fun i a b ha hb => h (i + 1) a b (by simpa using ha) (by simpa using hb)
      omega
    | succ i =>
      have g2 := path_pos (f := f) (l := y :: r) (fun i a b ha hb => h (i + 1) a b (by simpa using ha) (by simpa using hb)) ⟨i, a, b, by simpa using h1, by simpa using h2, h3⟩
      omega
theorem last_at {c : List Nat} (h : c ≠ []) : c[c.length - 1]? = some (c.getLastD 0) := by
  cases c with
  | nil => exact absurd rfl h
  | cons x r =>
    rw [List.getLastD_cons, ← List.getLast?_eq_getElem?]
    rw [List.getLast?_cons]
    cases r <;> simp
theorem head_at {c : List Nat} (h : c ≠ []) : c[0]? = some (c.headD 0) := by
  cases c with
  | nil => exact absurd rfl h
  | cons x r => rfl
/-- a cycle whose turns are worth 0 or more, one of them more -/
theorem cyc_pos {f : Nat → Nat → Int} {r : Nat → Nat → Prop} {c : List Nat} (hc : Rnd r c) (h0 : ∀ x ∈ c, ∀ y, r x y → 0 ≤ f x y) {v : Nat} (hv : v ∈ c) (h1 : ∀ y, r v y → 0 < f v y) : 0 < cyc f c := by
  have hl := hc.cl _ _ (last_at hc.ne) (head_at hc.ne)
  have hlm : c.getLastD 0 ∈ c := List.mem_of_getElem? (last_at hc.ne)
  have g0 := h0 _ hlm _ hl
  have gp : ∀ (i x y : Nat), c[i]? = some x → c[i + 1]? = some y → 0 ≤ f x y := fun i x y hx hy => h0 x (List.mem_of_getElem? hx) y (hc.st i x y hx hy)
  unfold cyc
  obtain ⟨i, hi⟩ := List.getElem?_of_mem hv
  have hil := (List.getElem?_eq_some_iff.mp hi).1
  by_cases hn : i + 1 < c.length
  · have hy : c[i + 1]? = some c[i + 1] := by simp [hn]
    have := path_pos gp ⟨i, v, c[i + 1], hi, hy, h1 _ (hc.st i v _ hi hy)⟩
    omega
  · have e : i = c.length - 1 := by omega
    have e2 : c.getLastD 0 = v := by
      have := last_at hc.ne
      rw [← e, hi] at this
      exact (Option.some.inj this).symm
    have g1 : 0 < f (c.getLastD 0) (c.headD 0) := by
      rw [e2]
      rw [e2] at hl
      exact h1 _ hl
    have := path_nn gp
    omega
theorem cyc_nn {f : Nat → Nat → Int} {r : Nat → Nat → Prop} {c : List Nat} (hc : Rnd r c) (h0 : ∀ x ∈ c, ∀ y, r x y → 0 ≤ f x y) : 0 ≤ cyc f c := by
  have hl := hc.cl _ _ (last_at hc.ne) (head_at hc.ne)
  have hlm : c.getLastD 0 ∈ c := List.mem_of_getElem? (last_at hc.ne)
  have g0 := h0 _ hlm _ hl
  have gp : ∀ (i x y : Nat), c[i]? = some x → c[i + 1]? = some y → 0 ≤ f x y := fun i x y hx hy => h0 x (List.mem_of_getElem? hx) y (hc.st i x y hx hy)
  have := path_nn gp
  unfold cyc
  omega
theorem cyc_add (f g : Nat → Nat → Int) (c : List Nat) : cyc (fun x y => f x y + g x y) c = cyc f c + cyc g c := by
  unfold cyc
  rw [path_add]
  show f _ _ + g _ _ + _ = _
  omega
theorem Rnd.mono {r r' : Nat → Nat → Prop} {c : List Nat} (h : Rnd r c) (m : ∀ x ∈ c, ∀ y, r x y → r' x y) : Rnd r' c :=
  ⟨h.ne, h.nd, fun i x y a b => m x (List.mem_of_getElem? a) y (h.st i x y a b), fun x y a b => m x (List.mem_of_getElem? a) y (h.cl x y a b)⟩
theorem Rnd.mem {r : Nat → Nat → Prop} {c : List Nat} (h : Rnd r c) {x : Nat} (hx : x ∈ c) : ∃ y ∈ c, r x y := h.fwd x hx
/-- steps with what they are worth -/
noncomputable def wt (st : Nat → Nat → Option Int) (a b : Nat) : Int := (st a b).getD 0
/-- the state while marks rise: marks m, where each was last raised from nx, in which turn L -/
structure MS (n : Nat) (st : Nat → Nat → Option Int) (m : Nat → Int) (nx : Nat → Option Nat) (L : Nat → Nat) : Prop where
  nn : ∀ a, 0 ≤ m a
  up : ∀ a o, nx a = some o → a < n ∧ o < n ∧ ∃ w, st a o = some w ∧ m a ≤ m o + w
  cy : ∀ c, Rnd (fun a b => nx a = some b) c → 0 < cyc (wt st) c
  z : ∀ a, nx a = none → m a = 0
  lz : ∀ a, nx a = none → L a = 0
  lo : ∀ a o, nx a = some o → L a ≤ L o + 1
theorem MS.start (n : Nat) (st : Nat → Nat → Option Int) : MS n st (fun _ => 0) (fun _ => none) (fun _ => 0) where
  nn := fun _ => Int.le_refl _
  up := fun _ _ h => nomatch h
  cy := fun c hc => by
    obtain ⟨y, _, h⟩ := hc.mem (List.mem_of_getElem? (head_at hc.ne))
    cases h
  z := fun _ _ => rfl
  lz := fun _ _ => rfl
  lo := fun _ _ h => nomatch h
noncomputable def set1 {α : Type} (f : Nat → α) (v : Nat) (x : α) : Nat → α := fun a => if a = v then x else f a
theorem set1_same {α : Type} {f : Nat → α} {v : Nat} {x : α} : set1 f v x v = x := if_pos rfl
theorem set1_ne {α : Type} {f : Nat → α} {v a : Nat} {x : α} (h : a ≠ v) : set1 f v x a = f a := if_neg h
/-- one mark rises -/
theorem MS.rise {n : Nat} {st : Nat → Nat → Option Int} {m : Nat → Int} {nx : Nat → Option Nat} {L : Nat → Nat} (S : MS n st m nx L) {v o j : Nat} {w : Int} (hv : v < n) (ho : o < n) (hs : st v o = some w) (hr : m v < m o + w) (hL : ∀ a, L a ≤ j) (hj : j ≤ L o + 1) :
    MS n st (set1 m v (m o + w)) (set1 nx v (some o)) (set1 L v j) := by
  have mono : ∀ a, m a ≤ set1 m v (m o + w) a := fun a => by
    by_cases e : a = v
    · subst e; rw [set1_same]; omega
    · rw [set1_ne e]; exact Int.le_refl _
  have monoL : ∀ a, L a ≤ set1 L v j a := fun a => by
    by_cases e : a = v
    · subst e; rw [set1_same]; exact hL _
    · rw [set1_ne e]; exact Nat.le_refl _
  refine ⟨fun a => ?_, fun a x hx => ?_, fun c hc => ?_, fun a ha => ?_, fun a ha => ?_, fun a x hx => ?_⟩
  · have := S.nn a
    have := mono a
    omega
  · by_cases e : a = v
    · subst e
      rw [set1_same] at hx
      cases hx
      refine ⟨hv, ho, w, hs, ?_⟩
      rw [set1_same]
      by_cases e2 : o = a
      · subst e2
        rw [set1_same]
        omega
      · rw [set1_ne e2]
        exact Int.le_refl _
    · rw [set1_ne e] at hx
      obtain ⟨h1, h2, w', h3, h4⟩ := S.up a x hx
      refine ⟨h1, h2, w', h3, ?_⟩
      rw [set1_ne e]
      have := mono x
      omega
  · by_cases hvc : v ∈ c
    · have key : 0 < cyc (fun x y => wt st x y + (m y - m x)) c := by
        refine cyc_pos hc (fun x hx y hxy => ?_) hvc (fun y hxy => ?_)
        · by_cases e : x = v
          · subst e
            rw [set1_same] at hxy
            cases hxy
            unfold wt
            rw [hs]
            simp only [Option.getD_some]
            omega
          · rw [set1_ne e] at hxy
            obtain ⟨_, _, w', h3, h4⟩ := S.up x y hxy
            unfold wt
            rw [h3]
            simp only [Option.getD_some]
            omega
        · rw [set1_same] at hxy
          cases hxy
          unfold wt
          rw [hs]
          simp only [Option.getD_some]
          omega
      rw [cyc_add, cyc_tel m hc.ne] at key
      omega
    · exact S.cy c (hc.mono fun x hx y hxy => by
        have hne : x ≠ v := fun e => hvc (by rw [← e]; exact hx)
        rw [set1_ne hne] at hxy
        exact hxy)
  · by_cases e : a = v
    · subst e; rw [set1_same] at ha; cases ha
    · rw [set1_ne e] at ha ⊢
      exact S.z a ha
  · by_cases e : a = v
    · subst e; rw [set1_same] at ha; cases ha
    · rw [set1_ne e] at ha ⊢
      exact S.lz a ha
  · by_cases e : a = v
    · subst e
      rw [set1_same] at hx
      cases hx
      rw [set1_same]
      have := monoL o
      omega
    · rw [set1_ne e] at hx ⊢
      have := S.lo a x hx
      have := monoL x
      omega
/-- how far the steps have been looked at: the first i of them in turn j, the others in the turn before -/
noncomputable def Seen (sts : List (Nat × Nat × Int)) (m : Nat → Int) (L : Nat → Nat) (j i : Nat) : Prop := ∀ (k v o : Nat) (w : Int), sts[k]? = some (v, o, w) → ∀ p, p = (if k < i then j else j - 1) → p = 0 ∨ m o + w ≤ m v ∨ p ≤ L o
theorem Seen.start (sts : List (Nat × Nat × Int)) (m : Nat → Int) (L : Nat → Nat) : Seen sts m L 1 0 := fun k v o w _ p hp => .inl (by simpa using hp)
theorem Seen.next {sts : List (Nat × Nat × Int)} {m : Nat → Int} {L : Nat → Nat} {j : Nat} (h : Seen sts m L j sts.length) : Seen sts m L (j + 1) 0 := fun k v o w hk p hp => by
  have hl := (List.getElem?_eq_some_iff.mp hk).1
  exact h k v o w hk p (by rw [if_pos hl]; simpa using hp)
theorem Seen.rise {sts : List (Nat × Nat × Int)} {m : Nat → Int} {L : Nat → Nat} {j i v o : Nat} {w : Int} (h : Seen sts m L j i) (hi : sts[i]? = some (v, o, w)) (hr : m v < m o + w) (hL : ∀ a, L a ≤ j) : Seen sts (set1 m v (m o + w)) (set1 L v j) j (i + 1) := by
  intro k x y w' hk p hp
  have hpj : p ≤ j := by
    rw [hp]
    split <;> omega
  by_cases ey : y = v
  · refine .inr (.inr ?_)
    rw [ey, set1_same]
    exact hpj
  · rw [set1_ne ey, set1_ne ey]
    by_cases ek : k = i
    · subst ek
      rw [hi] at hk
      cases hk
      rw [set1_same]
      exact .inr (.inl (Int.le_refl _))
    · have e : (if k < i + 1 then j else j - 1) = if k < i then j else j - 1 := by
        by_cases h1 : k < i
        · rw [if_pos h1, if_pos (by omega)]
        · rw [if_neg h1, if_neg (by omega)]
      rcases h k x y w' hk p (by rw [hp, e]) with h1 | h1 | h1
      · exact .inl h1
      · refine .inr (.inl ?_)
        by_cases ex : x = v
        · subst ex
          rw [set1_same]
          omega
        · rw [set1_ne ex]; exact h1
      · exact .inr (.inr h1)
theorem Seen.keep {sts : List (Nat × Nat × Int)} {m : Nat → Int} {L : Nat → Nat} {j i v o : Nat} {w : Int} (h : Seen sts m L j i) (hi : sts[i]? = some (v, o, w)) (hr : ¬ m v < m o + w) : Seen sts m L j (i + 1) := by
  intro k x y w' hk p hp
  by_cases ek : k = i
  · subst ek
    rw [hi] at hk
    cases hk
    exact .inr (.inl (by omega))
  · have e : (if k < i + 1 then j else j - 1) = if k < i then j else j - 1 := by
      by_cases h1 : k < i
      · rw [if_pos h1, if_pos (by omega)]
      · rw [if_neg h1, if_neg (by omega)]
    exact h k x y w' hk p (by rw [hp, e])
theorem Seen.lo {sts : List (Nat × Nat × Int)} {m : Nat → Int} {L : Nat → Nat} {j i v o : Nat} {w : Int} (h : Seen sts m L j i) (hj : 1 ≤ j) (hi : sts[i]? = some (v, o, w)) (hr : m v < m o + w) : j ≤ L o + 1 := by
  rcases h i v o w hi _ rfl with h1 | h1 | h1
  · rw [if_neg (by omega)] at h1; omega
  · omega
  · rw [if_neg (by omega)] at h1; omega
/-- lowest marks: 0, or a step above a lowest one -/
inductive Low (n : Nat) (st : Nat → Nat → Option Int) (m : Nat → Int) : Nat → Prop
  | zero {a : Nat} (h : m a = 0) : Low n st m a
  | step {a b : Nat} {w : Int} (hb : b < n) (hl : Low n st m b) (hs : st a b = some w) (he : m a = m b + w) : Low n st m a
theorem low_of {n : Nat} {st : Nat → Nat → Option Int} {m : Nat → Int} {nx : Nat → Option Nat} {L : Nat → Nat} (S : MS n st m nx L) (sat : ∀ a b w, a < n → b < n → st a b = some w → m b + w ≤ m a) : ∀ a, a < n → Low n st m a := by
  intro a0 ha0
  apply Classical.byContradiction
  intro hno
  haveI : DecidablePred (fun a => ¬ Low n st m a) := fun a => Classical.propDecidable _
  have hS : Fwd (fun a b => nx a = some b) ((List.range n).filter fun a => decide (¬ Low n st m a)) := by
    intro x hx
    obtain ⟨hx1, hx2⟩ := List.mem_filter.mp hx
    have hx2 : ¬ Low n st m x := of_decide_eq_true hx2
    cases e : nx x with
    | none => exact absurd (Low.zero (S.z x e)) hx2
    | some o =>
      obtain ⟨h1, h2, w, h3, h4⟩ := S.up x o e
      refine ⟨o, List.mem_filter.mpr ⟨List.mem_range.mpr h2, decide_eq_true fun hl => ?_⟩, e⟩
      have := sat x o w h1 h2 h3
      exact hx2 (Low.step h2 hl h3 (by omega))
  obtain ⟨c, hc, _⟩ := round_fwd hS (fun e => by
    have : a0 ∈ (List.range n).filter fun a => decide (¬ Low n st m a) := List.mem_filter.mpr ⟨List.mem_range.mpr ha0, decide_eq_true hno⟩
    rw [e] at this
    cases this)
  have h1 := S.cy c hc
  have h2 : 0 ≤ cyc (fun x y => - (wt st x y + (m y - m x))) c := cyc_nn hc fun x hx y hxy => by
    obtain ⟨g1, g2, w, g3, g4⟩ := S.up x y hxy
    have := sat x y w g1 g2 g3
    unfold wt
    rw [g3]
    simp only [Option.getD_some]
    omega
  have neg : ∀ (f : Nat → Nat → Int) (l : List Nat), path (fun x y => - f x y) l = - path f l := by
    intro f l
    induction l with
    | nil => rfl
    | cons x r ih =>
      cases r with
      | nil => rfl
      | cons y r =>
        unfold path
        rw [ih]
        omega
  have e : cyc (fun x y => - (wt st x y + (m y - m x))) c = - cyc (fun x y => wt st x y + (m y - m x)) c := by
    unfold cyc
    rw [neg (fun x y => wt st x y + (m y - m x))]
    show - (wt st _ _ + (m _ - m _)) + _ = - ((wt st _ _ + (m _ - m _)) + _)
    omega
  rw [e, cyc_add, cyc_tel m hc.ne] at h2
  omega
/-- a misfit: a round of steps worth more than 0 together -/
structure Mis (n : Nat) (st : Nat → Nat → Option Int) (c : List Nat) : Prop where
  rd : Rnd (fun a b => (st a b).isSome = true) c
  lt : ∀ x ∈ c, x < n
  pos : 0 < cyc (wt st) c
/-- onward from v -/
noncomputable def chain (f : Nat → Nat) (v : Nat) : Nat → Nat
  | 0 => v
  | k + 1 => f (chain f v k)
theorem chain_per {f : Nat → Nat} {v i j : Nat} (h : chain f v i = chain f v j) : ∀ k, chain f v (i + k) = chain f v (j + k)
  | 0 => h
  | k + 1 => by
    show f (chain f v (i + k)) = f (chain f v (j + k))
    rw [chain_per h k]
theorem chain_closed {f : Nat → Nat} {v n : Nat} (hn : 1 ≤ n) (hb : ∀ k, k ≤ n → chain f v k < n) : ∀ y ∈ (List.range n).map (chain f v), f y ∈ (List.range n).map (chain f v) := by
  have last : chain f v n ∈ (List.range n).map (chain f v) := by
    apply Classical.byContradiction
    intro hno
    by_cases hd : ((List.range n).map (chain f v)).Nodup
    · have := sub_len (l := chain f v n :: (List.range n).map (chain f v)) (m := List.range n) (List.nodup_cons.mpr ⟨hno, hd⟩) fun x hx => by
        rcases List.mem_cons.mp hx with rfl | hx
        · exact List.mem_range.mpr (hb n (Nat.le_refl _))
        · obtain ⟨k, hk, rfl⟩ := List.mem_map.mp hx
          exact List.mem_range.mpr (hb k (Nat.le_of_lt (List.mem_range.mp hk)))
      simp at this
      omega
    · rw [List.Nodup, List.pairwise_map] at hd
      have : ∃ i j, i < j ∧ j < n ∧ chain f v i = chain f v j := by
        apply Classical.byContradiction
        intro hne
        apply hd
        have hp : (List.range n).Pairwise fun a b => a < b ∧ b < n := by
          rw [List.pairwise_iff_getElem]
          intro i j hi hj hij
          rw [List.getElem_range, List.getElem_range]
          rw [List.length_range] at hj
          exact ⟨hij, hj⟩
        exact hp.imp fun {a b} hab e => hne ⟨a, b, hab.1, hab.2, e⟩
      obtain ⟨i, j, hij, hjn, e⟩ := this
      have := chain_per e (n - j)
      rw [show j + (n - j) = n by omega] at this
      apply hno
      rw [← this]
      exact List.mem_map.mpr ⟨_, List.mem_range.mpr (by omega), rfl⟩
  intro y hy
  obtain ⟨k, hk, rfl⟩ := List.mem_map.mp hy
  have hk := List.mem_range.mp hk
  by_cases e : k + 1 = n
  · rw [← e] at last
    have : chain f v (k + 1) ∈ (List.range n).map (chain f v) := by rw [← e]; exact last
    exact this
  · exact List.mem_map.mpr ⟨k + 1, List.mem_range.mpr (by omega), rfl⟩
/-- raised in the n-th turn: onward never ends -/
theorem MS.walk {n : Nat} {st : Nat → Nat → Option Int} {m : Nat → Int} {nx : Nat → Option Nat} {L : Nat → Nat} (S : MS n st m nx L) {v : Nat} (hn : 1 ≤ n) (hv : v < n) (hL : n ≤ L v) :
    ∃ S' : List Nat, v ∈ S' ∧ S'.length = n ∧ ∀ y ∈ S', nx y = some ((nx y).getD 0) ∧ (nx y).getD 0 ∈ S' := by
  have key : ∀ k, k ≤ n → chain (fun y => (nx y).getD 0) v k < n ∧ n ≤ L (chain (fun y => (nx y).getD 0) v k) + k := by
    intro k
    induction k with
    | zero => exact fun _ => ⟨hv, hL⟩
    | succ k ih =>
      intro hk
      obtain ⟨h1, h2⟩ := ih (by omega)
      cases e : nx (chain (fun y => (nx y).getD 0) v k) with
      | none =>
        have := S.lz _ e
        omega
      | some o =>
        have g1 := S.up _ o e
        have g2 := S.lo _ o e
        have e2 : chain (fun y => (nx y).getD 0) v (k + 1) = o := by
          show (nx (chain (fun y => (nx y).getD 0) v k)).getD 0 = o
          rw [e]; rfl
        rw [e2]
        exact ⟨g1.2.1, by omega⟩
  refine ⟨(List.range n).map (chain (fun y => (nx y).getD 0) v), List.mem_map.mpr ⟨0, List.mem_range.mpr (by omega), rfl⟩, by rw [List.length_map, List.length_range], fun y hy => ⟨?_, chain_closed hn (fun k hk => (key k hk).1) y hy⟩⟩
  obtain ⟨k, hk, rfl⟩ := List.mem_map.mp hy
  have hk := List.mem_range.mp hk
  have h2 := (key k (by omega)).2
  cases e : nx (chain (fun y => (nx y).getD 0) v k) with
  | none =>
    have := S.lz _ e
    omega
  | some o => rfl
theorem MS.mis {n : Nat} {st : Nat → Nat → Option Int} {m : Nat → Int} {nx : Nat → Option Nat} {L : Nat → Nat} (S : MS n st m nx L) {c : List Nat} (hc : Rnd (fun a b => (nx a).getD 0 = b) c) (hd : ∀ y ∈ c, nx y = some ((nx y).getD 0)) : Mis n st c := by
  have hc' : Rnd (fun a b => nx a = some b) c := hc.mono fun x hx y hxy => by rw [hd x hx, hxy]
  refine ⟨hc'.mono fun x hx y hxy => ?_, fun x hx => (S.up x _ (hd x hx)).1, S.cy c hc'⟩
  obtain ⟨_, _, w, h, _⟩ := S.up x y hxy
  rw [h]; rfl
end KP
end
section
set_option maxRecDepth 100000
namespace KP
end KP
end
section
set_option maxRecDepth 100000
namespace KP
end KP
end
section
set_option maxRecDepth 100000
namespace KP
end KP
namespace KP
end KP
end
section
set_option maxRecDepth 100000
set_option maxHeartbeats 4000000
set_option linter.all false
namespace KS
open PySem PySem.Spec L2
open PyProof.Rows hiding St
/-- e: an exception of class C, its last station T, in flight by fl -/
structure Trc (h : Heap) (e T : Addr) (C fl : Value) : Prop where
  obj : ∃ oe vs, h.get? e = some oe ∧ oe.cls = C ∧ oe.dict = none ∧ oe.data = .fields vs ∧ vs[1]? = some (.ref T)
  ne : T ≠ e
  stn : ∃ oT ts, h.get? T = some oT ∧ oT.data = .fields ts ∧ ts[3]? = some fl
section
variable {M : Model} {A : Around} {E : Value → Shared → Prop} {s : Shared} {base : Heap} {env : Env} {outer : List Env} {L e : Addr} {oe : Obj} {vs : Array Value}
/-- what a frame that is left changes: the exception, its last station, the frames' slots -/
structure Gone (l : List Env) (e T : Addr) (C : Value) (g : List Addr) (h h' : Heap) : Prop where
  new : h.get? T = none
  trc : Trc h' e T C .none
  keep : ∀ b o, b ∉ g → b ∉ frs l → h.get? b = some o → h'.get? b = some o
  slot : ∀ b o, b ∉ g → h.get? b = some o → ∃ sl, h'.get? b = some { o with slots := sl }
  size : h.objs.size ≤ h'.objs.size
theorem entry1 {head : Value} {hn : Bool} {Q : Unit → Shared → Prop} (k1 : A.frames = some (env :: outer)) (k2 : s.heap.FunFrames base (env :: outer)) (k3 : env.frame = some L) (k4 : s.heap.get? e = some oe) (k5 : oe.dict = none) (k6 : oe.data = .fields vs) (k7 : 1 < vs.size)
    (q : ∀ h' T, Gone (env :: outer) e T oe.cls [e] s.heap h' → Q () { s with heap := h' }) :
    wpAny M A (do let a ← frameOf env; let pl ← entryPlaceOf L hn; let b ← EntryCells.newEntry head a .none (rawInt L) .none pl; setField (.ref e) 1 b) (fun _ s' => wpAny M A (setFlight (.ref e) none) Q E s') E s := by
  have nof : e ∉ frs (env :: outer) := fun z => by
    obtain ⟨_, o, ho, nf⟩ := k2.mem z
    rw [k4] at ho
    cases ho
    exact nf vs k6
  refine wpAny_bind (wpAny_frameOf_fun k1 k2 k3 fun g1 x1 => ?_)
  refine wpAny_bind (wpAny_entryPlaceOf fun pl hpl => ?_)
  unfold EntryCells.newEntry newFields
  refine wpAny_bind (wpAny_newObj_type ?_ (hpl.sizeOk5 _ _ _ _ _))
  generalize hts : ([head, .ref L, .none, rawInt L, .none] ++ (if pl.isEmpty then List.replicate 6 Value.none else pl)).toArray = ts
  have hts3 : 3 < ts.size := by rw [← hts]; simp
  have e1 : g1.get? e = some oe := (x1.2.1 e nof).trans k4
  have e2 := Heap.get?_push_of_some (h := g1) { cls := .type "traceback", dict := none, data := .fields ts } e1
  refine wpAny_setField e2 k6 k7 ?_
  have dT : g1.objs.size ≠ e := Nat.ne_of_gt (Heap.lt_size e1)
  have d3 := Obj.data_mapFields k6 (·.setIfInBounds 1 (Value.ref g1.objs.size))
  have e3 := Heap.get?_update_self (Obj.mapFields (·.setIfInBounds 1 (Value.ref g1.objs.size))) e2 (Obj.isFreed_of_fields d3)
  have t3 := (Heap.get?_update_other (g1.push { cls := .type "traceback", dict := none, data := .fields ts }) (Obj.mapFields (·.setIfInBounds 1 (Value.ref g1.objs.size))) (Ne.symm dT)).trans (Heap.get?_push_size g1 rfl)
  unfold setFlight
  refine wpAny_bind (wpAny_field e3 d3 (x := .ref g1.objs.size) (by simp [k7]) ?_)
  rw [if_pos (show (Value.ref g1.objs.size != Value.none) = true by simp)]
  refine wpAny_setField t3 rfl hts3 (q _ g1.objs.size ?_)
  have oth : ∀ b o, b ≠ e → g1.get? b = some o → ((((g1.push { cls := .type "traceback", dict := none, data := .fields ts }).update e (Obj.mapFields (·.setIfInBounds 1 (Value.ref g1.objs.size)))).update g1.objs.size
      (Obj.mapFields (·.setIfInBounds 3 ((none : Option Addr).elim Value.none fun f => rawInt f)))).get? b) = some o := fun b o hb ho => by
    rw [Heap.get?_update_other _ _ (Nat.ne_of_gt (Heap.lt_size ho)), Heap.get?_update_other _ _ (Ne.symm hb)]
    exact Heap.get?_push_of_some _ ho
  refine ⟨?_, ⟨⟨_, _, ?_, Obj.cls_mapFields _ _, ?_, d3, by simp [k7]⟩, dT, ⟨_, _, Heap.get?_update_self _ t3 (Obj.isFreed_of_fields (Obj.data_mapFields rfl _)), Obj.data_mapFields rfl _, by simp [hts3]⟩⟩, fun b o hb hf ho => ?_, fun b o hb ho => ?_, ?_⟩
  · exact Heap.get?_none_of_le (by rw [x1.1]; exact Nat.le_refl _)
  · rw [Heap.get?_update_other _ _ dT]
    exact e3
  · obtain ⟨c, dd, dt, sl⟩ := oe
    cases k5
    cases k6
    rfl
  · exact oth b o (fun z => hb (List.mem_singleton.mpr z)) ((x1.2.1 b hf).trans ho)
  · obtain ⟨sl, hs⟩ := x1.2.2 b o ho
    exact ⟨sl, oth b _ (fun z => hb (List.mem_singleton.mpr z)) hs⟩
  · rw [Heap.size_after_update, Heap.size_after_update, Heap.size_push, x1.1]
    exact Nat.le_succ _
/-- a frame left by an exception just made -/
theorem leave_new {Q : Unit → Shared → Prop} (k1 : A.frames = some (env :: outer)) (k2 : s.heap.FunFrames base (env :: outer)) (k3 : env.frame = some L) (k4 : s.heap.get? e = some oe) (k5 : oe.dict = none) (k6 : oe.data = .fields vs) (k7 : vs[1]? = some .none)
    (q : ∀ h' T, Gone (env :: outer) e T oe.cls [e] s.heap h' → Q () { s with heap := h' }) : wpAny M A (leaving env (.ref e)) Q E s := by
  unfold leaving noteFrame
  simp only [k3]
  refine wpAny_bind (wpAny_bind (wpAny_field k4 k6 k7 ?_))
  rw [if_neg (by decide)]
  exact entry1 k1 k2 k3 k4 k5 k6 (Array.getElem?_eq_some_iff.mp k7).1 q
/-- a frame noted by one that came from a callee -/
theorem noted_on {T : Addr} {C : Value} {Q : Unit → Shared → Prop} (k1 : A.frames = some (env :: outer)) (k2 : s.heap.FunFrames base (env :: outer)) (k3 : env.frame = some L) (k4 : Trc s.heap e T C .none)
    (q : ∀ h' T', Gone (env :: outer) e T' C [e, T] s.heap h' → Q () { s with heap := h' }) : wpAny M A (noteFrame (.ref e) env) (fun _ s' => wpAny M A (setFlight (.ref e) none) Q E s') E s := by
  obtain ⟨⟨oe, vs, a1, a2, a3, a4, a5⟩, ne, ⟨oT, ts, b1, b2, b3⟩⟩ := k4
  subst a2
  unfold noteFrame
  simp only [k3]
  refine wpAny_bind (wpAny_field a1 a4 a5 ?_)
  rw [if_pos (show (Value.ref T != Value.none) = true by simp)]
  refine wpAny_bind (wpAny_field b1 b2 b3 ?_)
  rw [if_neg (show ¬ ((Value.none == rawInt L) = true) by simp [rawInt])]
  refine wpAny_bind (wpAny_setField b1 b2 (Array.getElem?_eq_some_iff.mp b3).1 ?_)
  have ot : ∀ b, b ≠ T → (s.heap.update T (Obj.mapFields (·.setIfInBounds 3 Value.none))).get? b = s.heap.get? b := fun b hb => Heap.get?_update_other _ _ (Ne.symm hb)
  have nr : ∀ b o, s.heap.get? b = some o → (∀ vs, o.data ≠ .fields vs) → b ≠ T := fun b o hb nf z => by
    rw [z, b1] at hb
    cases hb
    exact nf ts b2
  refine entry1 (base := base) k1 (k2.of_keeps fun b o hb nf => ⟨o, (ot b (nr b o hb nf)).trans hb, rfl⟩) k3 ((ot e (Ne.symm ne)).trans a1) a3 a4 (Array.getElem?_eq_some_iff.mp a5).1 fun h' T' g => q h' T' ⟨?_, g.trc, fun b o hb hf ho => ?_, fun b o hb ho => ?_, ?_⟩
  · have := g.new
    cases hq : s.heap.get? T' with
    | none => rfl
    | some o =>
      by_cases z : T' = T
      · subst z
        obtain ⟨oo, ho⟩ : ∃ oo, (s.heap.update T' (Obj.mapFields (·.setIfInBounds 3 Value.none))).get? T' = some oo := ⟨_, Heap.get?_update_self _ b1 (Obj.isFreed_of_fields (Obj.data_mapFields b2 _))⟩
        rw [ho] at this
        cases this
      · rw [ot T' z, hq] at this
        cases this
  · refine g.keep b o (fun z => hb (List.mem_cons.mpr (.inl (List.mem_singleton.mp z)))) hf ((ot b fun z => hb (z ▸ List.mem_cons_of_mem _ List.mem_cons_self)).trans ho)
  · refine g.slot b o (fun z => hb (List.mem_cons.mpr (.inl (List.mem_singleton.mp z)))) ((ot b fun z => hb (z ▸ List.mem_cons_of_mem _ List.mem_cons_self)).trans ho)
  · have := g.size
    rw [Heap.size_after_update] at this
    exact this
/-- a frame left by one that came from a callee -/
theorem leave_on {T : Addr} {C : Value} {Q : Unit → Shared → Prop} (k1 : A.frames = some (env :: outer)) (k2 : s.heap.FunFrames base (env :: outer)) (k3 : env.frame = some L) (k4 : Trc s.heap e T C .none)
    (q : ∀ h' T', Gone (env :: outer) e T' C [e, T] s.heap h' → Q () { s with heap := h' }) : wpAny M A (leaving env (.ref e)) Q E s := by
  unfold leaving
  exact wpAny_bind (noted_on k1 k2 k3 k4 q)
end
end KS
end
section
set_option maxRecDepth 100000
set_option maxHeartbeats 4000000
set_option linter.all false
namespace KS
open PySem PySem.Spec L2
open PyProof.Rows hiding St
theorem hok_gone {P : Program} {w : World} {H : Hp} {h h' : Heap} {l : List Env} {e T : Addr} {C : Value} {gl : List Addr} (ok : HOk P w H h) (g : Gone l e T C gl h h') (n1 : ∀ b ∈ gl, H b = none) (n2 : ∀ b ∈ frs l, H b = none) : HOk P w H h' := fun a u ha => by
  have tr : ∀ b v, H b = some v → b ∉ gl ∧ b ∉ frs l := fun b v hb => ⟨(fun z => by rw [n1 b z] at hb; cases hb), (fun z => by rw [n2 b z] at hb; cases hb)⟩
  refine (ok a u ha).stay (fun b v hb hv => ?_) (fun _ q => q) fun _ _ q => q
  rcases hb with rfl | hb
  · exact g.keep b v (tr b u ha).1 (tr b u ha).2 hv
  · exact g.keep b v (tr b _ hb).1 (tr b _ hb).2 hv
/-- how an exception lies behind a call -/
noncomputable def CX1 (P : Program) (w : World) : CXT := fun outer H s E e s' => ∃ a T C H', e = .ref a ∧ s'.os = s.os ∧ AllBare s'.gens ∧ Un (frs outer) [] H H' s.heap s'.heap ∧ HOk P w H' s'.heap ∧ H' a = none ∧ H' T = none ∧ s.heap.get? a = none ∧ s.heap.get? T = none ∧ Trc s'.heap a T C .none ∧ E C none H'
section
variable {X : Cx} {pins : List (Addr × Obj)} {σ : St} {H : Hp} {s : Shared}
/-- nothing new is at an old place -/
theorem Inv.old_none (I : L2.Inv X pins σ H s) {a : Addr} (hx : X.ex = []) (h : s.heap.get? a = none) : X.s₀.heap.get? a = none := by
  cases q : X.s₀.heap.get? a with
  | none => rfl
  | some o =>
    obtain ⟨o', e⟩ := I.base.there a o q (by rw [hx]; exact fun z => nomatch z)
    rw [h] at e
    cases e
theorem Inv.free_none (I : L2.Inv X pins σ H s) {a : Addr} (h : s.heap.get? a = none) : H a = none := by
  cases q : H a with
  | none => rfl
  | some u =>
    obtain ⟨o, e⟩ := ObjOk.there (I.hok a u q)
    rw [h] at e
    cases e
/-- behind a frame that is left: what the callers had -/
theorem un_gone {h' : Heap} {e T : Addr} {C : Value} {gl : List Addr} (I : L2.Inv X pins σ H s) (hx : X.ex = []) (hs : X.stack = X.env :: X.outer) (hf : X.env.frame = some X.env.locals) (g : Gone X.stack e T C gl s.heap h') (n0 : ∀ b ∈ gl, X.s₀.heap.get? b = none) : Un X.fs [] X.H₀ H X.s₀.heap h' := by
  have u := I.base
  rw [hx] at u
  have nl : ∀ b o, X.s₀.heap.get? b = some o → b ∉ gl := fun b o q z => by rw [n0 b z] at q; cases q
  have nf : ∀ b o, X.s₀.heap.get? b = some o → b ∉ X.fs → b ∉ frs X.stack := fun b o q n z => by
    rw [hs] at z
    unfold frs at z
    rw [List.filterMap_cons, hf] at z
    rcases List.mem_cons.mp z with z | z
    · subst z
      exact absurd (Nat.lt_of_lt_of_le (Heap.lt_size q) I.ok.above) (Nat.lt_irrefl _)
    · exact n z
  refine ⟨fun b o q n nb nx => ?_, fun b o q n nb nx => ?_, u.free, fun b o q nx => ?_, u.tups, u.frzs, u.tbls⟩
  · exact g.keep b o (nl b o q) (nf b o q nb) (u.keep b o q n nb nx)
  · obtain ⟨sl, e1⟩ := u.slot b o q n nb nx
    obtain ⟨sl', e2⟩ := g.slot b _ (nl b o q) e1
    exact ⟨sl', e2⟩
  · obtain ⟨o', e1⟩ := u.there b o q nx
    obtain ⟨sl, e2⟩ := g.slot b o' (nl b o q) e1
    exact ⟨_, e2⟩
end
section
variable {P : Program} {w : World} {K : PySem.W.Frag} {mg : Str → Option Value} {base : Heap} {N : List Str} {qual : Str} {scope : Scope} {f : Addr} {cd : Value} {A : Around} {outer : List Env} {s : Shared} {H : Hp} {E : XK}
noncomputable abbrev cx1 (P : Program) (w : World) (K : PySem.W.Frag) (mg : Str → Option Value) (base : Heap) (N : List Str) (qual : Str) (scope : Scope) (f : Addr) (cd : Value) (A : Around) (outer : List Env) (s : Shared) (H : Hp) (E : XK) : Cx := cxOf (CX1 P w) P w K mg base N qual scope f cd A outer s H E
/-- a new exception leaves the def -/
noncomputable def Raises (X : Cx) (E : XK) : Prop := ∀ (pins : List (Addr × Obj)) (σ : St) (H : Hp) (s : Shared) (e t : Addr) (C : Value), L2.Inv X pins σ H s → s.heap.get? e = some { cls := C, data := .fields #[.ref t, .none, .none, .none, .bool false, .none] } → X.s₀.heap.get? e = none → H e = none → E C none H → X.xe (.ref e) s
theorem raises1 : Raises (cx1 P w K mg base N qual scope f cd A outer s H E) E := fun pins σ H1 s1 e t C I he h0 hn hE => by
  refine leave_new (base := base) I.ok.frames I.stack rfl he rfl rfl rfl fun h' T g => ?_
  refine ⟨e, T, C, H1, rfl, I.os, I.bare, un_gone I rfl rfl rfl g fun b hb => ?_, hok_gone I.hok g (fun b hb => ?_) I.stkFree, hn, Inv.free_none I g.new, h0, Inv.old_none I rfl g.new, g.trc, hE⟩
  · rw [List.mem_singleton.mp hb]; exact h0
  · rw [List.mem_singleton.mp hb]; exact hn
/-- one that came from a callee -/
theorem pass1 : Passes (CX1 P w) (cx1 P w K mg base N qual scope f cd A outer s H E) E := fun pins σ H1 s1 e s' I hc => by
  obtain ⟨a, T, C, H', rfl, os, bare, un, hok, na, nT, ha, hT, tr, hE⟩ := hc
  have I' : L2.Inv (cx1 P w K mg base N qual scope f cd A outer s H E) pins σ H' s' := I.call' (ch := []) os un hok bare fun b z => nomatch z
  have ha0 := Inv.old_none I rfl ha
  have hT0 := Inv.old_none I rfl hT
  have two : ∀ {p : Addr → Prop}, p a → p T → ∀ b ∈ [a, T], p b := fun {p} h1 h2 b hb => by
    rcases List.mem_cons.mp hb with rfl | hb
    · exact h1
    · rw [List.mem_singleton.mp hb]; exact h2
  refine leave_on (base := base) I'.ok.frames I'.stack rfl tr fun h' T' g => ?_
  exact ⟨a, T', C, H', rfl, I'.os, I'.bare, un_gone I' rfl rfl rfl g (two ha0 hT0), hok_gone I'.hok g (two na nT) I'.stkFree, na, Inv.free_none I' g.new, ha0, Inv.old_none I' rfl g.new, g.trc, hE⟩
/-- loops hand it on -/
theorem own1 : PassesOwn (model P w) (cx1 P w K mg base N qual scope f cd A outer s H E).A (cx1 P w K mg base N qual scope f cd A outer s H E).env (cx1 P w K mg base N qual scope f cd A outer s H E).xe := PassesOwn.leaving
end
section
variable {P : Program} {w : World} {K : PySem.W.Frag} {mg : Str → Option Value} {base : Heap}
/-- a def that may raise, by its body -/
theorem ok1 {x qual : Str} {st : Stmt} {f : Addr} {fd : FuncData} {N ps : List Str} {k : Nat} {sp : Sp} (F : Fun K x qual st f fd) (S : FnScope N ps (defScope st)) (len : ∀ vs H Q E, sp vs H Q E → vs.length = ps.length)
    (hbody : ∀ (cdv : Value) (A : Around) (outer : List Env) (s : Shared) (H : Hp) (vs : List V) (Q : VK) (E : XK), Room k (A.deeper (envOfC qual (defScope st) s.heap.objs.size f cdv)) → sp vs H Q E →
      ∃ t, PSs (cx1 P w K mg base N qual (defScope st) f cdv A outer s H E) (defBody st) t ∧ t { nx := fun _ H' => Q .non H', rt := Q } (start N vs) H) : FnOk P w K mg base (CX1 P w) (k + 1) f fd ps sp := by
  obtain ⟨oc, od, kV, doc, pm, an, cdv, ct, osl, rfl, lk, hcd⟩ := F.ex
  exact fn_of lk hcd S len fun A outer s H vs Q E hr hsp => hbody cdv A outer s H vs Q E hr hsp
/-- a def that is never called here -/
theorem never1 {CX : CXT} {k : Nat} {f : Addr} {fd : FuncData} {ps : List Str} : FnOk P w K mg base CX k f fd ps (fun _ _ _ _ => False) := ⟨fun _ _ _ _ h => h.elim, fun _ _ _ _ _ _ _ _ _ _ _ _ _ h => h.elim⟩
end
/-- an own class of exceptions that stands under the built-in one B -/
structure XCls (K : PySem.W.Frag) (B newId initId : String) (bmB : List Value) (C : Addr) : Prop where
  F : ExcBaseFacts B newId initId bmB
  obj : ∀ h : Heap, K.In h → ∃ bm N nm q bs hdct sn sub ab col dd k0 k1 k2 k3 k5 mN, h.get? C = some (excClassObj nm q C N bs bm hdct sn sub ab col dd k0 k1 k2 k3 k5 newId) ∧ h.Ns N mN ∧ mN "__init__" = none ∧ OwnTail h bmB bm
section
variable {X : Cx} {E : XK} {B newId initId : String} {bmB : List Value} {C : Addr} {x : Str} {np cpos pos : Pos} {a : Expr} {ta : TE}
/-- raise C(a) -/
noncomputable def tRaise (E : XK) (C : Value) (ta : TE) : L2.TS := fun _ σ H => ta σ H fun _ H1 => E C none H1
theorem ps_raise (hx : X.ex = []) (R : Raises X E) (hc : X.calm = true) (c : XCls X.K B newId initId bmB C) (hg : Gl X x) (hm : X.mg x = some (.ref C)) (ha : PE X a ta)
    (hs : starEach [a] X.env = [(false, eval a X.env)] := by rfl) (hd : (x == ("__debug__" : Str)) = false := by decide) :
    PS X (.Raise (some (.Call (.Name x np) [a] [] cpos)) none pos) (tRaise E (.ref C) ta) := by
  intro pins s σ H D I h
  obtain ⟨bm, N, nm, q, bs, hdct, sn, sub, ab, col, dd, k0, k1, k2, k3, k5, mN, c1, c2, c3, c4⟩ := c.obj _ I.ok.mod.kin
  have bk : ∀ {σ' : St} {H' : Hp} {s' : Shared}, L2.Inv X pins σ' H' s' → ∀ b o, X.base.get? b = some o → s'.heap.get? b = some o := fun J => J.bk
  refine wpAny_Raise_call_subT (C := C) (nm := nm) (q := q) (N := N) (bs := bs) (bm := bm) (hdct := hdct) (sn := sn) (sub := sub) (ab := ab) (col := col) (dd := dd) (k0 := k0) (k1 := k1) (k2 := k2) (k3 := k3) (k5 := k5) c.F (mN := mN) (c4.hasType c.F.hasBase) (I.ok.hd hc) (by rw [hs]; rfl) c3 ?_
  refine thn (pe_glob (v := .ref C) hg hm rfl hd pins s σ H (fun v H' => v = .ref C ∧ H' = H) I ⟨rfl, rfl⟩) fun u s1 ⟨v, H1, I1, r1, e1, e2⟩ => ?_
  subst e1 e2
  refine ⟨r1, ?_⟩
  rw [hs]
  refine Calls.evalArgs_plain (Calls.spliced_cons (thn (ha pins s1 σ H1 _ I1 h) fun u s2 ⟨v, H2, I2, r2, hE⟩ => Calls.spliced_nil ?_))
  refine ⟨rfl, (by show 1 ≤ sizeLine; decide), bk I2 _ _ c1, c2.keeps (bk I2), c4.keeps (bk I2), fun h' e m => ?_⟩
  obtain ⟨t, g1, g2, g3⟩ := m.there
  exact R pins σ H2 _ e t (.ref C) (I2.kept m.keeps) g1 (Inv.old_none I2 hx m.new) (Inv.free_none I2 m.new) hE
end
end KS
end
section
set_option maxRecDepth 100000
set_option maxHeartbeats 4000000
set_option linter.all false
namespace KS
open PySem PySem.Spec L2
open PyProof.Rows hiding St
section
variable {X : Cx} {pins : List (Addr × Obj)} {σ : St} {H : Hp} {s : Shared}
theorem Inv.nfr (I : L2.Inv X pins σ H s) {b : Addr} (h1 : b ≠ X.env.locals) (h2 : b ∉ X.fs) : b ∉ frs X.stack := fun z => by
  rcases List.mem_cons.mp (I.stkSub b z) with z | z
  · exact h1 z
  · exact h2 z
/-- behind a frame that an exception noted -/
theorem Inv.gone {h' : Heap} {e T : Addr} {C : Value} {gl : List Addr} (I : L2.Inv X pins σ H s) (hx : X.ex = []) (hs : X.stack = X.env :: X.outer) (hf : X.env.frame = some X.env.locals) (g : Gone X.stack e T C gl s.heap h')
    (n0 : ∀ b ∈ gl, X.s₀.heap.get? b = none) (n1 : ∀ b ∈ gl, H b = none) (nf : ∀ b ∈ gl, ∃ o vs, s.heap.get? b = some o ∧ o.data = .fields vs) (np : ∀ p ∈ X.pn ++ pins, p.1 ∉ gl) : L2.Inv X pins σ H { s with heap := h' } := by
  have nL : X.env.locals ∉ gl := fun z => by
    obtain ⟨m, ⟨o, es, ep, ho, hd, _⟩, _⟩ := I.loc
    obtain ⟨o', vs, e1, e2⟩ := nf _ z
    rw [ho] at e1
    cases e1
    rw [hd] at e2
    cases e2
  have nC : ∀ c v, s.heap.IsCell c v → c ∉ gl := fun c v ⟨o, ho, hd⟩ z => by
    obtain ⟨o', vs, e1, e2⟩ := nf _ z
    rw [ho] at e1
    cases e1
    rw [hd] at e2
    cases e2
  have cellK : ∀ c v, s.heap.IsCell c v → h'.IsCell c v := fun c v hc => by
    obtain ⟨o, ho, hd⟩ := id hc
    obtain ⟨sl, e1⟩ := g.slot c o (nC c v hc) ho
    exact ⟨_, e1, hd⟩
  have u := un_gone I hx hs hf g n0
  refine ⟨I.ok, I.os, I.bare, by rw [hx]; exact u, ?_, fun x c e => ?_, I.free, I.freeC, fun p hp => ?_, hok_gone I.hok g n1 I.stkFree, I.len⟩
  · obtain ⟨m, ⟨o, es, ep, ho, r⟩, hl⟩ := I.loc
    obtain ⟨sl, e1⟩ := g.slot _ o nL ho
    refine ⟨m, ⟨_, es, ep, e1, r⟩, fun i x v e1 e2 e3 => ?_⟩
    obtain ⟨w, r1, q⟩ := hl i x v e1 e2 e3
    refine ⟨w, r1, ?_⟩
    rcases q with q | ⟨k, c, e, z⟩
    · exact .inl q
    · exact .inr ⟨k, c, e, cellK c _ z⟩
  · obtain ⟨v, z⟩ := I.cell x c e
    exact ⟨v, cellK c v z⟩
  · obtain ⟨e1, n, ne, nfs, d⟩ := I.pin p hp
    exact ⟨g.keep p.1 p.2 (np p hp) (Inv.nfr I ne nfs) e1, n, ne, nfs, d⟩
/-- one record of no account changed -/
theorem Inv.record {h' : Heap} {T : Addr} {t' : Nat} (I : L2.Inv X pins σ H s) (hx : X.ex = []) (keep : ∀ b o, b ≠ T → s.heap.get? b = some o → h'.get? b = some o) (n0 : X.s₀.heap.get? T = none) (n1 : H T = none) (nf : ∃ o vs, s.heap.get? T = some o ∧ o.data = .fields vs) (np : ∀ p ∈ X.pn ++ pins, p.1 ≠ T) :
    L2.Inv X pins σ H { s with heap := h', toks := t' } := by
  obtain ⟨oT, vs, hT, hd⟩ := nf
  have nL : X.env.locals ≠ T := fun z => by
    obtain ⟨m, ⟨o, es, ep, ho, hd', _⟩, _⟩ := I.loc
    rw [z, hT] at ho
    cases ho
    rw [hd] at hd'
    cases hd'
  have nC : ∀ c v, s.heap.IsCell c v → c ≠ T := fun c v ⟨o, ho, hd'⟩ z => by
    rw [z, hT] at ho
    cases ho
    rw [hd] at hd'
    cases hd'
  have cellK : ∀ c v, s.heap.IsCell c v → h'.IsCell c v := fun c v hc => by
    obtain ⟨o, ho, hd⟩ := id hc
    exact ⟨_, keep c o (nC c v hc) ho, hd⟩
  have u := I.base
  rw [hx] at u
  have ns : ∀ b o, X.s₀.heap.get? b = some o → b ≠ T := fun b o e z => by rw [z, n0] at e; cases e
  have u2 : Un X.fs [] X.H₀ H X.s₀.heap h' := by
    refine ⟨fun b o q n nb nx => keep b o (ns b o q) (u.keep b o q n nb nx), fun b o q n nb nx => ?_, u.free, fun b o q nx => ?_, u.tups, u.frzs, u.tbls⟩
    · obtain ⟨sl, e1⟩ := u.slot b o q n nb nx
      exact ⟨sl, keep b _ (ns b o q) e1⟩
    · obtain ⟨o', e1⟩ := u.there b o q nx
      exact ⟨o', keep b _ (ns b o q) e1⟩
  refine ⟨I.ok, I.os, I.bare, by rw [hx]; exact u2, ?_, fun x c e => ?_, I.free, I.freeC, fun p hp => ?_, fun a o ha => ?_, I.len⟩
  · obtain ⟨m, ⟨o, es, ep, ho, r⟩, hl⟩ := I.loc
    refine ⟨m, ⟨_, es, ep, keep _ o nL ho, r⟩, fun i x v e1 e2 e3 => ?_⟩
    obtain ⟨w, r1, q⟩ := hl i x v e1 e2 e3
    refine ⟨w, r1, ?_⟩
    rcases q with q | ⟨k, c, e, z⟩
    · exact .inl q
    · exact .inr ⟨k, c, e, cellK c _ z⟩
  · obtain ⟨v, z⟩ := I.cell x c e
    exact ⟨v, cellK c v z⟩
  · obtain ⟨e1, n, ne, nfs, d⟩ := I.pin p hp
    exact ⟨keep p.1 p.2 (np p hp) e1, n, ne, nfs, d⟩
  · have tr : ∀ b v, H b = some v → b ≠ T := fun b v hb z => by rw [z, n1] at hb; cases hb
    refine (I.hok a o ha).stay (fun b v hb hv => ?_) (fun _ q => q) fun _ _ q => q
    rcases hb with rfl | hb
    · exact keep b v (tr b o ha) hv
    · exact keep b v (tr b _ hb) hv
/-- a local name that goes -/
theorem Inv.name_gone {M : Model} {A : Around} {E : Value → Shared → Prop} {i : Nat} {n : Str} {pos : Pos} {Q : Unit → Shared → Prop} (I : L2.Inv X pins σ H s) (hN : X.N.Nodup) (hi : X.N[i]? = some n) (hl : X.env.kindOf n = some .local)
    (q : ∀ s', L2.Inv X pins (σ.set i none) H s' → Q () s') : wpAny M A (do bindName X.env n .none; unbindBehindTheSuite X.env n pos) Q E s := by
  obtain ⟨m, hn, hv⟩ := id I.loc
  have hcls : (X.env.scope.kind == .class || (X.env.scope.kind == .module && X.env.locals != X.env.globals)) = false := by rw [I.ok.kind]; rfl
  obtain ⟨oL, _, _, hoL, _⟩ := id hn
  have cne := I.cne
  refine wpAny_nameGoes_keeps hl hn hcls fun h' v hn' hs => q _ ?_
  have low : ∀ b o, X.s₀.heap.get? b = some o → b ≠ X.env.locals := fun b o e => Nat.ne_of_lt (Nat.lt_of_lt_of_le (Heap.lt_size e) I.ok.above)
  refine ⟨I.ok, I.os, I.bare, ⟨fun b o e n hb hx => (hs.2 b (low b o e)).trans (I.base.keep b o e n hb hx), fun b o e n hb hx => ?_, I.base.free, fun b o e hx => ?_, I.base.tups, I.base.frzs, I.base.tbls⟩, ⟨_, hn', fun j y v' e1 e2 e3 => ?_⟩, fun y c e => ?_, I.free, I.freeC, fun p hp => ?_, fun b ob e => ?_, by rw [List.length_set]; exact I.len⟩
  · obtain ⟨sl, e1⟩ := I.base.slot b o e n hb hx
    exact ⟨sl, (hs.2 b (low b o e)).trans e1⟩
  · obtain ⟨o', e1⟩ := I.base.there b o e hx
    exact ⟨o', (hs.2 b (low b o e)).trans e1⟩
  · by_cases hj : j = i
    · subst hj
      by_cases hlt : j < σ.length
      · rw [List.getElem?_set_self hlt] at e2
        cases e2
      · rw [List.getElem?_eq_none (by rw [List.length_set]; omega)] at e2
        cases e2
    · rw [List.getElem?_set_ne (Ne.symm hj)] at e2
      obtain ⟨u', r', z⟩ := hv j y v' e1 e2 e3
      refine ⟨u', r', ?_⟩
      rcases z with ⟨k, e⟩ | ⟨k, c, e, z⟩
      · refine .inl ⟨k, ?_⟩
        have : y ≠ n := fun e => hj (nodup_ix hN e1 (e ▸ hi))
        simp [this, e]
      · exact .inr ⟨k, c, e, z.sameBut hs (cne y c e)⟩
  · obtain ⟨w', z⟩ := I.cell y c e
    exact ⟨w', z.sameBut hs (cne y c e)⟩
  · obtain ⟨e, n, ne, nf, d⟩ := I.pin p hp
    exact ⟨(hs.2 p.1 ne).trans e, n, ne, nf, d⟩
  · refine (I.hok b ob e).stay (fun c w' hc q => (hs.2 c ?_).trans q) (fun _ q => q) fun _ _ q => q
    rintro rfl
    rcases hc with rfl | hc
    · rw [I.free] at e; cases e
    · rw [I.free] at hc; cases hc
end
/-- setFlight of a noted exception -/
theorem flight0 {M : Model} {A : Around} {E : Value → Shared → Prop} {s : Shared} {e T : Addr} {C fl : Value} {Q : Unit → Shared → Prop} (t : Trc s.heap e T C fl)
    (q : ∀ h', (∀ b o, b ≠ T → s.heap.get? b = some o → h'.get? b = some o) → Q () { s with heap := h' }) : wpAny M A (setFlight (.ref e) none) Q E s := by
  obtain ⟨⟨oe, vs, a1, a2, a3, a4, a5⟩, ne, ⟨oT, ts, b1, b2, b3⟩⟩ := t
  unfold setFlight
  refine wpAny_bind (wpAny_field a1 a4 a5 ?_)
  rw [if_pos (show (Value.ref T != Value.none) = true by simp)]
  exact wpAny_setField b1 b2 (Array.getElem?_eq_some_iff.mp b3).1 (q _ fun b o hb ho => (Heap.get?_update_other _ _ (Ne.symm hb)).trans ho)
/-- the context of an except suite -/
noncomputable def hcx (X : Cx) (a : Addr) (oe : Obj) : Cx := { X with A := X.A.mark (some (.ref a)), calm := false, pn := X.pn ++ [(a, oe)], xe := fun _ _ => False }
section
variable {X : Cx} {pins : List (Addr × Obj)} {σ : St} {H : Hp} {s : Shared} {a : Addr} {oe : Obj}
theorem Inv.into (I : L2.Inv X pins σ H s) (h1 : s.heap.get? a = some oe) (h2 : H a = none) (h3 : a ≠ X.env.locals) (h4 : a ∉ X.fs) (h5 : ∀ v, oe.data ≠ .cell v) : L2.Inv (hcx X a oe) pins σ H s := by
  refine ⟨⟨I.ok.mod, I.ok.kind, I.ok.glob, I.ok.blt, I.ok.above, I.ok.inj, I.ok.has, I.ok.cab, (fun z => nomatch z), I.ok.frames, I.ok.stk, I.ok.exf, I.ok.bs, I.ok.bsz, I.ok.noex, I.ok.exfs, I.ok.funs, I.ok.frf⟩, I.os, I.bare, I.base, I.loc, I.cell, I.free, I.freeC, fun p hp => ?_, I.hok, I.len⟩
  rcases List.mem_append.mp hp with hp | hp
  · rcases List.mem_append.mp hp with hp | hp
    · exact I.pin p (List.mem_append_left _ hp)
    · rw [List.mem_singleton.mp hp]
      exact ⟨h1, h2, h3, h4, h5⟩
  · exact I.pin p (List.mem_append_right _ hp)
theorem Inv.outof (ok : X.Ok) (I : L2.Inv (hcx X a oe) pins σ H s) : L2.Inv X pins σ H s :=
  ⟨ok, I.os, I.bare, I.base, I.loc, I.cell, I.free, I.freeC, fun p hp => I.pin p (by
    rcases List.mem_append.mp hp with hp | hp
    · exact List.mem_append_left _ (List.mem_append_left _ hp)
    · exact List.mem_append_right _ hp), I.hok, I.len⟩
end
/-- what is asked of an own class of exceptions for isinstance -/
structure XIs (K : PySem.W.Frag) (D : Addr) : Prop where
  hd : PySem.W.hasDictIn K D = true
  ha : PySem.W.findIn K (.ref D) "__class__" = some (some (.builtin "object.__class__"))
  hn : PySem.W.specialIn K (.builtin "object.__class__") "__get__" = some (some (.builtin "getset_descriptor.__get__"))
  ht : PySem.W.takesIn K (.builtin "object.__class__") = some true
  hm : PySem.W.mroIn K D (.type "object") = some true
  hb : PySem.W.mroIn K D (.type "BaseException") = some true
  hga : PySem.W.findIn K (.ref D) "__getattribute__" = some (some (.builtin "BaseException.__getattribute__"))
  hgn : PySem.W.findIn K (.ref D) "__getattr__" = some none
section
open PySem.W
variable {prog : Program} {w : World} {A : Around} {E : Value → Shared → Prop} {K : Frag} {h : Heap} {g : Array GenState} {d : Drawn} {t : Nat} {os : OsState} {a D : Addr} {ox : Obj}
theorem cls_call {tk : Tok} {R : Result → Shared → Prop} (X : K.In h) (I : InstAt h a ox D none) (c : XIs K D)
    (q : R (.ok (.ret (.ref D))) ⟨h, g, d, t, os⟩) : codeAny (model prog w) A (.call (.builtin "BaseException.__getattribute__") ⟨[.ref a, .str "__class__" tk], []⟩) R ⟨h, g, d, t, os⟩ := by
  have L0 := I.type (M := model prog w)
  have hf : findObj K D none "__class__" = some (.bind (.builtin "getset_descriptor.__get__") (.builtin "object.__class__")) := by
    obtain ⟨cd, hcd, _⟩ := any_some c.hd
    unfold findObj
    simp [hcd, c.ha, c.hn, c.ht]
  have L3 := looks_find (M := model prog w) X I hf
  have L4 := looks_mroIn (M := model prog w) X c.hb
  refine codeAny_call_builtin PySem.F.attr_ValueError.ga.plain F.entry_bexc_ga ?_
  have hk : builtinKind "BaseException.__getattribute__" = some .slot := by decide +kernel
  have hsplit : splitId "BaseException.__getattribute__" = some ("BaseException", "__getattribute__") := by decide +kernel
  have ha := F.args_bexc_ga (.ref a) (.str "__class__" tk)
  simp only [checkBuiltinCall, hk, hsplit]
  refine wpAny_bind ?_
  unfold isInstance
  refine wpAny_bind (L0.at (L4.at ?_))
  rw [if_neg (by decide)]
  have main : wpAny (model prog w) A.in1 (Builtin.«object.__getattribute__» ⟨[.ref a, .str "__class__" tk], []⟩) (fun fin s' => match fin with | .done f => R (.ok f) s' | .again c' => c'.quiet = true ∧ codeAny (model prog w) A c' R s') (fun e s' => R (.error e) s') ⟨h, g, d, t, os⟩ := by
    unfold Builtin.«object.__getattribute__»
    refine wpAny_bind (wpAny_pure (wpAny_bind (wpAny_pure (wpAny_bind (L0.at (wpAny_bind (L3.at ?_)))))))
    dsimp only
    unfold Builtin.ObjectAttr.bindTo
    dsimp only
    refine wpAny_bind (wpAny_holding (wpAny_call (class_get (od := none) X I c.hm ?_)))
    exact wpAny_pure q
  unfold argsOk at ha
  generalize Manifest.signature? "BaseException.__getattribute__" = sg at ha ⊢
  cases sg with
  | none => exact wpAny_pure main
  | some sig =>
    dsimp only at ha ⊢
    rw [ha]
    exact wpAny_pure main
theorem cls_attr {Q : Option Value → Shared → Prop} {s : Shared} (X : K.In s.heap) (I : InstAt s.heap a ox D none) (c : XIs K D)
    (q : Q (some (.ref D)) { s with toks := s.toks + 1 }) : wpAny (model prog w) A (getAttr? (.ref a) "__class__") Q E s := by
  obtain ⟨h, g, d, t, os⟩ := s
  have L0 := I.type (M := model prog w)
  have L1 := looks_findIn (M := model prog w) X c.hga
  have L2 := looks_findIn (M := model prog w) X c.hgn
  unfold getAttr? getAttrBy? getAttrBy
  refine wpAny_bind (wpAny_mkText (wpAny_bind (wpAny_attempt (wpAny_holding (wpAny_bind (L0.at (wpAny_bind (L1.at ?_))))))))
  dsimp only
  rw [if_neg (by simp [onTheHeap])]
  unfold getAttrByItsOwn hookBefore
  rw [if_pos (by rfl)]
  refine wpAny_bind (L2.at (wpAny_bind (wpAny_attempt (wpAny_holding ?_))))
  unfold callGetattribute boundAndCalled
  rw [if_neg (by decide)]
  refine wpAny_bind (wpAny_of_eq (PySem.F.attr_ValueError.ga.bind (.ref a)) ?_)
  refine wpAny_call (cls_call X I c ?_)
  refine handed_on rfl ?_
  exact wpAny_pure q
theorem kitx_exc {x : Addr} (c : XIs K D) : KitX K (.ref x) (.ref D) (fun h => InstAt h x ox D none) where
  ty := fun _ _ _ I => I.type
  it := fun _ _ X _ => by
    obtain ⟨cd, hcd, _⟩ := any_some c.hd
    unfold clsIn at hcd
    split at hcd
    · rename_i q1 q2 q3 q4 hob
      intro A1 Q1 E1 s1 kk qq
      unfold isType loadHead
      exact wpAny_bind (wpAny_loadPart (kk _ _ (X _ _ hob)) (wpAny_pure qq))
    · cases hcd
  ne := fun h tp dd its n sl X htp => by
    obtain ⟨cd, hcd, _⟩ := any_some c.hd
    refine Bool.eq_false_iff.mpr fun z => ?_
    obtain rfl : D = tp := Value.ref.inj (beq_iff_eq.mp z)
    unfold clsIn at hcd
    split at hcd
    · rename_i q1 q2 q3 q4 hob
      have zz := (X _ _ hob).symm.trans htp
      cases zz
    · cases hcd
  ca := fun X I k => cls_attr X I c k
theorem kit_self {C : Addr} : kitOne K (.ref C) (.ref C) = some true := by
  unfold kitOne
  rw [if_pos (beq_self_eq_true _)]
theorem kitc {C : Addr} {b : Bool} (h1 : isClsIn K D = true) (h2 : typeIn K (.ref D) = some (.type "type")) (h3 : mroIn K C (.ref D) = some b) : kitCls K (.ref C) (.ref D) = some b := by
  unfold isClsIn at h1
  show (if ((clsIn K D).isSome && typeIn K (.ref D) == some (.type "type")) = true then subIn K (.ref C) (.ref D) else none) = some b
  rw [h1, h2, if_pos (by rfl)]
  exact h3
theorem kit_not {C : Addr} (h0 : mroIn K C (.ref C) = some true) (h1 : isClsIn K D = true) (h2 : typeIn K (.ref D) = some (.type "type")) (h3 : mroIn K C (.ref D) = some false) : kitOne K (.ref C) (.ref D) = some false := by
  unfold kitOne
  rw [if_neg fun z => by
    obtain rfl : C = D := Value.ref.inj (beq_iff_eq.mp z)
    rw [h0] at h3
    cases h3]
  exact kitc h1 h2 h3
theorem kit_ty {C : Addr} (h : mroIn K C (.type "ValueError") = some true) : kitOne K (.ref C) (.type "ValueError") = some true := by
  unfold kitOne
  rw [if_neg (fun z => by cases beq_iff_eq.mp z)]
  show (if kitMeta "ValueError" = true then subIn K (.ref C) (.type "ValueError") else none) = some true
  rw [if_pos (by decide +kernel)]
  exact h
theorem exm_of {C : Addr} (h0 : mroIn K D (.type "BaseException") = some true) (h1 : isClsIn K D = true) (h2 : typeIn K (.ref D) = some (.type "type")) (h3 : mroIn K C (.ref D) = some true) : exmOne K (.ref C) (.ref D) = some true := by
  unfold exmOne
  rw [if_pos (by show ((mroIn K D (.type "BaseException")) == some true) = true; rw [h0]; rfl)]
  exact kitc h1 h2 h3
end
/-- an exception's own object -/
structure ExO (oe : Obj) (D : Addr) : Prop where
  cls : oe.cls = .ref D
  dict : oe.dict = none
  data : ∃ vs, oe.data = .fields vs
theorem ExO.inst {h : Heap} {a D : Addr} {oe : Obj} (x : ExO oe D) (e : h.get? a = some oe) : PySem.W.InstAt h a oe D none := by
  obtain ⟨vs, hv⟩ := x.data
  refine ⟨e, x.cls, ?_, ?_⟩
  · unfold PySem.W.notCls
    rw [hv]
  · rw [x.dict]
    trivial
section
variable {X : Cx} {K : PySem.W.Frag} {a : Addr} {oe : Obj}
/-- isinstance(n, C), n the exception that is handled -/
noncomputable def rIsE (K : PySem.W.Frag) (a : Addr) (oe : Obj) : List V → Hp → VK → Prop := fun xs H Q => ∃ (D : Addr) (v : V) (c : Value) (b : Bool), xs = [.ref a, v] ∧ (∀ u, RelV v u → u = c) ∧ ExO oe D ∧ XIs K D ∧ PySem.W.kitOne K (.ref D) c = some b ∧ Q (.bl b) H
theorem call_isE (hK : X.K = K) : CallR (hcx X a oe) (.builtin "isinstance") (rIsE K a oe) := by
  subst hK
  intro pins s σ H xs us Q I r h
  obtain ⟨D, v, c, b, rfl, hv, x, xi, e, q⟩ := h
  obtain ⟨u, v', rfl, rx, ry⟩ := r.two
  cases (show u = Value.ref a from rx)
  obtain rfl := hv _ ry
  have hp := (I.pin (a, oe) (List.mem_append_left _ (List.mem_append_right _ (List.mem_singleton.mpr rfl)))).1
  exact PySem.W.kia_one (kitx_exc (K := X.K) (x := a) (ox := oe) xi) I.kIn (x.inst hp) e (fun z => nomatch z) fun tk => ⟨.bl b, H, I.tok tk, rfl, q⟩
end
section
variable {X : Cx} {k : Nat} {f Dc : Addr} {fd : FuncData} {ps : List Str} {sp : Sp} {x y n : Str} {p cpos epos np hpos pos : Pos} {e : Expr} {es : List Expr} {ta : TA} {b₀ : Stmt} {suite : List Stmt} {th : Addr → Obj → L2.TS} {i : Nat}
/-- try: f(..) except C as n: suite -/
noncomputable def tTry (K : PySem.W.Frag) (sp : Sp) (ta : TA) (Dc : Addr) (i : Nat) (th : Addr → Obj → L2.TS) : L2.TS := fun D σ H => ta σ H fun vs H1 => sp vs H1 (fun _ H2 => D.nx σ H2) fun C _ H2 =>
  ∃ Ca, C = .ref Ca ∧ PySem.W.exmOne K (.ref Ca) (.ref Dc) = some true ∧ ∀ a oe, H2 a = none → ExO oe Ca → th a oe { nx := fun σ' H' => D.nx (σ'.set i none) H', rt := D.rt } (σ.set i (some (.ref a))) H2
theorem ps_try (hx : X.ex = []) (hs : X.stack = X.env :: X.outer) (hf : X.env.frame = some X.env.locals) (F : FnOk X.prog X.w X.K X.mg X.base (CX1 X.prog X.w) k f fd ps sp) (hr : Room k X.A) (hg : Gl X x) (hm : X.mg x = some (.ref f)) (hk : PySem.W.keepIn X.K (.ref f) = true) (hb : Binds X.K fd ps []) (ha : PA X.nox (e :: es) ta)
    (hgy : Gl X y) (hmy : X.mg y = some (.ref Dc)) (hN : X.N.Nodup) (hi : X.N[i]? = some n) (hl : X.env.kindOf n = some .local) (hh : ∀ a oe, PSs (hcx X a oe) (b₀ :: suite) (th a oe))
    (hdb : (x == ("__debug__" : Str)) = false := by decide) (hdy : (y == ("__debug__" : Str)) = false := by decide) (he : starEach (e :: es) X.env = (false, eval e X.env) :: starEach es X.env := by rfl) (hpl : (backTo cpos (starEach es X.env)).any (·.1) = false := by rfl)
    (hsw : swapsWith (.Call (.Name x p) (e :: es) [] cpos) none epos.line X.env = pure false := by rfl) :
    PS X (.Try [.Expr (.Call (.Name x p) (e :: es) [] cpos) epos] [.ExceptHandler (some (.Name y np)) (some n) (b₀ :: suite) hpos] [] [] pos) (tTry X.K sp ta Dc i th) := by
  intro pins s σ H D I h
  refine wpAny_Try_except (wpAny_execs_cons (wpAny_Expr_any ?_ I.quiet hsw))
  refine wpAny_Call_Name_kw (ld_glob I hg hm ?_ hdb)
  refine PySem.W.callWith_K (h₀ := X.base) I.ok.mod.kin hk (wpAny_mono (ha cpos pins s σ H _ (I.wish _) h) (fun us s1 ⟨vs, H1, I1', r, q⟩ => ?_) (fun _ _ z => z.elim)) he hpl
  have I1 := I1'.unwish
  refine ⟨I1.kIn, ?_⟩
  have hlen : us.length = ps.length := by rw [← r.length]; exact F.len _ _ _ _ q
  have hbb := hb s1 us I1.kIn (by rw [List.append_nil]; exact hlen)
  rw [List.append_nil] at hbb
  refine wpAny_call (codeAny_mono (F.run X.A X.stack s1 H1 ⟨us, []⟩ us vs _ _ hr I1.env0 hbb r q) fun rr s' hq => ?_)
  cases rr with
  | ok fl =>
    cases fl with
    | ret u =>
      obtain ⟨v, H2, I2, _, q2⟩ := I1.after hq
      exact wpAny_execs_nil (wpAny_execs_nil ⟨σ, H2, I2, q2⟩)
    | next => exact False.elim hq
    | brk => exact False.elim hq
    | cont => exact False.elim hq
  | error ee =>
    obtain ⟨a, T, C, H2, rfl, os, bare, un, hok, na, nT, ha0, hT0, tr, Ca, rfl, hm1, hE⟩ := hq
    have I2 : L2.Inv X pins σ H2 s' := I1.call' (ch := []) os un hok bare fun b z => nomatch z
    have two : ∀ {p : Addr → Prop}, p a → p T → ∀ b ∈ [a, T], p b := fun {p} h1 h2 b hb => by
      rcases List.mem_cons.mp hb with rfl | hb
      · exact h1
      · rw [List.mem_singleton.mp hb]; exact h2
    have oa := Inv.old_none I1 hx ha0
    have oT := Inv.old_none I1 hx hT0
    refine noted_on (base := X.base) (env := X.env) (outer := X.outer) (by rw [I2.ok.frames, hs]) (by rw [← hs]; exact I2.stack) hf tr fun h' T' g => ?_
    rw [← hs] at g
    have I3 : L2.Inv X pins σ H2 { s' with heap := h' } := by
      refine Inv.gone I2 hx hs hf g (two oa oT) (two na nT) (two ?_ ?_) fun p hp z => ?_
      · obtain ⟨⟨oe, vs, a1, _, _, a4, _⟩, _, _⟩ := tr
        exact ⟨oe, vs, a1, a4⟩
      · obtain ⟨_, _, ⟨oT, ts, b1, b2, _⟩⟩ := tr
        exact ⟨oT, ts, b1, b2⟩
      · have hp1 := (I1.pin p hp).1
        rcases List.mem_cons.mp z with z | z
        · rw [z, ha0] at hp1; cases hp1
        · rw [List.mem_singleton.mp z, hT0] at hp1; cases hp1
    obtain ⟨⟨oe, vs, a1, a2, a3, a4, a5⟩, ne, stn⟩ := id g.trc
    have xo : ExO oe Ca := ⟨a2, a3, vs, a4⟩
    have aL : a ≠ X.env.locals := fun z => by
      obtain ⟨m, ⟨o, es, ep, ho, hd, _⟩, _⟩ := I3.loc
      rw [← z] at ho
      rw [show h'.get? a = some o from ho] at a1
      cases a1
      rw [hd] at a4
      cases a4
    have aF : a ∉ X.fs := fun z => by
      obtain ⟨_, o, ho, nf⟩ := I3.funs.mem z
      rw [show h'.get? a = some o from ho] at a1
      cases a1
      exact nf vs a4
    have I4 : L2.Inv (hcx X a oe) pins σ H2 { s' with heap := h' } := Inv.into I3 a1 na aL aF fun v z => by rw [a4] at z; cases z
    refine wpAny_handleBy_cons (codeAny_handlers_test ?_) (by intro z; cases z)
    refine ld_glob (X := hcx X a oe) I4 hgy hmy ?_ hdy
    refine (PySem.W.exm_one (M := model X.prog X.w) I3.kIn (xo.inst a1).type hm1).here ?_
    show codeAny _ _ _ _ _
    refine codeAny_handlers_suite_as ?_
    refine flight0 g.trc fun h2 hk2 => ?_
    have I5 : L2.Inv (hcx X a oe) pins σ H2 { s' with heap := h2, toks := s'.toks } := by
      refine Inv.record (s := { s' with heap := h' }) (t' := s'.toks) I4 hx hk2 (Inv.old_none I2 hx g.new) (Inv.free_none I2 g.new) ?_ fun p hp z => ?_
      · obtain ⟨oT, ts, b1, b2, _⟩ := stn
        exact ⟨oT, ts, b1, b2⟩
      · rcases List.mem_append.mp hp with hp | hp
        · rcases List.mem_append.mp hp with hp | hp
          · have := (I2.pin p (List.mem_append_left _ hp)).1
            rw [z, g.new] at this
            cases this
          · rw [List.mem_singleton.mp hp] at z
            exact ne z.symm
        · have := (I2.pin p (List.mem_append_right _ hp)).1
          rw [z, g.new] at this
          cases this
    refine store_ok (X := hcx X a oe) (v := .ref a) I5 hN hi (.inl hl) rfl (fun s6 I6 => ?_) (.inr hl)
    refine wpAny_mono (hh a oe pins s6 _ H2 _ I6 (hE a oe na xo)) (fun fl s7 q7 => ?_) (fun _ _ z => z.elim)
    cases fl with
    | next =>
      obtain ⟨σ7, H7, I7, n7⟩ := q7
      exact Inv.name_gone (Inv.outof I3.ok I7) hN hi hl fun s8 I8 => ⟨_, H7, I8, n7⟩
    | ret u =>
      obtain ⟨v, σ7, H7, I7, r7, n7⟩ := q7
      exact Inv.name_gone (Inv.outof I3.ok I7) hN hi hl fun s8 I8 => ⟨v, _, H7, I8, r7, n7⟩
    | brk =>
      obtain ⟨σ7, H7, I7, n7⟩ := q7
      exact n7.elim
    | cont =>
      obtain ⟨σ7, H7, I7, n7⟩ := q7
      exact n7.elim
end
end KS
end
section
set_option maxRecDepth 100000
set_option linter.all false
namespace KS
open PySem PySem.Spec L2
open PyProof.Rows hiding St
abbrev bmVE : List Value := [.type "ValueError", .type "Exception", .type "BaseException", .type "object"]
theorem xcls_of {K : PySem.W.Frag} {C : Addr} (q : PySem.W.excIn K C bmVE "ValueError.__new__" = true) : XCls K "ValueError" "ValueError.__new__" "ValueError.__init__" bmVE C := by
  refine ⟨PySem.F.excBase_ValueError, fun h X => ?_⟩
  unfold PySem.W.excIn at q
  split at q
  · rename_i dd cd sl hob
    split at q
    · rename_i C1 bm j0 j1 j2 j3 nw j5 g1 g2
      simp only [Bool.and_eq_true, beq_iff_eq, Bool.not_eq_true'] at q
      obtain ⟨⟨⟨⟨⟨rfl, rfl⟩, q1⟩, q2⟩, q3⟩, q4⟩ := q
      obtain ⟨nm, bs, mro, ns, qn, hd, sn, sub, ab, col, del⟩ := cd
      dsimp only at g1 q1 q3 q4
      subst g1 q1
      obtain rfl : sl = #[j0, j1, j2, j3, some (.builtin "ValueError.__new__"), j5] := by
        obtain ⟨l⟩ := sl
        simp only at g2
        rw [g2]
      exact ⟨bm, ns, nm, qn, bs, hd, sn, sub, ab, col, dd, j0, j1, j2, j3, j5, _, X _ _ hob, .of_isNs (PySem.W.isNs_of_in X q3), PySem.W.nsMap_none_of_in X q3 q4, PySem.W.tail_of_in X q2⟩
    · cases q
  · cases q
/-- a def that never raises, among those that may -/
theorem lift1 {P : Program} {w : World} {K : PySem.W.Frag} {mg : Str → Option Value} {base : Heap} {k : Nat} {f : Addr} {fd : FuncData} {ps : List Str} {sp : Sp} (F : FnOk P w K mg base CX0 k f fd ps sp) : FnOk P w K mg base (CX1 P w) k f fd ps sp :=
  ⟨F.len, fun A outer s H args us vs Q E hr he hb hv hs => codeAny_mono (F.run A outer s H args us vs Q E hr he hb hv hs) fun r s' hq => by
    cases r with
    | error e => exact False.elim hq
    | ok fl => cases fl <;> exact hq⟩
end KS
end
set_option Elab.async false
set_option maxRecDepth 100000
set_option maxHeartbeats 4000000
set_option linter.all false
namespace KS
open PySem PySem.Spec L2
open PyProof.Rows hiding St
noncomputable def top (i : Nat) : Stmt := PySem.Challenge.pw_keenscale_k14_each_refusal_its_own.main.body.getD i (.Pass ⟨0, 0, 0, 0⟩)
/-- Python's own names are free -/
structure Bl (mg : Str → Option Value) : Prop where
  len : mg "len" = none
  range : mg "range" = none
  list : mg "list" = none
  sorted : mg "sorted" = none
  set : mg "set" = none
  isinstance : mg "isinstance" = none
  int : mg "int" = none
  bool : mg "bool" = none
  tuple : mg "tuple" = none
  str : mg "str" = none
  max : mg "max" = none
  min : mg "min" = none
  zip : mg "zip" = none
  ValueError : mg "ValueError" = none
/-- a def of the text -/
structure Df (K : PySem.W.Frag) (mg : Str → Option Value) (x : Str) (st : Stmt) (f : Addr) (fd : FuncData) : Prop where
  F : Fun K x x st f fd
  m : mg x = some (.ref f)
noncomputable abbrev mkSc (names : List (Str × NameKind)) : Scope := { kind := .function, names := names, isGenerator := false, isCoroutine := false, more := [] }
theorem us1 {n : Nat} {us : List Value} (h : us.length = n + 1) : ∃ u r, us = u :: r ∧ r.length = n := by
  cases us with
  | nil => cases h
  | cons u r => exact ⟨u, r, rfl, Nat.succ.inj h⟩
theorem bd1 {K : PySem.W.Frag} {x : Str} {st : Stmt} {f : Addr} {fd : FuncData} {p0 : Str} (F : Fun K x x st f fd) (h : ∀ (kV doc pm : Value) (an : Option Addr) (cdv ct u0 : Value), bindArgs (PySem.W.fnOf x x (defArgs st) (defBody st) (defScope st) .none kV doc pm an cdv ct) ⟨[u0], []⟩ = pure [(p0, u0)]) : Binds K fd [p0] [] :=
  F.binds fun _ _ _ _ _ _ us hl => by
    obtain ⟨u0, r0, rfl, h0⟩ := us1 hl
    obtain rfl := List.eq_nil_of_length_eq_zero h0
    exact h _ _ _ _ _ _ _
theorem bd2 {K : PySem.W.Frag} {x : Str} {st : Stmt} {f : Addr} {fd : FuncData} {p0 p1 : Str} (F : Fun K x x st f fd) (h : ∀ (kV doc pm : Value) (an : Option Addr) (cdv ct u0 u1 : Value), bindArgs (PySem.W.fnOf x x (defArgs st) (defBody st) (defScope st) .none kV doc pm an cdv ct) ⟨[u0, u1], []⟩ = pure [(p0, u0), (p1, u1)]) : Binds K fd [p0, p1] [] :=
  F.binds fun _ _ _ _ _ _ us hl => by
    obtain ⟨u0, r0, rfl, h0⟩ := us1 hl
    obtain ⟨u1, r1, rfl, h1⟩ := us1 h0
    obtain rfl := List.eq_nil_of_length_eq_zero h1
    exact h _ _ _ _ _ _ _ _
theorem bd3 {K : PySem.W.Frag} {x : Str} {st : Stmt} {f : Addr} {fd : FuncData} {p0 p1 p2 : Str} (F : Fun K x x st f fd) (h : ∀ (kV doc pm : Value) (an : Option Addr) (cdv ct u0 u1 u2 : Value), bindArgs (PySem.W.fnOf x x (defArgs st) (defBody st) (defScope st) .none kV doc pm an cdv ct) ⟨[u0, u1, u2], []⟩ = pure [(p0, u0), (p1, u1), (p2, u2)]) : Binds K fd [p0, p1, p2] [] :=
  F.binds fun _ _ _ _ _ _ us hl => by
    obtain ⟨u0, r0, rfl, h0⟩ := us1 hl
    obtain ⟨u1, r1, rfl, h1⟩ := us1 h0
    obtain ⟨u2, r2, rfl, h2⟩ := us1 h1
    obtain rfl := List.eq_nil_of_length_eq_zero h2
    exact h _ _ _ _ _ _ _ _ _
theorem bd4 {K : PySem.W.Frag} {x : Str} {st : Stmt} {f : Addr} {fd : FuncData} {p0 p1 p2 p3 : Str} (F : Fun K x x st f fd) (h : ∀ (kV doc pm : Value) (an : Option Addr) (cdv ct u0 u1 u2 u3 : Value), bindArgs (PySem.W.fnOf x x (defArgs st) (defBody st) (defScope st) .none kV doc pm an cdv ct) ⟨[u0, u1, u2, u3], []⟩ = pure [(p0, u0), (p1, u1), (p2, u2), (p3, u3)]) : Binds K fd [p0, p1, p2, p3] [] :=
  F.binds fun _ _ _ _ _ _ us hl => by
    obtain ⟨u0, r0, rfl, h0⟩ := us1 hl
    obtain ⟨u1, r1, rfl, h1⟩ := us1 h0
    obtain ⟨u2, r2, rfl, h2⟩ := us1 h1
    obtain ⟨u3, r3, rfl, h3⟩ := us1 h2
    obtain rfl := List.eq_nil_of_length_eq_zero h3
    exact h _ _ _ _ _ _ _ _ _ _
theorem bd5 {K : PySem.W.Frag} {x : Str} {st : Stmt} {f : Addr} {fd : FuncData} {p0 p1 p2 p3 p4 : Str} (F : Fun K x x st f fd) (h : ∀ (kV doc pm : Value) (an : Option Addr) (cdv ct u0 u1 u2 u3 u4 : Value), bindArgs (PySem.W.fnOf x x (defArgs st) (defBody st) (defScope st) .none kV doc pm an cdv ct) ⟨[u0, u1, u2, u3, u4], []⟩ = pure [(p0, u0), (p1, u1), (p2, u2), (p3, u3), (p4, u4)]) : Binds K fd [p0, p1, p2, p3, p4] [] :=
  F.binds fun _ _ _ _ _ _ us hl => by
    obtain ⟨u0, r0, rfl, h0⟩ := us1 hl
    obtain ⟨u1, r1, rfl, h1⟩ := us1 h0
    obtain ⟨u2, r2, rfl, h2⟩ := us1 h1
    obtain ⟨u3, r3, rfl, h3⟩ := us1 h2
    obtain ⟨u4, r4, rfl, h4⟩ := us1 h3
    obtain rfl := List.eq_nil_of_length_eq_zero h4
    exact h _ _ _ _ _ _ _ _ _ _ _
/-- a def: where it stands, what it is -/
structure TxD (K : PySem.W.Frag) (mg : Str → Option Value) (x : Str) (st : Stmt) where
  a : Addr
  f : FuncData
  d : Df K mg x st a f
set_option genInjectivity false in
set_option genSizeOfSpec false in
/-- all defs of the text -/
structure Tx (K : PySem.W.Frag) (mg : Str → Option Value) where
  B : Bl mg
  t_GREATEST_WIDTH : Tok
  v_GREATEST_WIDTH : mg "GREATEST_WIDTH" = some (.int 1000 t_GREATEST_WIDTH)
  c_KeenError : Addr
  mc_KeenError : mg "KeenError" = some (.ref c_KeenError)
  c_BadSay : Addr
  mc_BadSay : mg "BadSay" = some (.ref c_BadSay)
  c_NoSay : Addr
  mc_NoSay : mg "NoSay" = some (.ref c_NoSay)
  c_NoWidth : Addr
  mc_NoWidth : mg "NoWidth" = some (.ref c_NoWidth)
  c_BadLine : Addr
  mc_BadLine : mg "BadLine" = some (.ref c_BadLine)
  kx_BadSay : XCls K "ValueError" "ValueError.__new__" "ValueError.__init__" bmVE c_BadSay
  ki_BadSay : XIs K c_BadSay
  em_BadSay : PySem.W.exmOne K (.ref c_BadSay) (.ref c_KeenError) = some true
  kv_BadSay : PySem.W.kitOne K (.ref c_BadSay) (.type "ValueError") = some true
  kk_BadSay_BadSay : PySem.W.kitOne K (.ref c_BadSay) (.ref c_BadSay) = some true
  kk_BadSay_NoSay : PySem.W.kitOne K (.ref c_BadSay) (.ref c_NoSay) = some false
  kk_BadSay_NoWidth : PySem.W.kitOne K (.ref c_BadSay) (.ref c_NoWidth) = some false
  kk_BadSay_BadLine : PySem.W.kitOne K (.ref c_BadSay) (.ref c_BadLine) = some false
  kx_NoWidth : XCls K "ValueError" "ValueError.__new__" "ValueError.__init__" bmVE c_NoWidth
  ki_NoWidth : XIs K c_NoWidth
  em_NoWidth : PySem.W.exmOne K (.ref c_NoWidth) (.ref c_KeenError) = some true
  kv_NoWidth : PySem.W.kitOne K (.ref c_NoWidth) (.type "ValueError") = some true
  kk_NoWidth_BadSay : PySem.W.kitOne K (.ref c_NoWidth) (.ref c_BadSay) = some false
  kk_NoWidth_NoSay : PySem.W.kitOne K (.ref c_NoWidth) (.ref c_NoSay) = some false
  kk_NoWidth_NoWidth : PySem.W.kitOne K (.ref c_NoWidth) (.ref c_NoWidth) = some true
  kk_NoWidth_BadLine : PySem.W.kitOne K (.ref c_NoWidth) (.ref c_BadLine) = some false
  x_refuse_strangers : TxD K mg "refuse_strangers" (top 7)
  x_table_of : TxD K mg "table_of" (top 8)
  x_beaten_by : TxD K mg "beaten_by" (top 9)
  x_things_without_ends : TxD K mg "things_without_ends" (top 10)
  x_come_round : TxD K mg "come_round" (top 11)
  x_round_in : TxD K mg "round_in" (top 12)
  x_round_of : TxD K mg "round_of" (top 13)
  x_alike : TxD K mg "alike" (top 14)
  x_beaten_by_one_alone : TxD K mg "beaten_by_one_alone" (top 16)
  x_two_pairs_in : TxD K mg "two_pairs_in" (top 17)
  x_two_pairs : TxD K mg "two_pairs" (top 18)
  x_spans_in : TxD K mg "spans_in" (top 19)
  x_what_forbids_spans : TxD K mg "what_forbids_spans" (top 20)
  x_spans : TxD K mg "spans" (top 21)
  x_refuse_width : TxD K mg "refuse_width" (top 24)
  x_steps_in : TxD K mg "steps_in" (top 25)
  x_raise_once : TxD K mg "raise_once" (top 26)
  x_marks_or_misfit : TxD K mg "marks_or_misfit" (top 27)
  x_marks_of : TxD K mg "marks_of" (top 28)
  x_misfit : TxD K mg "misfit" (top 29)
  x_least_width_in : TxD K mg "least_width_in" (top 30)
  x_least_width : TxD K mg "least_width" (top 31)
  x_three_row_in : TxD K mg "three_row_in" (top 32)
  x_three_row : TxD K mg "three_row" (top 33)
  x_marks : TxD K mg "marks" (top 34)
  x_shown : TxD K mg "shown" (top 36)
  x__law_cell_at : TxD K mg "_law_cell_at" (top 38)
  x__law_asked : TxD K mg "_law_asked" (top 39)
  x__law_which : TxD K mg "_law_which" (top 40)
  x_law : TxD K mg "law" (top 41)
noncomputable abbrev Tx.a_refuse_strangers {K : PySem.W.Frag} {mg : Str → Option Value} (T : Tx K mg) : Addr := T.x_refuse_strangers.a
noncomputable abbrev Tx.f_refuse_strangers {K : PySem.W.Frag} {mg : Str → Option Value} (T : Tx K mg) : FuncData := T.x_refuse_strangers.f
theorem Tx.d_refuse_strangers {K : PySem.W.Frag} {mg : Str → Option Value} (T : Tx K mg) : Df K mg "refuse_strangers" (top 7) T.a_refuse_strangers T.f_refuse_strangers := T.x_refuse_strangers.d
noncomputable abbrev Tx.a_table_of {K : PySem.W.Frag} {mg : Str → Option Value} (T : Tx K mg) : Addr := T.x_table_of.a
noncomputable abbrev Tx.f_table_of {K : PySem.W.Frag} {mg : Str → Option Value} (T : Tx K mg) : FuncData := T.x_table_of.f
theorem Tx.d_table_of {K : PySem.W.Frag} {mg : Str → Option Value} (T : Tx K mg) : Df K mg "table_of" (top 8) T.a_table_of T.f_table_of := T.x_table_of.d
noncomputable abbrev Tx.a_beaten_by {K : PySem.W.Frag} {mg : Str → Option Value} (T : Tx K mg) : Addr := T.x_beaten_by.a
noncomputable abbrev Tx.f_beaten_by {K : PySem.W.Frag} {mg : Str → Option Value} (T : Tx K mg) : FuncData := T.x_beaten_by.f
theorem Tx.d_beaten_by {K : PySem.W.Frag} {mg : Str → Option Value} (T : Tx K mg) : Df K mg "beaten_by" (top 9) T.a_beaten_by T.f_beaten_by := T.x_beaten_by.d
noncomputable abbrev Tx.a_things_without_ends {K : PySem.W.Frag} {mg : Str → Option Value} (T : Tx K mg) : Addr := T.x_things_without_ends.a
noncomputable abbrev Tx.f_things_without_ends {K : PySem.W.Frag} {mg : Str → Option Value} (T : Tx K mg) : FuncData := T.x_things_without_ends.f
theorem Tx.d_things_without_ends {K : PySem.W.Frag} {mg : Str → Option Value} (T : Tx K mg) : Df K mg "things_without_ends" (top 10) T.a_things_without_ends T.f_things_without_ends := T.x_things_without_ends.d
noncomputable abbrev Tx.a_come_round {K : PySem.W.Frag} {mg : Str → Option Value} (T : Tx K mg) : Addr := T.x_come_round.a
noncomputable abbrev Tx.f_come_round {K : PySem.W.Frag} {mg : Str → Option Value} (T : Tx K mg) : FuncData := T.x_come_round.f
theorem Tx.d_come_round {K : PySem.W.Frag} {mg : Str → Option Value} (T : Tx K mg) : Df K mg "come_round" (top 11) T.a_come_round T.f_come_round := T.x_come_round.d
noncomputable abbrev Tx.a_round_in {K : PySem.W.Frag} {mg : Str → Option Value} (T : Tx K mg) : Addr := T.x_round_in.a
noncomputable abbrev Tx.f_round_in {K : PySem.W.Frag} {mg : Str → Option Value} (T : Tx K mg) : FuncData := T.x_round_in.f
theorem Tx.d_round_in {K : PySem.W.Frag} {mg : Str → Option Value} (T : Tx K mg) : Df K mg "round_in" (top 12) T.a_round_in T.f_round_in := T.x_round_in.d
noncomputable abbrev Tx.a_round_of {K : PySem.W.Frag} {mg : Str → Option Value} (T : Tx K mg) : Addr := T.x_round_of.a
noncomputable abbrev Tx.f_round_of {K : PySem.W.Frag} {mg : Str → Option Value} (T : Tx K mg) : FuncData := T.x_round_of.f
theorem Tx.d_round_of {K : PySem.W.Frag} {mg : Str → Option Value} (T : Tx K mg) : Df K mg "round_of" (top 13) T.a_round_of T.f_round_of := T.x_round_of.d
noncomputable abbrev Tx.a_alike {K : PySem.W.Frag} {mg : Str → Option Value} (T : Tx K mg) : Addr := T.x_alike.a
noncomputable abbrev Tx.f_alike {K : PySem.W.Frag} {mg : Str → Option Value} (T : Tx K mg) : FuncData := T.x_alike.f
theorem Tx.d_alike {K : PySem.W.Frag} {mg : Str → Option Value} (T : Tx K mg) : Df K mg "alike" (top 14) T.a_alike T.f_alike := T.x_alike.d
noncomputable abbrev Tx.a_beaten_by_one_alone {K : PySem.W.Frag} {mg : Str → Option Value} (T : Tx K mg) : Addr := T.x_beaten_by_one_alone.a
noncomputable abbrev Tx.f_beaten_by_one_alone {K : PySem.W.Frag} {mg : Str → Option Value} (T : Tx K mg) : FuncData := T.x_beaten_by_one_alone.f
theorem Tx.d_beaten_by_one_alone {K : PySem.W.Frag} {mg : Str → Option Value} (T : Tx K mg) : Df K mg "beaten_by_one_alone" (top 16) T.a_beaten_by_one_alone T.f_beaten_by_one_alone := T.x_beaten_by_one_alone.d
noncomputable abbrev Tx.a_two_pairs_in {K : PySem.W.Frag} {mg : Str → Option Value} (T : Tx K mg) : Addr := T.x_two_pairs_in.a
noncomputable abbrev Tx.f_two_pairs_in {K : PySem.W.Frag} {mg : Str → Option Value} (T : Tx K mg) : FuncData := T.x_two_pairs_in.f
theorem Tx.d_two_pairs_in {K : PySem.W.Frag} {mg : Str → Option Value} (T : Tx K mg) : Df K mg "two_pairs_in" (top 17) T.a_two_pairs_in T.f_two_pairs_in := T.x_two_pairs_in.d
noncomputable abbrev Tx.a_two_pairs {K : PySem.W.Frag} {mg : Str → Option Value} (T : Tx K mg) : Addr := T.x_two_pairs.a
noncomputable abbrev Tx.f_two_pairs {K : PySem.W.Frag} {mg : Str → Option Value} (T : Tx K mg) : FuncData := T.x_two_pairs.f
theorem Tx.d_two_pairs {K : PySem.W.Frag} {mg : Str → Option Value} (T : Tx K mg) : Df K mg "two_pairs" (top 18) T.a_two_pairs T.f_two_pairs := T.x_two_pairs.d
noncomputable abbrev Tx.a_spans_in {K : PySem.W.Frag} {mg : Str → Option Value} (T : Tx K mg) : Addr := T.x_spans_in.a
noncomputable abbrev Tx.f_spans_in {K : PySem.W.Frag} {mg : Str → Option Value} (T : Tx K mg) : FuncData := T.x_spans_in.f
theorem Tx.d_spans_in {K : PySem.W.Frag} {mg : Str → Option Value} (T : Tx K mg) : Df K mg "spans_in" (top 19) T.a_spans_in T.f_spans_in := T.x_spans_in.d
noncomputable abbrev Tx.a_what_forbids_spans {K : PySem.W.Frag} {mg : Str → Option Value} (T : Tx K mg) : Addr := T.x_what_forbids_spans.a
noncomputable abbrev Tx.f_what_forbids_spans {K : PySem.W.Frag} {mg : Str → Option Value} (T : Tx K mg) : FuncData := T.x_what_forbids_spans.f
theorem Tx.d_what_forbids_spans {K : PySem.W.Frag} {mg : Str → Option Value} (T : Tx K mg) : Df K mg "what_forbids_spans" (top 20) T.a_what_forbids_spans T.f_what_forbids_spans := T.x_what_forbids_spans.d
noncomputable abbrev Tx.a_spans {K : PySem.W.Frag} {mg : Str → Option Value} (T : Tx K mg) : Addr := T.x_spans.a
noncomputable abbrev Tx.f_spans {K : PySem.W.Frag} {mg : Str → Option Value} (T : Tx K mg) : FuncData := T.x_spans.f
theorem Tx.d_spans {K : PySem.W.Frag} {mg : Str → Option Value} (T : Tx K mg) : Df K mg "spans" (top 21) T.a_spans T.f_spans := T.x_spans.d
noncomputable abbrev Tx.a_refuse_width {K : PySem.W.Frag} {mg : Str → Option Value} (T : Tx K mg) : Addr := T.x_refuse_width.a
noncomputable abbrev Tx.f_refuse_width {K : PySem.W.Frag} {mg : Str → Option Value} (T : Tx K mg) : FuncData := T.x_refuse_width.f
theorem Tx.d_refuse_width {K : PySem.W.Frag} {mg : Str → Option Value} (T : Tx K mg) : Df K mg "refuse_width" (top 24) T.a_refuse_width T.f_refuse_width := T.x_refuse_width.d
noncomputable abbrev Tx.a_steps_in {K : PySem.W.Frag} {mg : Str → Option Value} (T : Tx K mg) : Addr := T.x_steps_in.a
noncomputable abbrev Tx.f_steps_in {K : PySem.W.Frag} {mg : Str → Option Value} (T : Tx K mg) : FuncData := T.x_steps_in.f
theorem Tx.d_steps_in {K : PySem.W.Frag} {mg : Str → Option Value} (T : Tx K mg) : Df K mg "steps_in" (top 25) T.a_steps_in T.f_steps_in := T.x_steps_in.d
noncomputable abbrev Tx.a_raise_once {K : PySem.W.Frag} {mg : Str → Option Value} (T : Tx K mg) : Addr := T.x_raise_once.a
noncomputable abbrev Tx.f_raise_once {K : PySem.W.Frag} {mg : Str → Option Value} (T : Tx K mg) : FuncData := T.x_raise_once.f
theorem Tx.d_raise_once {K : PySem.W.Frag} {mg : Str → Option Value} (T : Tx K mg) : Df K mg "raise_once" (top 26) T.a_raise_once T.f_raise_once := T.x_raise_once.d
noncomputable abbrev Tx.a_marks_or_misfit {K : PySem.W.Frag} {mg : Str → Option Value} (T : Tx K mg) : Addr := T.x_marks_or_misfit.a
noncomputable abbrev Tx.f_marks_or_misfit {K : PySem.W.Frag} {mg : Str → Option Value} (T : Tx K mg) : FuncData := T.x_marks_or_misfit.f
theorem Tx.d_marks_or_misfit {K : PySem.W.Frag} {mg : Str → Option Value} (T : Tx K mg) : Df K mg "marks_or_misfit" (top 27) T.a_marks_or_misfit T.f_marks_or_misfit := T.x_marks_or_misfit.d
noncomputable abbrev Tx.a_marks_of {K : PySem.W.Frag} {mg : Str → Option Value} (T : Tx K mg) : Addr := T.x_marks_of.a
noncomputable abbrev Tx.f_marks_of {K : PySem.W.Frag} {mg : Str → Option Value} (T : Tx K mg) : FuncData := T.x_marks_of.f
theorem Tx.d_marks_of {K : PySem.W.Frag} {mg : Str → Option Value} (T : Tx K mg) : Df K mg "marks_of" (top 28) T.a_marks_of T.f_marks_of := T.x_marks_of.d
noncomputable abbrev Tx.a_misfit {K : PySem.W.Frag} {mg : Str → Option Value} (T : Tx K mg) : Addr := T.x_misfit.a
noncomputable abbrev Tx.f_misfit {K : PySem.W.Frag} {mg : Str → Option Value} (T : Tx K mg) : FuncData := T.x_misfit.f
theorem Tx.d_misfit {K : PySem.W.Frag} {mg : Str → Option Value} (T : Tx K mg) : Df K mg "misfit" (top 29) T.a_misfit T.f_misfit := T.x_misfit.d
noncomputable abbrev Tx.a_least_width_in {K : PySem.W.Frag} {mg : Str → Option Value} (T : Tx K mg) : Addr := T.x_least_width_in.a
noncomputable abbrev Tx.f_least_width_in {K : PySem.W.Frag} {mg : Str → Option Value} (T : Tx K mg) : FuncData := T.x_least_width_in.f
theorem Tx.d_least_width_in {K : PySem.W.Frag} {mg : Str → Option Value} (T : Tx K mg) : Df K mg "least_width_in" (top 30) T.a_least_width_in T.f_least_width_in := T.x_least_width_in.d
noncomputable abbrev Tx.a_least_width {K : PySem.W.Frag} {mg : Str → Option Value} (T : Tx K mg) : Addr := T.x_least_width.a
noncomputable abbrev Tx.f_least_width {K : PySem.W.Frag} {mg : Str → Option Value} (T : Tx K mg) : FuncData := T.x_least_width.f
theorem Tx.d_least_width {K : PySem.W.Frag} {mg : Str → Option Value} (T : Tx K mg) : Df K mg "least_width" (top 31) T.a_least_width T.f_least_width := T.x_least_width.d
noncomputable abbrev Tx.a_three_row_in {K : PySem.W.Frag} {mg : Str → Option Value} (T : Tx K mg) : Addr := T.x_three_row_in.a
noncomputable abbrev Tx.f_three_row_in {K : PySem.W.Frag} {mg : Str → Option Value} (T : Tx K mg) : FuncData := T.x_three_row_in.f
theorem Tx.d_three_row_in {K : PySem.W.Frag} {mg : Str → Option Value} (T : Tx K mg) : Df K mg "three_row_in" (top 32) T.a_three_row_in T.f_three_row_in := T.x_three_row_in.d
noncomputable abbrev Tx.a_three_row {K : PySem.W.Frag} {mg : Str → Option Value} (T : Tx K mg) : Addr := T.x_three_row.a
noncomputable abbrev Tx.f_three_row {K : PySem.W.Frag} {mg : Str → Option Value} (T : Tx K mg) : FuncData := T.x_three_row.f
theorem Tx.d_three_row {K : PySem.W.Frag} {mg : Str → Option Value} (T : Tx K mg) : Df K mg "three_row" (top 33) T.a_three_row T.f_three_row := T.x_three_row.d
noncomputable abbrev Tx.a_marks {K : PySem.W.Frag} {mg : Str → Option Value} (T : Tx K mg) : Addr := T.x_marks.a
noncomputable abbrev Tx.f_marks {K : PySem.W.Frag} {mg : Str → Option Value} (T : Tx K mg) : FuncData := T.x_marks.f
theorem Tx.d_marks {K : PySem.W.Frag} {mg : Str → Option Value} (T : Tx K mg) : Df K mg "marks" (top 34) T.a_marks T.f_marks := T.x_marks.d
noncomputable abbrev Tx.a_shown {K : PySem.W.Frag} {mg : Str → Option Value} (T : Tx K mg) : Addr := T.x_shown.a
noncomputable abbrev Tx.f_shown {K : PySem.W.Frag} {mg : Str → Option Value} (T : Tx K mg) : FuncData := T.x_shown.f
theorem Tx.d_shown {K : PySem.W.Frag} {mg : Str → Option Value} (T : Tx K mg) : Df K mg "shown" (top 36) T.a_shown T.f_shown := T.x_shown.d
noncomputable abbrev Tx.a__law_cell_at {K : PySem.W.Frag} {mg : Str → Option Value} (T : Tx K mg) : Addr := T.x__law_cell_at.a
noncomputable abbrev Tx.f__law_cell_at {K : PySem.W.Frag} {mg : Str → Option Value} (T : Tx K mg) : FuncData := T.x__law_cell_at.f
theorem Tx.d__law_cell_at {K : PySem.W.Frag} {mg : Str → Option Value} (T : Tx K mg) : Df K mg "_law_cell_at" (top 38) T.a__law_cell_at T.f__law_cell_at := T.x__law_cell_at.d
noncomputable abbrev Tx.a__law_asked {K : PySem.W.Frag} {mg : Str → Option Value} (T : Tx K mg) : Addr := T.x__law_asked.a
noncomputable abbrev Tx.f__law_asked {K : PySem.W.Frag} {mg : Str → Option Value} (T : Tx K mg) : FuncData := T.x__law_asked.f
theorem Tx.d__law_asked {K : PySem.W.Frag} {mg : Str → Option Value} (T : Tx K mg) : Df K mg "_law_asked" (top 39) T.a__law_asked T.f__law_asked := T.x__law_asked.d
noncomputable abbrev Tx.a__law_which {K : PySem.W.Frag} {mg : Str → Option Value} (T : Tx K mg) : Addr := T.x__law_which.a
noncomputable abbrev Tx.f__law_which {K : PySem.W.Frag} {mg : Str → Option Value} (T : Tx K mg) : FuncData := T.x__law_which.f
theorem Tx.d__law_which {K : PySem.W.Frag} {mg : Str → Option Value} (T : Tx K mg) : Df K mg "_law_which" (top 40) T.a__law_which T.f__law_which := T.x__law_which.d
noncomputable abbrev Tx.a_law {K : PySem.W.Frag} {mg : Str → Option Value} (T : Tx K mg) : Addr := T.x_law.a
noncomputable abbrev Tx.f_law {K : PySem.W.Frag} {mg : Str → Option Value} (T : Tx K mg) : FuncData := T.x_law.f
theorem Tx.d_law {K : PySem.W.Frag} {mg : Str → Option Value} (T : Tx K mg) : Df K mg "law" (top 41) T.a_law T.f_law := T.x_law.d
section
variable {P : Program} {w : World} {K : PySem.W.Frag} {mg : Str → Option Value} {base : Heap}
noncomputable def cell (ns : List Int) (k : Int) : Int := ns.getD k.toNat 0
noncomputable def spCell (K : PySem.W.Frag) : Sp := fun vs H Q _ => ∃ (a : Addr) (ns : List Int) (k : Int), vs = [.ref a, .int k] ∧ SqL K H a (ns.map V.int) ∧ 0 ≤ k ∧ Q (.int (cell ns k)) H
noncomputable abbrev sCell : Stmt := (top 38)
noncomputable abbrev nCell : List Str := ["script", "k"]
noncomputable abbrev pCell : List Str := ["script", "k"]
theorem scCell : FnScope nCell pCell (defScope sCell) := ⟨rfl, rfl, rfl, by decide +kernel, rfl, by decide +kernel, by decide +kernel⟩
theorem ok_cell {f : Addr} {fd : FuncData} (D : Df K mg "_law_cell_at" sCell f fd) (B : Bl mg) : FnOk P w K mg base CX0 1 f fd ["script", "k"] (spCell K) := by
  refine D.F.ok scCell (fun vs H Q E h => ?_) (fun cdv A outer s H vs Q E hr h => ?_)
  · obtain ⟨a, ns, k, rfl, _⟩ := h
    rfl
  · obtain ⟨a, ns, k, rfl, hS, h0, q⟩ := h
    refine ⟨_, pss_cons (ps_if (pt_cmpR op_lt (pv 1) (pe_callB (lenS (K := K) rfl) (by rfl) B.len PySem.boot_len (pa_cons (pv 0) pa_nil)) (nomark _)) (pss_one (ps_ret (pe_ix (ixL (K := K) rfl) (pv 0) (pv 1) (fun _ _ => rfl)))) pss_nil)
      (pss_one (ps_ret pe_int)), ?_⟩
    refine ⟨_, rfl, _, rfl, a, _, rfl, .inl hS, _, _, rfl, rfl, _, rfl, ?_⟩
    rw [List.length_map]
    refine ite2 (fun h => ?_) (fun h => ?_)
    · have h' : k < (ns.length : Int) := of_decide_eq_true h
      have e1 : ns[k.toNat]? = some (cell ns k) := by
        have hl : k.toNat < ns.length := by omega
        unfold cell
        simp [hl]
      have e2 : atI (ns.map V.int) k = some (.int (cell ns k)) := by
        have := atI_nat (xs := ns.map V.int) (j := k.toNat) (v := .int (cell ns k)) (by rw [List.getElem?_map, e1]; rfl)
        rw [Int.toNat_of_nonneg h0] at this
        exact this
      exact ⟨_, rfl, _, rfl, a, _, _, _, rfl, rfl, hS, e2, q⟩
    · have h' : ¬ k < (ns.length : Int) := fun z => h (decide_eq_true z)
      have e1 : cell ns k = 0 := by
        unfold cell
        have hl : ns.length ≤ k.toNat := by omega
        simp [hl]
      rw [e1] at q
      exact q
end
noncomputable def Pr (H : Hp) (r : Addr) (p : Int × Int) : Prop := H r = some (.tup [.int p.1, .int p.2])
/-- at l stands a list of these pairs -/
noncomputable def Prs (K : PySem.W.Frag) (H : Hp) (l : Addr) (ps : List (Int × Int)) : Prop := ∃ rs : List Addr, SqL K H l (rs.map V.ref) ∧ Paired (Pr H) rs ps
theorem Prs.same {K : PySem.W.Frag} {H H' : Hp} {l : Addr} {ps : List (Int × Int)} (h : Prs K H l ps) (s : Same H H') : Prs K H' l ps := by
  obtain ⟨rs, h1, h2⟩ := h
  exact ⟨rs, s.seq h1, Paired.mapP h2 fun a b q => s _ _ q⟩
theorem Paired.at {α β : Type} {F : α → β → Prop} : ∀ {l₁ : List α} {l₂ : List β} {i : Nat} {a : α}, Paired F l₁ l₂ → l₁[i]? = some a → ∃ b, l₂[i]? = some b ∧ F a b
  | _, _, _, _, .nil, e => by simp at e
  | _, _, 0, _, .cons r _, e => by simp at e; subst e; exact ⟨_, rfl, r⟩
  | _, _, i + 1, a, .cons _ t, e => by
    obtain ⟨b, h1, h2⟩ := Paired.at (i := i) (a := a) t (by simpa using e)
    exact ⟨b, by simpa using h1, h2⟩
theorem refs_at {rs : List Addr} {i : Nat} {y : V} (h : (rs.map V.ref)[i]? = some y) : ∃ r, rs[i]? = some r ∧ y = .ref r := by
  rw [List.getElem?_map] at h
  cases e : rs[i]? with
  | none => rw [e] at h; cases h
  | some r => rw [e] at h; exact ⟨r, rfl, (Option.some.inj h).symm⟩
theorem _root_.L2.Same.put {H H' : Hp} {p : Addr} {o : HO} (s : Same H H') (h : H p = none) : Same H (upd H' p o) := fun b u e => by
  rw [upd_ne (ne_of_none e h)]
  exact s b u e
theorem _root_.L2.Same.new {H : Hp} {p : Addr} {o : HO} (h : H p = none) : Same H (upd H p o) := Same.put (Same.refl H) h
/-- things: all of them below n -/
noncomputable def In (n : Nat) (ps : List (Int × Int)) : Prop := ∀ p ∈ ps, (0 ≤ p.1 ∧ p.1 < n) ∧ 0 ≤ p.2 ∧ p.2 < n
/-- who is better than whom, by these pairs -/
noncomputable def better (ps : List (Int × Int)) (i j : Nat) : Bool := decide (((i : Int), (j : Int)) ∈ ps)
noncomputable def Iv (xs : List Nat) : List V := xs.map fun x : Nat => V.int (x : Int)
theorem iv_at {xs : List Nat} {i : Nat} {y : V} (h : (Iv xs)[i]? = some y) : ∃ x, xs[i]? = some x ∧ y = .int (x : Int) := by
  unfold Iv at h
  rw [List.getElem?_map] at h
  cases e : xs[i]? with
  | none => rw [e] at h; cases h
  | some r => rw [e] at h; exact ⟨r, rfl, (Option.some.inj h).symm⟩
theorem iv_len (xs : List Nat) : (Iv xs).length = xs.length := by unfold Iv; rw [List.length_map]
theorem iv_app (xs ys : List Nat) : Iv (xs ++ ys) = Iv xs ++ Iv ys := by unfold Iv; rw [List.map_append]
theorem iv_ints (xs : List Nat) : Iv xs = (xs.map fun x : Nat => (x : Int)).map V.int := by unfold Iv; rw [List.map_map]; rfl
theorem iv_flat (xs : List Nat) : (Iv xs).all flatV = true := by unfold Iv; simp [flatV]
theorem iv_in (x : Nat) (xs : List Nat) : inV (.int x) (Iv xs) = decide (x ∈ xs) := by
  unfold inV Iv
  rw [List.any_map, Bool.eq_iff_iff]
  simp only [List.any_eq_true, Function.comp_apply, eqV, beq_iff_eq, decide_eq_true_eq]
  constructor
  · rintro ⟨y, h, e⟩
    have : y = x := by omega
    exact this ▸ h
  · exact fun h => ⟨x, h, rfl⟩
theorem filter_succ {xs : List Nat} {i x : Nat} {p : Nat → Bool} (h : xs[i]? = some x) : (xs.take (i + 1)).filter p = (xs.take i).filter p ++ (if p x = true then [x] else []) := by
  rw [List.take_add_one, h, List.filter_append]
  simp only [Option.toList_some]
  cases e : p x <;> simp [e]
theorem drop_cut (xs : List V) (i : Nat) (hi : i ≤ xs.length) : cutV xs (some (i : Int)) none = xs.drop i := by
  unfold cutV
  rw [HT.sIx_nat, HT.sIx_none, Nat.min_eq_left hi]
  rw [List.take_of_length_le (by rw [List.length_drop]; exact Nat.le_refl _)]
/-- the tuples of a heap, as ints -/
noncomputable def kfH (H : Hp) (r : Addr) : List Int := match H r with
  | some (.tup [.int a, .int b]) => [a, b]
  | _ => []
theorem kfH_of {H : Hp} {r : Addr} {p : Int × Int} (h : Pr H r p) : kfH H r = [p.1, p.2] := by
  have h' : H r = some (.tup [.int p.1, .int p.2]) := h
  unfold kfH
  rw [h']
theorem tups_of {H : Hp} : ∀ {rs : List Addr} {ps : List (Int × Int)}, Paired (Pr H) rs ps → Tups H (kfH H) rs ∧ rs.map (kfH H) = ps.map fun p => [p.1, p.2]
  | [], _, .nil => ⟨fun r hr => (nomatch hr), rfl⟩
  | r :: rs, _, .cons (b := p) h t => by
    obtain ⟨t1, t2⟩ := tups_of t
    refine ⟨fun a ha => ?_, by rw [List.map_cons, List.map_cons, t2, kfH_of h]⟩
    rcases List.mem_cons.mp ha with rfl | ha
    · rw [kfH_of h]; exact h
    · exact t1 a ha
theorem mem_pairs {ps : List (Int × Int)} {a b : Int} : [a, b] ∈ ps.map (fun p => [p.1, p.2]) ↔ (a, b) ∈ ps := by
  rw [List.mem_map]
  constructor
  · rintro ⟨⟨x, y⟩, h, e⟩
    simp only [List.cons.injEq, and_true] at e
    rw [← e.1, ← e.2]; exact h
  · exact fun h => ⟨_, h, rfl⟩
theorem nodup_cast : ∀ {c : List Nat}, c.Nodup → (c.map fun x : Nat => (x : Int)).Nodup
  | [], _ => List.nodup_nil
  | a :: c, h => by
    obtain ⟨h1, h2⟩ := List.nodup_cons.mp h
    rw [List.map_cons]
    refine List.nodup_cons.mpr ⟨fun z => ?_, nodup_cast h2⟩
    obtain ⟨b, hb, e⟩ := List.mem_map.mp z
    exact h1 (by rw [show a = b by omega]; exact hb)
section
variable {P : Program} {w : World} {K : PySem.W.Frag} {mg : Str → Option Value} {base : Heap}
noncomputable def spRefuse (K : PySem.W.Frag) : Sp := fun vs H Q _ => ∃ (l : Addr) (n : Nat) (ps : List (Int × Int)), vs = [.int n, .ref l] ∧ Prs K H l ps ∧ In n ps ∧ ∀ H', Same H H' → Q .non H'
noncomputable abbrev sRefuse : Stmt := (top 7)
noncomputable abbrev nRefuse : List Str := ["many", "pairs", "one", "other", "thing"]
noncomputable abbrev pRefuse : List Str := ["many", "pairs"]
theorem scRefuse : FnScope nRefuse pRefuse (defScope sRefuse) := ⟨rfl, rfl, rfl, by decide +kernel, rfl, by decide +kernel, by decide +kernel⟩
theorem ok_refuse {f : Addr} {fd : FuncData} (D : Df K mg "refuse_strangers" sRefuse f fd) : FnOk P w K mg base CX0 1 f fd ["many", "pairs"] (spRefuse K) := by
  refine D.F.ok scRefuse (fun vs H Q E h => ?_) (fun cdv A outer s H vs Q E hr h => ?_)
  · obtain ⟨a, n, k, rfl, _⟩ := h
    rfl
  · obtain ⟨l, n, ps, rfl, ⟨rs, hS, hP⟩, hin, q⟩ := h
    refine ⟨_, pss_one (ps_for PassesOwn.never rfl (piL (K := K) rfl (pv 1)) (pgT (K := K) rfl rfl (pgs_cons (pg_name (i := 2) scRefuse.nd rfl (Or.inl rfl)) (pgs_cons (pg_name (i := 3) scRefuse.nd rfl (Or.inl rfl)) pgs_nil)))
      (pss_one (ps_for PassesOwn.never rfl (pi_tup (pe_tup (pa_cons (pv 2) (pa_cons (pv 3) pa_nil)))) (pg_name (i := 4) scRefuse.nd rfl (Or.inl rfl))
        (pss_one (ps_if (pt_not (pt_chain op_le op_lt pe_int (pv 4) (pv 0))) pss_never pss_nil))))), ?_⟩
    refine ⟨_, rfl, l, rfl, ⟨_, hS⟩, for_list (K := K) (a := l) (xs := rs.map V.ref) (fun i σ H2 => ∃ v1 v2 v3, σ = [some (.int n), some (.ref l), v1, v2, v3] ∧ Same H H2) ⟨none, none, none, rfl, Same.refl _⟩ (fun i σ H2 _ ⟨_, _, _, _, s2⟩ => s2.seq hS) ?_ ?_⟩
    · rintro i y σ H2 hi ⟨v1, v2, v3, rfl, s2⟩
      obtain ⟨r, hr, rfl⟩ := refs_at hi
      obtain ⟨⟨a, b⟩, hab, hp⟩ := Paired.at hP hr
      have hp2 := hin _ (List.mem_of_getElem? hab)
      simp only at hp2
      refine ⟨r, [.int a, .int b], rfl, SqT.of (s2 _ _ hp), rfl, _, _, rfl, _, _, rfl, rfl, ?_⟩
      refine ⟨_, rfl, _, rfl, (by show 2 ≤ sizeLine; decide), fun p hp0 => ⟨p, rfl, ⟨_, SqT.of upd_same⟩, for_tup (K := K) (a := p) (xs := [.int a, .int b]) (fun i σ H3 => ∃ v, σ = [some (.int n), some (.ref l), some (.int a), some (.int b), v] ∧ H3 = upd H2 p (.tup [.int a, .int b])) ⟨_, rfl, rfl⟩ (fun i σ H3 _ ⟨_, _, e⟩ => by rw [e]; exact SqT.of upd_same) ?_ ?_⟩⟩
      · rintro j x σ H3 hj ⟨v, rfl, rfl⟩
        have hx : ∃ k : Int, x = .int k ∧ 0 ≤ k ∧ k < n := by
          match j, hj with
          | 0, hj => exact ⟨a, by simpa using hj.symm, hp2.1⟩
          | 1, hj => exact ⟨b, by simpa using hj.symm, hp2.2⟩
          | j + 2, hj => simp at hj
        obtain ⟨k, rfl, k0, k1⟩ := hx
        refine ⟨_, rfl, _, _, rfl, rfl, _, rfl, ?_⟩
        rw [if_pos (decide_eq_true k0)]
        refine ⟨_, rfl, _, _, rfl, rfl, _, rfl, ?_⟩
        rw [decide_eq_true k1]
        refine iteF ?_
        exact ⟨_, rfl, rfl⟩
      · rintro σ H3 ⟨v, rfl, rfl⟩
        exact ⟨_, _, _, rfl, s2.put (s2.free hp0)⟩
    · rintro σ H2 ⟨v1, v2, v3, rfl, s2⟩
      exact q H2 s2
end
/-- rows: where the n rows of n truths stand -/
structure Tab (H : Hp) (p : Addr) (n : Nat) (rel : Nat → Nat → Bool) (rows : List Addr) : Prop where
  top : H p = some (.lst (rows.map V.ref))
  len : rows.length = n
  nd : rows.Nodup
  row : ∀ (i : Nat) (r : Addr), rows[i]? = some r → H r = some (.lst ((List.range n).map fun j => V.bl (rel i j)))
theorem Tab.same {H H' : Hp} {p : Addr} {n : Nat} {rel : Nat → Nat → Bool} {rows : List Addr} (T : Tab H p n rel rows) (s : Same H H') : Tab H' p n rel rows :=
  ⟨s _ _ T.top, T.len, T.nd, fun i r e => s _ _ (T.row i r e)⟩
theorem Tab.at {H : Hp} {p : Addr} {n : Nat} {rel : Nat → Nat → Bool} {rows : List Addr} (T : Tab H p n rel rows) {a : Int} (h0 : 0 ≤ a) (h1 : a < n) : ∃ r, rows[a.toNat]? = some r ∧ atI (rows.map V.ref) a = some (.ref r) ∧ H r = some (.lst ((List.range n).map fun j => V.bl (rel a.toNat j))) := by
  have hl : a.toNat < rows.length := by rw [T.len]; omega
  have e : rows[a.toNat]? = some rows[a.toNat] := by simp [hl]
  refine ⟨_, e, ?_, T.row _ _ e⟩
  have := atI_nat (xs := rows.map V.ref) (j := a.toNat) (v := .ref rows[a.toNat]) (by rw [List.getElem?_map, e]; rfl)
  rw [Int.toNat_of_nonneg h0] at this
  exact this
theorem row_at {n : Nat} {f : Nat → Bool} {b : Int} (h0 : 0 ≤ b) (h1 : b < n) : atI ((List.range n).map fun j => V.bl (f j)) b = some (.bl (f b.toNat)) := by
  have hl : b.toNat < n := by omega
  have := atI_nat (xs := (List.range n).map fun j => V.bl (f j)) (j := b.toNat) (v := .bl (f b.toNat)) (by rw [List.getElem?_map, List.getElem?_range hl]; rfl)
  rw [Int.toNat_of_nonneg h0] at this
  exact this
section
variable {P : Program} {w : World} {K : PySem.W.Frag} {mg : Str → Option Value} {base : Heap}
noncomputable def spTable (K : PySem.W.Frag) : Sp := fun vs H Q _ => ∃ (l : Addr) (n : Nat) (ps : List (Int × Int)), vs = [.int n, .ref l] ∧ Prs K H l ps ∧ In n ps ∧ n ≤ 1000 ∧
  ∀ p rows H', Same H H' → Tab H' p n (better ps) rows → Q (.ref p) H'
noncomputable abbrev sTable : Stmt := (top 8)
noncomputable abbrev nTable : List Str := ["many", "pairs", "table", "one", "other"]
noncomputable abbrev pTable : List Str := ["many", "pairs"]
theorem scTable : FnScope nTable pTable (defScope sTable) := ⟨rfl, rfl, rfl, by decide +kernel, rfl, by decide +kernel, by decide +kernel⟩
theorem coTable1 : CompOk (mkSc [(".0", .local), ("thing", .local), ("many", .free)]) ["thing"] (defScope sTable) nTable := ⟨rfl, by decide +kernel, by decide +kernel, by decide +kernel, by decide +kernel, by decide +kernel⟩
theorem cnTable1 : (blkN nTable ["thing"]).Nodup := by decide +kernel
theorem nodup_at {l : List Addr} (nd : l.Nodup) {i j : Nat} {x : Addr} (a : l[i]? = some x) (b : l[j]? = some x) : i = j := by
  obtain ⟨h1, e1⟩ := List.getElem?_eq_some_iff.mp a
  obtain ⟨h2, e2⟩ := List.getElem?_eq_some_iff.mp b
  exact (List.getElem_inj nd).mp (e1.trans e2.symm)
theorem set_row {n k : Nat} {f : Nat → Bool} (hk : k < n) : ((List.range n).map fun j => V.bl (f j)).set k (.bl true) = (List.range n).map fun j => V.bl (f j || decide (j = k)) := by
  apply List.ext_getElem?
  intro i
  rw [List.getElem?_set]
  by_cases hi : i < n
  · by_cases e : k = i
    · subst e
      rw [if_pos rfl, if_pos (by simp [hi]), List.getElem?_map, List.getElem?_range hi]
      simp
    · rw [if_neg e, List.getElem?_map, List.getElem?_map, List.getElem?_range hi]
      have : ¬ i = k := fun z => e z.symm
      simp [this]
  · rw [List.getElem?_eq_none (by simp; omega)]
    rw [List.getElem?_eq_none (l := List.map (fun j => V.bl (f j || decide (j = k))) (List.range n)) (by simp; omega)]
    split
    · rw [if_neg (by simp; omega)]
    · rfl
theorem flat_one {n : Nat} {x : V} : (List.replicate n [x]).flatten = (List.range n).map fun _ => x := by
  induction n with
  | zero => rfl
  | succ n ih =>
    rw [List.replicate_succ, List.flatten_cons, ih, List.range_succ_eq_map, List.map_cons, List.map_map]
    rfl
theorem Tab.put {H : Hp} {p : Addr} {n : Nat} {rel : Nat → Nat → Bool} {rows : List Addr} (T : Tab H p n rel rows) {a b : Nat} {r : Addr} (hr : rows[a]? = some r) (hb : b < n) : r ≠ p ∧ Tab (upd H r (.lst (((List.range n).map fun j => V.bl (rel a j)).set b (.bl true)))) p n (fun i j => rel i j || (decide (i = a) && decide (j = b))) rows := by
  have ha : a < rows.length := (List.getElem?_eq_some_iff.mp hr).1
  have hrow := T.row a r hr
  have hne : p ≠ r := ne_of T.top hrow fun z => by
    injection z with z
    have e := congrArg (fun l => l[a]?) z
    simp only [List.getElem?_map, hr] at e
    rw [List.getElem?_range (by rw [← T.len]; exact ha)] at e
    simp at e
  refine ⟨hne.symm, by rw [upd_ne hne]; exact T.top, T.len, T.nd, fun i q hq => ?_⟩
  by_cases hi : i = a
  · subst hi
    rw [hr] at hq
    cases hq
    rw [upd_same, set_row hb]
    simp
  · have hqr : q ≠ r := fun z => hi (nodup_at T.nd (z ▸ hq) hr)
    rw [upd_ne hqr, T.row i q hq]
    simp [hi]
theorem better_succ {ps : List (Int × Int)} {i : Nat} {a b : Int} (h : ps[i]? = some (a, b)) (h0 : 0 ≤ a) (h1 : 0 ≤ b) : better (ps.take (i + 1)) = fun x y => better (ps.take i) x y || (decide (x = a.toNat) && decide (y = b.toNat)) := by
  funext x y
  unfold better
  rw [List.take_add_one, h]
  simp only [Option.toList_some]
  rw [Bool.eq_iff_iff]
  simp only [decide_eq_true_eq, List.mem_append, List.mem_singleton, Prod.mk.injEq, Bool.or_eq_true, Bool.and_eq_true]
  constructor
  · rintro (h | ⟨h, h'⟩)
    · exact .inl h
    · exact .inr ⟨by omega, by omega⟩
  · rintro (h | ⟨h, h'⟩)
    · exact .inl h
    · exact .inr ⟨by omega, by omega⟩
theorem ok_table {f fR : Addr} {fd fdR : FuncData} (D : Df K mg "table_of" sTable f fd) (DR : Df K mg "refuse_strangers" sRefuse fR fdR) (B : Bl mg) : FnOk P w K mg base CX0 2 f fd ["many", "pairs"] (spTable K) := by
  have GR : FnOk P w K mg base CX0 1 fR fdR ["many", "pairs"] (spRefuse K) := ok_refuse DR
  have bR : Binds K _ ["many", "pairs"] [] := bd2 DR.F fun _ _ _ _ _ _ _ _ => rfl
  refine D.F.ok scTable (fun vs H Q E h => ?_) (fun cdv A outer s H vs Q E hr h => ?_)
  · obtain ⟨a, n, k, rfl, _⟩ := h
    rfl
  · obtain ⟨l, n, ps, rfl, hP, hin, hn, q⟩ := h
    refine ⟨_, pss_cons (ps_expr (pe_call GR hr rfl DR.m DR.F.kp bR .nil pass0 (pa_cons (pv 0) (pa_cons (pv 1) pa_nil))))
      (pss_cons (ps_comp (i := 2) scTable.nd rfl rfl rfl coTable1 (pi_range1 rfl B.range (pa_cons (pv 0) pa_nil)) (fun _ _ _ _ _ => pg_name (i := 5) cnTable1 rfl (Or.inl rfl) (Or.inr rfl)) (fun _ _ _ _ _ => pif_nil)
        (fun _ _ _ _ _ => pe_op op_rep (pe_lst (pa_cons pe_bl pa_nil)) (pv 0)) (by rfl))
      (pss_cons (ps_for PassesOwn.never rfl (piL (K := K) rfl (pv 1)) (pgT (K := K) rfl rfl (pgs_cons (pg_name (i := 3) scTable.nd rfl (Or.inl rfl)) (pgs_cons (pg_name (i := 4) scTable.nd rfl (Or.inl rfl)) pgs_nil)))
        (pss_one (ps_asg pe_bl (pg_sub (pe_ix (ixL (K := K) rfl) (pv 2) (pv 3) (fun _ _ => rfl)) (pv 4) set_list))))
      (pss_one (ps_ret (pv 2))))), ?_⟩
    refine ⟨_, rfl, _, rfl, l, n, ps, rfl, hP, hin, fun H1 s1 => ?_⟩
    have hz := sizeLine_eq
    refine ⟨_, rfl, n, rfl, by omega, by omega, comp_range (k := 1) (fun i ys H2 => ∃ rows : List Addr, ys = rows.map V.ref ∧ rows.length = i ∧ rows.Nodup ∧ Same H H2 ∧ ∀ r ∈ rows, H r = none ∧ H2 r = some (.lst ((List.range n).map fun _ => V.bl false))) ⟨[], rfl, rfl, List.nodup_nil, s1, fun r hr => nomatch hr⟩
      (by rw [Int.toNat_natCast]; omega) (fun i ys H2 ⟨rows, e1, e2, _⟩ => by rw [e1, List.length_map]; omega) ?_ ?_⟩
    · rintro i ys H2 hi ⟨rows, rfl, e2, nd, s2, hrow⟩
      refine ⟨rfl, (by show 1 ≤ sizeLine; decide), fun p hp => ⟨_, rfl, p, n, [.bl false], rfl, rfl, upd_same, by omega, by omega, by simp; omega, fun p2 hp2 => ?_⟩⟩
      have hp2' : p2 ≠ p := fun z => by rw [z, upd_same] at hp2; cases hp2
      rw [upd_ne hp2'] at hp2
      have s3 : Same H2 (upd (upd H2 p (.lst [.bl false])) p2 (.lst (List.replicate (n : Int).toNat [V.bl false]).flatten)) := ((Same.refl H2).put hp).put hp2
      refine ⟨rows ++ [p2], by simp, by simp [e2], List.nodup_append.mpr ⟨nd, List.nodup_cons.mpr ⟨(fun z => nomatch z), List.nodup_nil⟩, fun a ha b hb => ?_⟩, s2.trans s3, fun r hr => ?_⟩
      · rw [List.mem_singleton.mp hb]
        exact ne_of_none (hrow a ha).2 hp2
      · rcases List.mem_append.mp hr with h | h
        · exact ⟨(hrow r h).1, s3 _ _ (hrow r h).2⟩
        · rw [List.mem_singleton.mp h, upd_same, Int.toNat_natCast, flat_one]
          exact ⟨s2.free hp2, rfl⟩
    · rintro ys H2 p ⟨rows, rfl, e2, nd, s2, hrow⟩ hp
      rw [Int.toNat_natCast] at e2
      obtain ⟨rs, hS, hPr⟩ := hP
      have hpn := s2.free hp
      have T0 : Tab (upd H2 p (.lst (rows.map V.ref))) p n (better (ps.take 0)) rows := ⟨upd_same, e2, nd, fun i r e => by
        have hm := hrow r (List.mem_of_getElem? e)
        rw [upd_ne (ne_of_none hm.2 hp), hm.2]
        rfl⟩
      have hfr : ∀ r ∈ rows, H r = none := fun r hr => (hrow r hr).1
      refine ⟨_, rfl, l, rfl, ⟨_, (s2.put hpn).seq hS⟩, for_list (K := K) (a := l) (xs := rs.map V.ref) (fun i σ H3 => ∃ v1 v2, σ = [some (.int n), some (.ref l), some (.ref p), v1, v2] ∧ Same H H3 ∧ Tab H3 p n (better (ps.take i)) rows) ⟨none, none, rfl, s2.put hpn, T0⟩ (fun i σ H3 _ ⟨_, _, _, s3, _⟩ => s3.seq hS) ?_ ?_⟩
      · rintro i y σ H3 hi ⟨v1, v2, rfl, s3, T3⟩
        obtain ⟨r, hr, rfl⟩ := refs_at hi
        obtain ⟨⟨a, b⟩, hab, hp2⟩ := Paired.at hPr hr
        have hp3 := hin _ (List.mem_of_getElem? hab)
        simp only at hp3
        refine ⟨r, [.int a, .int b], rfl, SqT.of (s3 _ _ hp2), rfl, _, _, rfl, _, _, rfl, rfl, ?_⟩
        obtain ⟨ra, ea, eat, hra⟩ := T3.at hp3.1.1 hp3.1.2
        have hb : b.toNat < n := by omega
        refine ⟨_, rfl, _, rfl, p, _, _, _, rfl, rfl, SqL.of T3.top, eat, _, rfl, ra, _, b, b.toNat, rfl, rfl, hra, ?_, ?_⟩
        · unfold ixN
          rw [if_pos hp3.2.1, if_pos (by simp; omega)]
        · obtain ⟨hne, T4⟩ := T3.put ea hb
          refine ⟨_, _, rfl, s3.put (hfr ra (List.mem_of_getElem? ea)), ?_⟩
          rw [better_succ hab hp3.1.1 hp3.2.1]
          exact T4
      · rintro σ H3 ⟨v1, v2, rfl, s3, T3⟩
        have e : ps.take (rs.map V.ref).length = ps := by
          rw [List.length_map, Paired.length hPr, List.take_length]
        rw [e] at T3
        exact ⟨_, rfl, q p rows H3 s3 T3⟩
end
theorem for_range0 {n : Nat} {g : TG} {tb : L2.TS} {D : Ends} {σ : St} {H : Hp} (Pv : Nat → St → Hp → Prop) (h0 : Pv 0 σ H)
    (hs : ∀ i σ H, i < n → Pv i σ H → g (.int i) σ H fun σ2 H2 => tb { D with nx := Pv (i + 1), ct := Pv (i + 1), bk := D.nx } σ2 H2) (hd : ∀ σ H, Pv n σ H → D.nx σ H) :
    ∃ W : Nat → Nat → St → Hp → Prop, (∃ m, W 0 m σ H) ∧ ∀ i m σ H, W i m σ H →
      ((Itr 0 n).stop i H ∧ D.nx σ H) ∨ ((Itr 0 n).go i H ∧ ∃ N : St → Hp → Prop, (∀ σ' H', N σ' H' → ∃ m', m' < m ∧ W (i + 1) m' σ' H') ∧ ∀ x H', (Itr 0 n).yld i H x H' → g x σ H' fun σ2 H2 => tb { D with nx := N, ct := N, bk := D.nx } σ2 H2) :=
  for_range (lo := 0) Pv h0 (fun i σ H hi h => by rw [Int.zero_add]; exact hs i σ H hi h) hd
theorem comp_range0 {n k : Nat} {g : TG} {tt : TT} {te : TE} {σ : St} {Q : VK} {H : Hp} (Pv : Nat → List V → Hp → Prop) (h0 : Pv 0 [] H) (hn : n < sizeLine) (hl : ∀ i ys H, Pv i ys H → ys.length ≤ i)
    (hs : ∀ i ys H, i < n → Pv i ys H → g (.int i) (σ ++ List.replicate k none) H fun σ2 H2 => σ2.take σ.length = σ ∧ tt σ2 H2 fun c H3 => if c = true then te σ2 H3 fun v H4 => Pv (i + 1) (ys ++ [v]) H4 else Pv (i + 1) ys H3)
    (hd : ∀ ys H p, Pv n ys H → H p = none → Q (.ref p) (upd H p (.lst ys))) : ∃ W : Nat → Nat → List V → Hp → Prop, (∃ m, W 0 m [] H) ∧ CompW k (Itr 0 n) g tt te σ Q W :=
  comp_range (lo := 0) Pv h0 hn hl (fun i ys H hi h => by rw [Int.zero_add]; exact hs i ys H hi h) hd
/-- (x, y) in pairs, the tuple just made -/
theorem inP {K : PySem.W.Frag} {H : Hp} {pl p : Addr} {ps : List (Int × Int)} (hP : Prs K H pl ps) {x y : Int} (hp : H p = none) {neg : Bool} {Q : VK} (q : Q (.bl (if neg then !decide ((x, y) ∈ ps) else decide ((x, y) ∈ ps))) (upd H p (.tup [.int x, .int y]))) :
    rInT K neg (.ref p) (.ref pl) (upd H p (.tup [.int x, .int y])) Q := by
  obtain ⟨rs, hS, hPr⟩ := hP
  have s := Same.new (o := .tup [.int x, .int y]) hp
  have hP3 : Paired (Pr (upd H p (.tup [.int x, .int y]))) rs ps := Paired.mapP hPr fun a b z => s _ _ z
  obtain ⟨t1, t2⟩ := tups_of hP3
  have hk : kfH (upd H p (.tup [.int x, .int y])) p = [x, y] := kfH_of (p := (x, y)) upd_same
  refine ⟨p, pl, rs, kfH (upd H p (.tup [.int x, .int y])), rfl, rfl, s.seq hS, t1, by rw [hk]; exact upd_same, ?_⟩
  rw [t2, hk]
  have e : decide ([x, y] ∈ ps.map fun p => [p.1, p.2]) = decide ((x, y) ∈ ps) := by
    rw [Bool.eq_iff_iff, decide_eq_true_eq, decide_eq_true_eq]
    exact mem_pairs
  rw [e]
  exact q
theorem better_mem {ps : List (Int × Int)} {x y : Nat} : decide (((x : Int), (y : Int)) ∈ ps) = better ps x y := rfl
/-- the pairs as things -/
theorem In.nat {n : Nat} {ps : List (Int × Int)} (h : In n ps) {p : Int × Int} (hp : p ∈ ps) : ∃ x y : Nat, x < n ∧ y < n ∧ p = ((x : Int), (y : Int)) := by
  obtain ⟨⟨h1, h2⟩, h3, h4⟩ := h p hp
  refine ⟨p.1.toNat, p.2.toNat, by omega, by omega, ?_⟩
  rw [Int.toNat_of_nonneg h1, Int.toNat_of_nonneg h3]
theorem mem_take1 {α : Type} {xs : List α} {i : Nat} {x y : α} (h : xs[i]? = some x) (hy : y ∈ xs.take (i + 1)) : y ∈ xs.take i ∨ y = x := by
  rw [List.take_add_one, h] at hy
  simpa using hy
theorem two0 {a b : V} : atI [a, b] 0 = some a := atI_nat (j := 0) rfl
theorem two1 {a b : V} : atI [a, b] 1 = some b := atI_nat (j := 1) rfl
theorem three0 {a b c : V} : atI [a, b, c] 0 = some a := atI_nat (j := 0) rfl
theorem three1 {a b c : V} : atI [a, b, c] 1 = some b := atI_nat (j := 1) rfl
theorem three2 {a b c : V} : atI [a, b, c] 2 = some c := atI_nat (j := 2) rfl
theorem iteNN {c A B : Prop} [Decidable c] (hc : ¬ c) (h : A) : if (!decide c) = true then A else B := by
  rw [decide_eq_false hc]
  exact h
section
variable {P : Program} {w : World} {K : PySem.W.Frag} {mg : Str → Option Value} {base : Heap}
noncomputable def spCome (_ : PySem.W.Frag) : Sp := fun vs H Q _ => ∃ (d : Addr) (x : Nat) (kvs : List (Key × V)) (S : List Nat) (nx : Nat → Nat), vs = [.ref d, .int x] ∧ H d = some (.dK kvs) ∧ x ∈ S ∧ S.length ≤ 1000 ∧ (∀ y ∈ S, valV kvs (.inl (y : Int)) = some (.int (nx y)) ∧ nx y ∈ S) ∧
  ∀ l c H', Same H H' → H l = none → H' l = some (.lst (Iv c)) → KP.Rnd (fun a b => nx a = b) c → (∀ y ∈ c, y ∈ S) → c.length ≤ S.length → Q (.ref l) H'
noncomputable abbrev sCome : Stmt := (top 11)
noncomputable abbrev nCome : List Str := ["onward", "thing", "walked"]
noncomputable abbrev pCome : List Str := ["onward", "thing"]
theorem scCome : FnScope nCome pCome (defScope sCome) := ⟨rfl, rfl, rfl, by decide +kernel, rfl, by decide +kernel, by decide +kernel⟩
theorem ok_come {f : Addr} {fd : FuncData} (D : Df K mg "come_round" sCome f fd) : FnOk P w K mg base CX0 1 f fd ["onward", "thing"] (spCome K) := by
  refine D.F.ok scCome (fun vs H Q E h => ?_) (fun cdv A outer s H vs Q E hr h => ?_)
  · obtain ⟨a, _, _, _, _, rfl, _⟩ := h
    rfl
  · obtain ⟨d, x0, kvs, S, nx, rfl, hd, hx0, hSl, hS, q⟩ := h
    have hu := hu_of hr
    have hz := sizeLine_eq
    refine ⟨_, pss_cons (ps_set (i := 2) scCome.nd rfl (Or.inl rfl) (pe_lst pa_nil))
      (pss_cons (ps_while PassesOwn.never (pt_cmpR op_notIn_seq (pv 1) (pv 2) (by with_unfolding_all rfl))
        (pss_cons (ps_expr (peM (K := K) rfl PySem.F.plainAttrs_list PySem.F.slot_list_append PySem.F.type_list_append mt_append (pv 2) (pa_cons (pv 1) pa_nil)))
        (pss_one (ps_set (i := 1) scCome.nd rfl (Or.inl rfl) (pe_dget hu (pv 0) (pv 1) (fun _ _ => rfl))))))
      (pss_one (ps_ret (pe_slice (slL (K := K) rfl) (pv 2) (po_some (peM (K := K) rfl PySem.F.plainAttrs_list PySem.F.slot_list_index PySem.F.type_list_index mt_index (pv 2) (pa_cons (pv 1) pa_nil))) po_none)))), ?_⟩
    refine ⟨Nat.zero_le _, fun wk hwn => ?_⟩
    refine ⟨fun m σ H3 => ∃ (ws : List Nat) (x : Nat), σ = [some (.ref d), some (.int x), some (.ref wk)] ∧ Same H H3 ∧ H3 wk = some (.lst (Iv ws)) ∧ KP.Wk (fun a b => nx a = b) S ws x ∧ m + ws.length = S.length,
      ⟨_, [], x0, rfl, Same.new hwn, upd_same, KP.Wk.start hx0, rfl⟩, ?_⟩
    rintro m σ H3 ⟨ws, x, rfl, s3, hwk3, W, hm⟩
    have hwlen := W.len
    refine ⟨_, rfl, _, rfl, wk, _, rfl, .inl (SqL.of hwk3), rfl, iv_flat _, _, rfl, ?_⟩
    rw [iv_in]
    by_cases hin : x ∈ ws
    · rw [decide_eq_true hin]
      refine iteF ?_
      have hk : (x : Int) ∈ ws.map fun x : Nat => (x : Int) := List.mem_map.mpr ⟨x, hin, rfl⟩
      have hj := List.idxOf_lt_length_iff.mpr hk
      have hg := List.getElem_idxOf hj
      refine ⟨_, rfl, _, rfl, .inl ⟨rfl, _, SqL.of hwk3⟩, _, rfl, wk, ws.map (fun x : Nat => (x : Int)), x, rfl, rfl, SqL.of (by rw [← iv_ints]; exact hwk3), hk, _, rfl, wk, Iv ws, rfl, SqL.of hwk3, fun l hl => ?_⟩
      generalize hJ : (ws.map fun x : Nat => (x : Int)).idxOf (x : Int) = j at hj hg ⊢
      rw [List.length_map] at hj
      rw [drop_cut _ _ (by rw [iv_len]; omega)]
      have hxj : ws[j]? = some x := by
        rw [List.getElem?_eq_getElem hj]
        simp only [List.getElem_map] at hg
        congr 1
        omega
      have hdr : (Iv ws).drop j = Iv (ws.drop j) := by unfold Iv; rw [List.map_drop]
      rw [hdr]
      refine q l (ws.drop j) _ (s3.put (s3.free hl)) (s3.free hl) upd_same (W.round hxj) (fun y hy => W.sub y (List.mem_of_mem_drop hy)) ?_
      rw [List.length_drop]
      omega
    · rw [decide_eq_false hin]
      refine iteT ⟨_, fun σ' H' h => h, ?_⟩
      obtain ⟨hv, hnx⟩ := hS x W.at_
      refine ⟨_, rfl, .inl ⟨rfl, _, SqL.of hwk3⟩, _, rfl, wk, _, _, rfl, rfl, hwk3, by rw [iv_len]; omega, ?_⟩
      have hd4 : (upd H3 wk (.lst (Iv ws ++ [.int x]))) d = some (.dK kvs) := (s3.put hwn) _ _ hd
      have W2 := W.step hin hnx rfl
      have l2 := W2.len
      rw [List.length_append, List.length_singleton] at l2
      refine ⟨_, rfl, _, rfl, d, .int (nx x), rfl, ?_, m - 1, by omega, ws ++ [x], nx x, rfl, s3.put hwn, ?_, W2, ?_⟩
      · have := DGet.k (k := Sum.inl (x : Int)) hd4
        rw [hv] at this
        exact this
      · rw [iv_app]
        exact upd_same
      · rw [List.length_append, List.length_singleton]
        omega
end
theorem map_snoc {α : Type} (f : Nat → α) (i : Nat) : (List.range (i + 1)).map f = (List.range i).map f ++ [f i] := by
  rw [List.range_succ, List.map_append]
  rfl
theorem paired_app {α β : Type} {F : α → β → Prop} : ∀ {l₁ : List α} {l₂ : List β} {m₁ : List α} {m₂ : List β}, Paired F l₁ l₂ → Paired F m₁ m₂ → Paired F (l₁ ++ m₁) (l₂ ++ m₂) := by
  intro l₁ l₂ m₁ m₂ h1 h
  induction h1 with
  | nil => exact h
  | cons r _ ih => exact .cons r ih
/-- an own list of pairs -/
noncomputable def PrsO (H : Hp) (l : Addr) (ps : List (Int × Int)) : Prop := ∃ rs : List Addr, H l = some (.lst (rs.map V.ref)) ∧ Paired (Pr H) rs ps
theorem PrsO.prs {K : PySem.W.Frag} {H : Hp} {l : Addr} {ps : List (Int × Int)} (h : PrsO H l ps) : Prs K H l ps := by
  obtain ⟨rs, h1, h2⟩ := h
  exact ⟨rs, SqL.of h1, h2⟩
theorem PrsO.same {H H' : Hp} {l : Addr} {ps : List (Int × Int)} (h : PrsO H l ps) (s : Same H H') : PrsO H' l ps := by
  obtain ⟨rs, h1, h2⟩ := h
  exact ⟨rs, s _ _ h1, Paired.mapP h2 fun a b q => s _ _ q⟩
theorem prs_same {H H' : Hp} {rs : List Addr} {ps : List (Int × Int)} (h : Paired (Pr H) rs ps) (s : Same H H') : Paired (Pr H') rs ps := Paired.mapP h fun a b q => s _ _ q
noncomputable def rowP (p : Nat → Bool) (a j : Nat) : List (Int × Int) := ((List.range j).filter p).map fun b : Nat => ((a : Int), (b : Int))
noncomputable def gridP (n : Nat) (p : Nat → Nat → Bool) (i : Nat) : List (Int × Int) := (List.range i).flatMap fun a => rowP (p a) a n
theorem rowP_succ (p : Nat → Bool) (a j : Nat) : rowP p a (j + 1) = rowP p a j ++ (if p j = true then [((a : Int), (j : Int))] else []) := by
  unfold rowP
  rw [List.range_succ, List.filter_append, List.map_append]
  cases e : p j <;> simp [e]
theorem rowP_len (p : Nat → Bool) (a j : Nat) : (rowP p a j).length ≤ j := by
  unfold rowP
  rw [List.length_map]
  have := List.length_filter_le p (List.range j)
  rw [List.length_range] at this
  exact this
theorem gridP_succ (n : Nat) (p : Nat → Nat → Bool) (i : Nat) : gridP n p (i + 1) = gridP n p i ++ rowP (p i) i n := by
  unfold gridP
  rw [List.range_succ, List.flatMap_append]
  simp
theorem gridP_le (n : Nat) (p : Nat → Nat → Bool) : ∀ i : Nat, (gridP n p i).length ≤ i * n
  | 0 => Nat.zero_le _
  | i + 1 => by
    rw [gridP_succ, List.length_append, Nat.add_mul, Nat.one_mul]
    have := gridP_le n p i
    have := rowP_len (p i) i n
    omega
theorem gridP_len (n : Nat) (p : Nat → Nat → Bool) : ∀ i : Nat, (gridP n p i).length = ((List.range i).map fun a => ((List.range n).filter fun b => p a b).length).sum
  | 0 => rfl
  | i + 1 => by
    rw [gridP_succ, List.length_append, gridP_len n p i, List.range_succ, List.map_append, List.sum_append]
    unfold rowP
    simp
theorem gridP_in (n : Nat) (p : Nat → Nat → Bool) : In n (gridP n p n) := by
  intro q hq
  unfold gridP rowP at hq
  simp only [List.mem_flatMap, List.mem_range, List.mem_map, List.mem_filter] at hq
  obtain ⟨a, ha, b, ⟨hb, _⟩, rfl⟩ := hq
  simp only
  omega
theorem ints_at {n i : Nat} (f : Nat → Int) (hi : i < n) : atI ((List.range n).map fun k => V.int (f k)) ((0 : Int) + (i : Int)) = some (.int (f i)) := by
  rw [Int.zero_add]
  exact atI_nat (by rw [List.getElem?_map, List.getElem?_range hi]; rfl)
/-- a builder: at most m sayings of the n things -/
noncomputable def spBuild (m : Nat) (K : PySem.W.Frag) : Sp := fun vs H Q _ => ∃ (a : Addr) (ns : List Int) (k : Int) (n : Nat), vs = [.ref a, .int k, .int n] ∧ SqL K H a (ns.map V.int) ∧ 0 ≤ k ∧ 1 ≤ n ∧ n ≤ 12 ∧
  ∀ l ps H', Same H H' → H l = none → PrsO H' l ps → In n ps → ps.length ≤ m → Q (.ref l) H'
/-- law's: a list of at most 63 ints is handed in, True comes out -/
noncomputable def spLaw (K : PySem.W.Frag) : Sp := fun vs H Q _ => ∃ (a : Addr) (ns : List Int), vs = [.ref a] ∧ SqL K H a (ns.map V.int) ∧ ns.length ≤ 63 ∧ ∀ H', Q (.bl true) H'
theorem better_iff {sp tp : List (Int × Int)} (h : ∀ p, p ∈ sp ↔ p ∈ tp) : better sp = better tp := by
  funext i j
  unfold better
  rw [Bool.eq_iff_iff, decide_eq_true_eq, decide_eq_true_eq]
  exact h _
noncomputable def stW (rel : Nat → Nat → Bool) (W : Int) (a b : Nat) : Option Int := if rel a b = true then some W else if rel b a = true then none else some (1 - W)
noncomputable def Tr (H : Hp) (r : Addr) (p : Nat × Nat × Int) : Prop := H r = some (.tup [.int (p.1 : Int), .int (p.2.1 : Int), .int p.2.2])
noncomputable def rowS (st : Nat → Nat → Option Int) (a j : Nat) : List (Nat × Nat × Int) := (List.range j).flatMap fun b => (st a b).toList.map fun w => (a, b, w)
noncomputable def gridS (n : Nat) (st : Nat → Nat → Option Int) (i : Nat) : List (Nat × Nat × Int) := (List.range i).flatMap fun a => rowS st a n
theorem rowS_succ (st : Nat → Nat → Option Int) (a j : Nat) : rowS st a (j + 1) = rowS st a j ++ (st a j).toList.map fun w => (a, j, w) := by
  unfold rowS
  rw [List.range_succ, List.flatMap_append]
  simp
theorem gridS_succ (n : Nat) (st : Nat → Nat → Option Int) (i : Nat) : gridS n st (i + 1) = gridS n st i ++ rowS st i n := by
  unfold gridS
  rw [List.range_succ, List.flatMap_append]
  simp
theorem rowS_len (st : Nat → Nat → Option Int) (a : Nat) : ∀ j : Nat, (rowS st a j).length ≤ j
  | 0 => Nat.zero_le _
  | j + 1 => by
    rw [rowS_succ, List.length_append]
    have := rowS_len st a j
    have : ((st a j).toList.map fun w => (a, j, w)).length ≤ 1 := by
      rw [List.length_map]
      cases st a j <;> simp
    omega
theorem gridS_len (n : Nat) (st : Nat → Nat → Option Int) : ∀ i : Nat, (gridS n st i).length ≤ i * n
  | 0 => Nat.zero_le _
  | i + 1 => by
    rw [gridS_succ, List.length_append, Nat.add_mul, Nat.one_mul]
    have := gridS_len n st i
    have := rowS_len st i n
    omega
theorem gridS_mem {n : Nat} {st : Nat → Nat → Option Int} {s : Nat × Nat × Int} : s ∈ gridS n st n ↔ s.1 < n ∧ s.2.1 < n ∧ st s.1 s.2.1 = some s.2.2 := by
  obtain ⟨a, b, w⟩ := s
  unfold gridS rowS
  simp only [List.mem_flatMap, List.mem_range, List.mem_map, Option.mem_toList]
  constructor
  · rintro ⟨a', ha, b', hb, w', hw, e⟩
    simp only [Prod.mk.injEq] at e
    obtain ⟨rfl, rfl, rfl⟩ := e
    exact ⟨ha, hb, hw⟩
  · rintro ⟨ha, hb, hw⟩
    exact ⟨a, ha, b, hb, w, hw, rfl⟩
/-- marks of a width tell the sayings -/
noncomputable def Tells (n : Nat) (rel : Nat → Nat → Bool) (W : Int) (m : Nat → Int) : Prop := (∀ a, 0 ≤ m a) ∧ ∀ a b, a < n → b < n → (m b + W ≤ m a ↔ rel a b = true)
theorem tells_of {n : Nat} {rel : Nat → Nat → Bool} {W : Int} {m : Nat → Int} (hW : 1 ≤ W) (nn : ∀ a, 0 ≤ m a) (sat : ∀ a b w, a < n → b < n → stW rel W a b = some w → m b + w ≤ m a) : Tells n rel W m := by
  refine ⟨nn, fun a b ha hb => ?_⟩
  have h1 := sat a b
  have h2 := sat b a
  unfold stW at h1 h2
  cases e1 : rel a b <;> cases e2 : rel b a <;> simp only [e1, e2, if_true, if_false, Bool.false_eq_true, Option.some.injEq, forall_eq', reduceCtorEq, false_implies, implies_true] at h1 h2
  · have := h2 _ hb ha rfl
    simp only [Bool.false_eq_true, iff_false]
    omega
  · have := h2 _ hb ha rfl
    simp only [Bool.false_eq_true, iff_false]
    omega
  · have := h1 _ ha hb rfl
    simp only [iff_true]
    omega
  · have := h1 _ ha hb rfl
    simp only [iff_true]
    omega
theorem Tells.sat {n : Nat} {rel : Nat → Nat → Bool} {W : Int} {m : Nat → Int} (T : Tells n rel W m) : ∀ a b w, a < n → b < n → stW rel W a b = some w → m b + w ≤ m a := by
  intro a b w ha hb h
  unfold stW at h
  cases e1 : rel a b with
  | true =>
    rw [if_pos e1] at h
    cases h
    exact (T.2 a b ha hb).mpr e1
  | false =>
    rw [if_neg (by rw [e1]; decide)] at h
    cases e2 : rel b a with
    | true => rw [if_pos e2] at h; cases h
    | false =>
      rw [if_neg (by rw [e2]; decide)] at h
      cases h
      have := mt (T.2 b a hb ha).mp (by rw [e2]; decide)
      omega
section
variable {P : Program} {w : World} {K : PySem.W.Frag} {mg : Str → Option Value} {base : Heap}
theorem Tab.look' {H : Hp} {p : Addr} {n : Nat} {rel : Nat → Nat → Bool} {rows : List Addr} (T : Tab H p n rel rows) {a b : Nat} (ha : a < n) (hb : b < n) : ∃ r, atI (rows.map V.ref) (a : Int) = some (.ref r) ∧ H r = some (.lst ((List.range n).map fun j => V.bl (rel a j))) ∧ atI ((List.range n).map fun j => V.bl (rel a j)) (b : Int) = some (.bl (rel a b)) := by
  obtain ⟨r, _, eat, hrow⟩ := T.at (a := (a : Int)) (by omega) (by omega)
  rw [Int.toNat_natCast] at hrow
  have e3 := row_at (n := n) (f := rel a) (b := (b : Int)) (by omega) (by omega)
  rw [Int.toNat_natCast] at e3
  exact ⟨r, eat, hrow, e3⟩
noncomputable def spSteps (_ : PySem.W.Frag) : Sp := fun vs H Q _ => ∃ (p : Addr) (n : Nat) (W : Int) (rel : Nat → Nat → Bool) (rows : List Addr), vs = [.ref p, .int W] ∧ Tab H p n rel rows ∧ n ≤ 100 ∧
  ∀ (l : Addr) (rs : List Addr) (H' : Hp), Same H H' → H l = none → H' l = some (.lst (rs.map V.ref)) → Paired (Tr H') rs (gridS n (stW rel W) n) → Q (.ref l) H'
noncomputable abbrev sSteps : Stmt := (top 25)
noncomputable abbrev nSteps : List Str := ["table", "width", "steps", "one", "other"]
noncomputable abbrev pSteps : List Str := ["table", "width"]
theorem scSteps : FnScope nSteps pSteps (defScope sSteps) := ⟨rfl, rfl, rfl, by decide +kernel, rfl, by decide +kernel, by decide +kernel⟩
theorem tr_put {H : Hp} {l t : Addr} {rs : List Addr} {sts : List (Nat × Nat × Int)} {a b : Nat} {w : Int} (hl : H l = some (.lst (rs.map V.ref))) (hP : Paired (Tr H) rs sts) (ht : H t = none) :
    Paired (Tr (upd (upd H t (.tup [.int a, .int b, .int w])) l (.lst (rs.map V.ref ++ [.ref t])))) (rs ++ [t]) (sts ++ [(a, b, w)]) := by
  have htl : l ≠ t := ne_of_none hl ht
  refine paired_app (Paired.mapP hP fun r p h => ?_) (.cons ?_ .nil)
  · have hr : H r = some (.tup [.int (p.1 : Int), .int (p.2.1 : Int), .int p.2.2]) := h
    have hrl : r ≠ l := ne_of hr hl (by intro z; cases z)
    show upd _ l _ r = _
    rw [upd_ne hrl, upd_ne (ne_of_none hr ht)]
    exact hr
  · show upd _ l _ t = _
    rw [upd_ne htl.symm]
    exact upd_same
theorem ok_steps (T : Tx K mg) : FnOk P w K mg base CX0 1 T.a_steps_in T.f_steps_in pSteps (spSteps K) := by
  refine T.d_steps_in.F.ok scSteps (fun vs H Q E h => ?_) (fun cdv A outer s H vs Q E hr h => ?_)
  · obtain ⟨_, _, _, _, _, rfl, _⟩ := h
    rfl
  · obtain ⟨p, n, W, rel, rows, rfl, Tb, hn, q⟩ := h
    have hz := sizeLine_eq
    refine ⟨_, (pss_cons (ps_set (i := 2) scSteps.nd rfl (Or.inl rfl) (pe_lst pa_nil))
      (pss_cons (ps_for PassesOwn.never rfl (pi_range1 rfl T.B.range (pa_cons (pe_callB (lenS (K := K) rfl) (by rfl) T.B.len PySem.boot_len (pa_cons (pv 0) pa_nil)) pa_nil)) (pg_name (i := 3) scSteps.nd rfl (Or.inl rfl))
        (pss_one (ps_for PassesOwn.never rfl (pi_range1 rfl T.B.range (pa_cons (pe_callB (lenS (K := K) rfl) (by rfl) T.B.len PySem.boot_len (pa_cons (pv 0) pa_nil)) pa_nil)) (pg_name (i := 4) scSteps.nd rfl (Or.inl rfl))
          (pss_one (ps_if (pt_val (pe_ix (ixL (K := K) rfl) (pe_ix (ixL (K := K) rfl) (pv 0) (pv 3) (fun _ _ => rfl)) (pv 4) (fun _ _ => rfl)))
            (pss_one (ps_expr (peM (K := K) rfl PySem.F.plainAttrs_list PySem.F.slot_list_append PySem.F.type_list_append mt_append (pv 2) (pa_cons (pe_tup (pa_cons (pv 3) (pa_cons (pv 4) (pa_cons (pv 1) pa_nil)))) pa_nil))))
            (pss_one (ps_if (pt_not (pt_val (pe_ix (ixL (K := K) rfl) (pe_ix (ixL (K := K) rfl) (pv 0) (pv 4) (fun _ _ => rfl)) (pv 3) (fun _ _ => rfl))))
              (pss_one (ps_expr (peM (K := K) rfl PySem.F.plainAttrs_list PySem.F.slot_list_append PySem.F.type_list_append mt_append (pv 2) (pa_cons (pe_tup (pa_cons (pv 3) (pa_cons (pv 4) (pa_cons (pe_op op_sub pe_int (pv 1)) pa_nil)))) pa_nil))))
              pss_nil)))))))
      (pss_one (ps_ret (pv 2))))), ?_⟩
    refine ⟨Nat.zero_le _, fun l hl0 => ?_⟩
    have s1 := Same.new (o := .lst []) hl0
    refine ⟨_, rfl, p, _, rfl, .inl (SqL.of (s1 _ _ Tb.top)), _, rfl, by omega, by rw [List.length_map, Tb.len]; omega, ?_⟩
    rw [List.length_map, Tb.len, Int.toNat_natCast]
    refine for_range0 (fun i σ H2 => ∃ rs v1 v2, σ = [some (.ref p), some (.int W), some (.ref l), v1, v2] ∧ Same H H2 ∧ H2 l = some (.lst (rs.map V.ref)) ∧ Paired (Tr H2) rs (gridS n (stW rel W) i)) ⟨[], none, none, rfl, s1, upd_same, .nil⟩ ?_ ?_
    · rintro i σ H2 hi ⟨rs0, v1, v2, rfl, s2, hl2, hP2⟩
      refine ⟨_, rfl, p, _, rfl, .inl (SqL.of (s2 _ _ Tb.top)), _, rfl, by omega, by rw [List.length_map, Tb.len]; omega, ?_⟩
      rw [List.length_map, Tb.len, Int.toNat_natCast]
      refine for_range0 (fun j σ H3 => ∃ rs v2, σ = [some (.ref p), some (.int W), some (.ref l), some (.int i), v2] ∧ Same H H3 ∧ H3 l = some (.lst (rs.map V.ref)) ∧ Paired (Tr H3) rs (gridS n (stW rel W) i ++ rowS (stW rel W) i j)) ⟨rs0, _, rfl, s2, hl2, by
        have e : rowS (stW rel W) i 0 = [] := rfl
        rw [e, List.append_nil]
        exact hP2⟩ ?_ ?_
      · rintro j σ H3 hj ⟨rs, v2, rfl, s3, hl3, hP3⟩
        have T3 := Tb.same s3
        obtain ⟨r1, x1, x2, x3⟩ := T3.look' hi hj
        obtain ⟨r2, y1, y2, y3⟩ := T3.look' hj hi
        have e1 := Paired.length hP3
        have hlen : rs.length ≤ 20000 := by
          rw [e1, List.length_append]
          have h1 := gridS_len n (stW rel W) i
          have h2 := rowS_len (stW rel W) i j
          have h3 : i * n ≤ 100 * 100 := Nat.mul_le_mul (by omega) hn
          omega
        refine ⟨_, rfl, _, rfl, p, _, _, _, rfl, rfl, SqL.of T3.top, x1, _, rfl, r1, _, _, _, rfl, rfl, SqL.of x2, x3, _, rfl, ?_⟩
        rw [rowS_succ, ← List.append_assoc]
        unfold stW
        cases g1 : rel i j with
        | true =>
          refine iteT ⟨_, rfl, .inl ⟨rfl, _, SqL.of hl3⟩, _, rfl, _, rfl, _, rfl, (by show 3 ≤ sizeLine; decide), fun t ht => ⟨l, _, _, rfl, rfl, by rw [upd_ne (ne_of_none hl3 ht)]; exact hl3, by rw [List.length_map]; omega, rs ++ [t], _, rfl, (s3.put (s3.free ht)).put hl0, by rw [upd_same, List.map_append]; rfl, ?_⟩⟩
          simp only [if_true, Option.toList_some, List.map_cons, List.map_nil]
          exact tr_put hl3 hP3 ht
        | false =>
          refine iteF ⟨_, rfl, _, rfl, p, _, _, _, rfl, rfl, SqL.of T3.top, y1, _, rfl, r2, _, _, _, rfl, rfl, SqL.of y2, y3, _, rfl, ?_⟩
          cases g2 : rel j i with
          | true =>
            refine iteF ⟨rs, _, rfl, s3, hl3, ?_⟩
            simp only [if_true, Bool.false_eq_true, if_false, Option.toList_none, List.map_nil, List.append_nil]
            exact hP3
          | false =>
            refine iteT ⟨_, rfl, .inl ⟨rfl, _, SqL.of hl3⟩, _, rfl, _, rfl, _, rfl, _, _, rfl, rfl, (by show 3 ≤ sizeLine; decide), fun t ht => ⟨l, _, _, rfl, rfl, by rw [upd_ne (ne_of_none hl3 ht)]; exact hl3, by rw [List.length_map]; omega, rs ++ [t], _, rfl, (s3.put (s3.free ht)).put hl0, by rw [upd_same, List.map_append]; rfl, ?_⟩⟩
            simp only [Bool.false_eq_true, if_false, Option.toList_some, List.map_cons, List.map_nil]
            exact tr_put hl3 hP3 ht
      · rintro σ H3 ⟨rs, v2, rfl, s3, hl3, hP3⟩
        exact ⟨rs, _, _, rfl, s3, hl3, by rw [gridS_succ]; exact hP3⟩
    · rintro σ H2 ⟨rs, v1, v2, rfl, s2, hl2, hP2⟩
      exact ⟨_, rfl, q l rs H2 s2 hl0 hl2 hP2⟩
end
section
variable {P : Program} {w : World} {K : PySem.W.Frag} {mg : Str → Option Value} {base : Heap}
noncomputable def DOn (kvs : List (Key × V)) (nx : Nat → Option Nat) : Prop := ∀ a : Nat, valV kvs (.inl (a : Int)) = (nx a).map fun o : Nat => V.int (o : Int)
noncomputable def Fnd (n : Nat) (m : Nat → Int) : List V := (List.range n).map fun i => V.int (m i)
theorem fnd_len (n : Nat) (m : Nat → Int) : (Fnd n m).length = n := by unfold Fnd; simp
theorem fnd_at {n a : Nat} {m : Nat → Int} (h : a < n) : atI (Fnd n m) (a : Int) = some (.int (m a)) := atI_nat (by unfold Fnd; rw [List.getElem?_map, List.getElem?_range h]; rfl)
theorem fnd_set {n v : Nat} {m : Nat → Int} {x : Int} : (Fnd n m).set v (.int x) = Fnd n (KP.set1 m v x) := by
  apply List.ext_getElem?
  intro i
  unfold Fnd
  rw [List.getElem?_set]
  by_cases hi : i < n
  · rw [List.getElem?_map, List.getElem?_map, List.getElem?_range hi]
    by_cases e : v = i
    · subst e
      simp [hi, KP.set1]
    · have e' : ¬ i = v := fun z => e z.symm
      simp [e, KP.set1, e']
  · have hi' : n ≤ i := by omega
    rw [List.getElem?_eq_none (by simpa using hi'), List.getElem?_eq_none (by simpa using hi')]
    simp only [List.length_map, List.length_range]
    split
    · rw [if_neg (by omega)]
    · rfl
theorem ixN_nat {n a : Nat} (h : a < n) : ixN n (a : Int) = some a := by
  unfold ixN
  rw [if_pos (by omega), if_pos (by omega), Int.toNat_natCast]
theorem DOn.put {kvs : List (Key × V)} {nx : Nat → Option Nat} (h : DOn kvs nx) (v o : Nat) : DOn (putK kvs (Sum.inl (v : Int)) (.int o)) (KP.set1 nx v (some o)) := fun a => by
  rw [valV_put]
  by_cases e : a = v
  · subst e
    rw [if_pos rfl, KP.set1_same]
    rfl
  · rw [if_neg (by intro z; apply e; injection z with z; omega), KP.set1_ne e]
    exact h a
noncomputable def spRaise (_ : PySem.W.Frag) : Sp := fun vs H Q _ => ∃ (sl f d : Addr) (n j : Nat) (rs : List Addr) (sts : List (Nat × Nat × Int)) (st : Nat → Nat → Option Int) (m : Nat → Int) (nx : Nat → Option Nat) (L : Nat → Nat) (kvs : List (Key × V)),
  vs = [.ref sl, .ref f, .ref d] ∧ H sl = some (.lst (rs.map V.ref)) ∧ Paired (Tr H) rs sts ∧ sl ≠ f ∧ H f = some (.lst (Fnd n m)) ∧ H d = some (.dK kvs) ∧ DOn kvs nx ∧ kvs.length + sts.length ≤ 1000000 ∧ (∀ s ∈ sts, s.1 < n ∧ s.2.1 < n ∧ st s.1 s.2.1 = some s.2.2) ∧
  KP.MS n st m nx L ∧ KP.Seen sts m L j 0 ∧ 1 ≤ j ∧ (∀ a, L a ≤ j) ∧
  ∀ (r : V) (m' : Nat → Int) (nx' : Nat → Option Nat) (L' : Nat → Nat) (kvs' : List (Key × V)) (H' : Hp), (∀ b o, H b = some o → b ≠ f → b ≠ d → H' b = some o) → H' f = some (.lst (Fnd n m')) → H' d = some (.dK kvs') → DOn kvs' nx' → kvs'.length ≤ kvs.length + sts.length →
    KP.MS n st m' nx' L' → KP.Seen sts m' L' j sts.length → (∀ a, L' a ≤ j) → ((r = .non ∧ ∀ s ∈ sts, m' s.2.1 + s.2.2 ≤ m' s.1) ∨ ∃ v : Nat, r = .int v ∧ v < n ∧ L' v = j) → Q r H'
noncomputable abbrev sRaise : Stmt := (top 26)
noncomputable abbrev nRaise : List Str := ["steps", "found", "onward", "raised", "one", "other", "worth"]
noncomputable abbrev pRaise : List Str := ["steps", "found", "onward"]
theorem scRaise : FnScope nRaise pRaise (defScope sRaise) := ⟨rfl, rfl, rfl, by decide +kernel, rfl, by decide +kernel, by decide +kernel⟩
noncomputable abbrev RaiseI (H : Hp) (sl f d : Addr) (n j : Nat) (sts : List (Nat × Nat × Int)) (st : Nat → Nat → Option Int) (kvs : List (Key × V)) (i : Nat) (σ : St) (H2 : Hp) : Prop := ∃ m' nx' L' kvs' rv v1 v2 v3, σ = [some (.ref sl), some (.ref f), some (.ref d), some rv, v1, v2, v3] ∧ (∀ b o, H b = some o → b ≠ f → b ≠ d → H2 b = some o) ∧ H2 f = some (.lst (Fnd n m')) ∧ H2 d = some (.dK kvs') ∧ DOn kvs' nx' ∧ kvs'.length ≤ kvs.length + i ∧
        KP.MS n st m' nx' L' ∧ KP.Seen sts m' L' j i ∧ (∀ a, L' a ≤ j) ∧ ((rv = .non ∧ ∀ s ∈ sts.take i, m' s.2.1 + s.2.2 ≤ m' s.1) ∨ ∃ v : Nat, rv = .int v ∧ v < n ∧ L' v = j)
theorem ok_raise (T : Tx K mg) : FnOk P w K mg base CX0 1 T.a_raise_once T.f_raise_once pRaise (spRaise K) := by
  refine T.d_raise_once.F.ok scRaise (fun vs H Q E h => ?_) (fun cdv A outer s H vs Q E hr h => ?_)
  · obtain ⟨_, _, _, _, _, _, _, _, _, _, _, _, rfl, _⟩ := h
    rfl
  · obtain ⟨sl, f, d, n, j, rs, sts, st, m, nx, L, kvs, rfl, hsl, hP, hne, hf, hd, hD, hlen, hst, S, Se, hj, hL, q⟩ := h
    have hz := sizeLine_eq
    have hu := hu_of hr
    have hfd : f ≠ d := ne_of hf hd (by intro z; cases z)
    have hsd : sl ≠ d := ne_of hsl hd (by intro z; cases z)
    refine ⟨_, (pss_cons (ps_set (i := 3) scRaise.nd rfl (Or.inl rfl) pe_non)
      (pss_cons (ps_for PassesOwn.never rfl (piL (K := K) rfl (pv 0)) (pgT (K := K) rfl rfl (pgs_cons (pg_name (i := 4) scRaise.nd rfl (Or.inl rfl)) (pgs_cons (pg_name (i := 5) scRaise.nd rfl (Or.inl rfl)) (pgs_cons (pg_name (i := 6) scRaise.nd rfl (Or.inl rfl)) pgs_nil))))
        (pss_one (ps_if (pt_cmpR op_lt (pe_ix (ixL (K := K) rfl) (pv 1) (pv 4) (fun _ _ => rfl)) (pe_op op_add (pe_ix (ixL (K := K) rfl) (pv 1) (pv 5) (fun _ _ => rfl)) (pv 6)) (nomark _))
          (pss_cons (ps_asg (pe_op op_add (pe_ix (ixL (K := K) rfl) (pv 1) (pv 5) (fun _ _ => rfl)) (pv 6)) (pg_sub (pv 1) (pv 4) set_list))
      (pss_cons (ps_dput hu (pv 2) (pv 4) (pv 5) rfl)
      (pss_one (ps_set (i := 3) scRaise.nd rfl (Or.inl rfl) (pv 4))))) pss_nil)))
      (pss_one (ps_ret (pv 3))))), ?_⟩
    refine ⟨_, rfl, sl, rfl, ⟨_, SqL.of hsl⟩, for_list (K := K) (a := sl) (xs := rs.map V.ref) (RaiseI H sl f d n j sts st kvs)
      ⟨m, nx, L, kvs, .non, none, none, none, rfl, fun _ _ h _ _ => h, hf, hd, hD, Nat.le_refl _, S, Se, hL, .inl ⟨rfl, fun s hs => by simp at hs⟩⟩ (fun i σ H2 _ ⟨_, _, _, _, _, _, _, _, _, h, _⟩ => SqL.of (h _ _ hsl hne hsd)) ?_ ?_⟩
    · rintro i y σ H2 hi ⟨m', nx', L', kvs', rv, v1, v2, v3, rfl, fr, hf2, hd2, hD2, hl2, S2, Se2, hL2, hrv⟩
      obtain ⟨r, hr, rfl⟩ := refs_at hi
      obtain ⟨⟨a, b, wt⟩, hab, hp⟩ := Paired.at hP hr
      have hp0 : H r = some (.tup [.int (a : Int), .int (b : Int), .int wt]) := hp
      have hp2 := fr _ _ hp0 (ne_of hp0 hf (by intro z; cases z)) (ne_of hp0 hd (by intro z; cases z))
      obtain ⟨ha, hb, hs⟩ := hst _ (List.mem_of_getElem? hab)
      simp only at ha hb hs
      have hil := (List.getElem?_eq_some_iff.mp hab).1
      refine ⟨r, [.int (a : Int), .int (b : Int), .int wt], rfl, SqT.of hp2, rfl, _, _, rfl, _, _, rfl, _, _, rfl, rfl, ?_⟩
      refine ⟨_, rfl, _, rfl, f, _, _, _, rfl, rfl, SqL.of hf2, fnd_at ha, _, rfl, _, rfl, f, _, _, _, rfl, rfl, SqL.of hf2, fnd_at hb, _, rfl, _, _, rfl, rfl, _, _, rfl, rfl, _, rfl, ?_⟩
      refine ite2 (fun h => ?_) (fun h => ?_)
      · have hr : m' a < m' b + wt := of_decide_eq_true h
        refine ⟨_, rfl, _, rfl, f, _, _, _, rfl, rfl, SqL.of hf2, fnd_at hb, _, rfl, _, _, rfl, rfl, _, rfl, _, rfl, f, _, (a : Int), a, rfl, rfl, hf2, by rw [fnd_len]; exact ixN_nat ha, ?_⟩
        have hd3 : (upd H2 f (.lst ((Fnd n m').set a (.int (m' b + wt))))) d = some (.dK kvs') := by rw [upd_ne hfd.symm]; exact hd2
        refine ⟨_, rfl, _, rfl, _, rfl, d, _, rfl, DPut.k (k := Sum.inl (a : Int)) hd3 (by omega), _, rfl, ?_⟩
        refine ⟨KP.set1 m' a (m' b + wt), KP.set1 nx' a (some b), KP.set1 L' a j, _, .int a, _, _, _, rfl, fun c o hc h1 h2 => ?_, ?_, upd_same, hD2.put a b, ?_, S2.rise ha hb hs hr hL2 (Se2.lo hj hab hr), Se2.rise hab hr hL2, fun x => ?_, .inr ⟨a, rfl, ha, KP.set1_same⟩⟩
        · rw [upd_ne h2, upd_ne h1]
          exact fr c o hc h1 h2
        · rw [upd_ne hfd, upd_same, fnd_set]
        · have := length_putK kvs' (Sum.inl (a : Int)) (V.int b)
          omega
        · by_cases e : x = a
          · subst e; rw [KP.set1_same]; exact Nat.le_refl _
          · rw [KP.set1_ne e]; exact hL2 x
      · have hr : ¬ m' a < m' b + wt := fun z => h (decide_eq_true z)
        refine ⟨m', nx', L', kvs', rv, _, _, _, rfl, fr, hf2, hd2, hD2, by omega, S2, Se2.keep hab hr, hL2, ?_⟩
        rcases hrv with ⟨e, hsat⟩ | hrv
        · refine .inl ⟨e, fun s hs => ?_⟩
          rcases mem_take1 hab hs with h1 | h1
          · exact hsat s h1
          · rw [h1]
            show m' b + wt ≤ m' a
            omega
        · exact .inr hrv
    · rintro σ H2 ⟨m', nx', L', kvs', rv, v1, v2, v3, rfl, fr, hf2, hd2, hD2, hl2, S2, Se2, hL2, hrv⟩
      have e1 : (rs.map V.ref).length = sts.length := by rw [List.length_map, Paired.length hP]
      rw [e1] at hl2 Se2 hrv
      rw [List.take_length] at hrv
      exact ⟨_, rfl, q rv m' nx' L' kvs' H2 fr hf2 hd2 hD2 hl2 S2 Se2 hL2 hrv⟩
end
section
variable {P : Program} {w : World} {K : PySem.W.Frag} {mg : Str → Option Value} {base : Heap}
/-- v: the least marks, a list that was not there in H0 -/
noncomputable def MarkV (H0 H : Hp) (n : Nat) (rel : Nat → Nat → Bool) (W : Int) (v : V) : Prop := ∃ l m, v = .ref l ∧ H0 l = none ∧ H l = some (.lst (Fnd n m)) ∧ Tells n rel W m ∧ ∀ a, a < n → KP.Low n (stW rel W) m a
/-- v: a misfit, a list that was not there in H0 -/
noncomputable def MisV (H0 H : Hp) (n : Nat) (rel : Nat → Nat → Bool) (W : Int) (v : V) : Prop := ∃ l c, v = .ref l ∧ H0 l = none ∧ H l = some (.lst (Iv c)) ∧ KP.Mis n (stW rel W) c
theorem MarkV.same {H0 H H' : Hp} {n : Nat} {rel : Nat → Nat → Bool} {W : Int} {v : V} (h : MarkV H0 H n rel W v) (s : Same H H') : MarkV H0 H' n rel W v := by
  obtain ⟨l, m, h1, h2, h3, h4⟩ := h
  exact ⟨l, m, h1, h2, s _ _ h3, h4⟩
theorem MisV.same {H0 H H' : Hp} {n : Nat} {rel : Nat → Nat → Bool} {W : Int} {v : V} (h : MisV H0 H n rel W v) (s : Same H H') : MisV H0 H' n rel W v := by
  obtain ⟨l, m, h1, h2, h3, h4⟩ := h
  exact ⟨l, m, h1, h2, s _ _ h3, h4⟩
theorem MarkV.old {H00 H0 H : Hp} {n : Nat} {rel : Nat → Nat → Bool} {W : Int} {v : V} (h : MarkV H0 H n rel W v) (s : Same H00 H0) : MarkV H00 H n rel W v := by
  obtain ⟨l, m, h1, h2, h3, h4⟩ := h
  exact ⟨l, m, h1, s.free h2, h3, h4⟩
theorem MisV.old {H00 H0 H : Hp} {n : Nat} {rel : Nat → Nat → Bool} {W : Int} {v : V} (h : MisV H0 H n rel W v) (s : Same H00 H0) : MisV H00 H n rel W v := by
  obtain ⟨l, m, h1, h2, h3, h4⟩ := h
  exact ⟨l, m, h1, s.free h2, h3, h4⟩
noncomputable def spMM (_ : PySem.W.Frag) : Sp := fun vs H Q _ => ∃ (p : Addr) (n : Nat) (W : Int) (rel : Nat → Nat → Bool) (rows : List Addr), vs = [.ref p, .int W] ∧ Tab H p n rel rows ∧ n ≤ 100 ∧ 1 ≤ W ∧
  ∀ (t : Addr) (v1 v2 : V) (H' : Hp), Same H H' → H t = none → H' t = some (.tup [v1, v2]) → ((v2 = .non ∧ MarkV H H' n rel W v1) ∨ (v1 = .non ∧ MisV H H' n rel W v2)) → Q (.ref t) H'
noncomputable abbrev sMM : Stmt := (top 27)
noncomputable abbrev nMM : List Str := ["table", "width", "steps", "found", "onward", "raised", "turn"]
noncomputable abbrev pMM : List Str := ["table", "width"]
theorem scMM : FnScope nMM pMM (defScope sMM) := ⟨rfl, rfl, rfl, by decide +kernel, rfl, by decide +kernel, by decide +kernel⟩
noncomputable abbrev MmA (H : Hp) (p sl f d : Addr) (W : Int) (n : Nat) (sts : List (Nat × Nat × Int)) (st : Nat → Nat → Option Int) (σ : St) (H' : Hp) : Prop := ∃ m nx L kvs rv v, σ = [some (.ref p), some (.int W), some (.ref sl), some (.ref f), some (.ref d), some rv, v] ∧ Same H H' ∧ H' f = some (.lst (Fnd n m)) ∧ H' d = some (.dK kvs) ∧ DOn kvs nx ∧ KP.MS n st m nx L ∧ ((rv = .non ∧ ∀ s ∈ sts, m s.2.1 + s.2.2 ≤ m s.1) ∨ ∃ v : Nat, rv = .int v ∧ v < n ∧ L v = n ∧ 1 ≤ n)
noncomputable abbrev MmB (H : Hp) (p sl f d : Addr) (W : Int) (n : Nat) (sts : List (Nat × Nat × Int)) (st : Nat → Nat → Option Int) (rs : List Addr) (i : Nat) (σ : St) (H' : Hp) : Prop := ∃ m nx L kvs rv v, σ = [some (.ref p), some (.int W), some (.ref sl), some (.ref f), some (.ref d), some rv, v] ∧ Same H H' ∧ H' sl = some (.lst (rs.map V.ref)) ∧ Paired (Tr H') rs sts ∧ H' f = some (.lst (Fnd n m)) ∧ H' d = some (.dK kvs) ∧ DOn kvs nx ∧ KP.MS n st m nx L ∧ KP.Seen sts m L (i + 1) 0 ∧ (∀ a, L a ≤ i) ∧ kvs.length ≤ i * 10000 ∧ ((rv = .non ∧ i = 0) ∨ ∃ v : Nat, rv = .int v ∧ v < n ∧ L v = i ∧ 1 ≤ i)
theorem ok_mm (T : Tx K mg) : FnOk P w K mg base CX0 2 T.a_marks_or_misfit T.f_marks_or_misfit pMM (spMM K) := by
  have GSteps : FnOk P w K mg base CX0 1 T.a_steps_in T.f_steps_in pSteps (spSteps K) := ok_steps T
  have bSteps : Binds K T.f_steps_in pSteps [] := bd2 T.d_steps_in.F fun _ _ _ _ _ _ _ _ => rfl
  have GRaise : FnOk P w K mg base CX0 1 T.a_raise_once T.f_raise_once pRaise (spRaise K) := ok_raise T
  have bRaise : Binds K T.f_raise_once pRaise [] := bd3 T.d_raise_once.F fun _ _ _ _ _ _ _ _ _ => rfl
  have GCome : FnOk P w K mg base CX0 1 T.a_come_round T.f_come_round pCome (spCome K) := ok_come T.d_come_round
  have bCome : Binds K T.f_come_round pCome [] := bd2 T.d_come_round.F fun _ _ _ _ _ _ _ _ => rfl
  refine T.d_marks_or_misfit.F.ok scMM (fun vs H Q E h => ?_) (fun cdv A outer s H vs Q E hr h => ?_)
  · obtain ⟨_, _, _, _, _, rfl, _⟩ := h
    rfl
  · obtain ⟨p, n, W, rel, rows, rfl, Tb, hn, hW, q⟩ := h
    have hz := sizeLine_eq
    have hu := hu_of hr
    refine ⟨_, (pss_cons (ps_set (i := 2) scMM.nd rfl (Or.inl rfl) (pe_call GSteps hr rfl T.d_steps_in.m T.d_steps_in.F.kp bSteps .nil pass0 (pa_cons (pv 0) (pa_cons (pv 1) pa_nil))))
      (pss_cons (ps_set (i := 3) scMM.nd rfl (Or.inl rfl) (pe_op op_rep (pe_lst (pa_cons pe_int pa_nil)) (pe_callB (lenS (K := K) rfl) (by rfl) T.B.len PySem.boot_len (pa_cons (pv 0) pa_nil))))
      (pss_cons (ps_set (i := 4) scMM.nd rfl (Or.inl rfl) pe_dnewK)
      (pss_cons (ps_set (i := 5) scMM.nd rfl (Or.inl rfl) pe_non)
      (pss_cons (ps_cut (ps_for PassesOwn.never rfl (pi_range1 rfl T.B.range (pa_cons (pe_callB (lenS (K := K) rfl) (by rfl) T.B.len PySem.boot_len (pa_cons (pv 0) pa_nil)) pa_nil)) (pg_name (i := 6) scMM.nd rfl (Or.inl rfl))
        (pss_cons (ps_set (i := 5) scMM.nd rfl (Or.inl rfl) (pe_call GRaise hr rfl T.d_raise_once.m T.d_raise_once.F.kp bRaise .nil pass0 (pa_cons (pv 2) (pa_cons (pv 3) (pa_cons (pv 4) pa_nil)))))
      (pss_one (ps_if (pt_cmpR op_isN (pv 5) pe_non (nomark _)) (pss_one (ps_break)) pss_nil)))))
      (pss_cons (ps_if (pt_cmpR op_isN (pv 5) pe_non (nomark _)) (pss_one (ps_ret (pe_tup (pa_cons (pv 3) (pa_cons pe_non pa_nil))))) pss_nil)
      (pss_one (ps_ret (pe_tup (pa_cons pe_non (pa_cons (pe_call GCome hr rfl T.d_come_round.m T.d_come_round.F.kp bCome .nil pass0 (pa_cons (pv 4) (pa_cons (pv 5) pa_nil))) pa_nil))))))))))), ?_⟩
    refine ⟨_, rfl, _, rfl, p, n, W, rel, rows, rfl, Tb, hn, fun sl rs H1 s1 hsl0 hsl hP => ?_⟩
    refine ⟨(by show 1 ≤ sizeLine; decide), fun z0 hz0 => ?_⟩
    have s2 := Same.new (o := .lst [.int 0]) hz0
    refine ⟨_, rfl, p, _, rfl, .inl (SqL.of (s2 _ _ (s1 _ _ Tb.top))), z0, _, _, rfl, rfl, upd_same, by omega, by rw [List.length_map, Tb.len]; omega, ?_, fun f hf0 => ?_⟩
    · rw [List.length_map, Tb.len, Int.toNat_natCast]
      show 1 * n ≤ _
      omega
    have s3 := Same.new (o := .lst (List.replicate ((rows.map V.ref).length : Int).toNat [V.int 0]).flatten) hf0
    have hfd0 : (List.replicate ((rows.map V.ref).length : Int).toNat [V.int 0]).flatten = Fnd n (fun _ => 0) := by
      rw [List.length_map, Tb.len, Int.toNat_natCast, flat_one]
      rfl
    have hf1 := upd_same (H := upd H1 z0 (.lst [.int 0])) (a := f) (o := .lst (List.replicate ((rows.map V.ref).length : Int).toNat [V.int 0]).flatten)
    rw [hfd0] at hf1 s3
    rw [hfd0]
    have hsf : sl ≠ f := ne_of_none (s2 _ _ hsl) hf0
    have hfH : H f = none := (s1.trans s2).free hf0
    have hsl3 := s3 _ _ (s2 _ _ hsl)
    have s03 := s1.trans (s2.trans s3)
    have hP3 : Paired (Tr _) rs (gridS n (stW rel W) n) := Paired.mapP hP fun a b h => (s2.trans s3) _ _ h
    revert hf1 hsl3 s03 hP3
    clear s3
    generalize upd (upd H1 z0 (.lst [.int 0])) f (.lst (Fnd n fun _ => 0)) = H3
    intro hf1 hsl3 s03 hP3
    refine fun d hd0 => ?_
    have hdH : H d = none := s03.free hd0
    have s4 := Same.new (o := .dK []) hd0
    have hfd : f ≠ d := ne_of_none hf1 hd0
    generalize hst : stW rel W = st at *
    generalize hsts : gridS n st n = sts at *
    have hstm : ∀ s ∈ sts, s.1 < n ∧ s.2.1 < n ∧ st s.1 s.2.1 = some s.2.2 := fun s hs => by
      rw [← hsts] at hs
      exact gridS_mem.mp hs
    have hstl : sts.length ≤ 10000 := by
      rw [← hsts]
      exact Nat.le_trans (gridS_len n st n) (Nat.mul_le_mul hn hn)
    have hall : ∀ (m : Nat → Int), (∀ s ∈ sts, m s.2.1 + s.2.2 ≤ m s.1) → ∀ a b w, a < n → b < n → st a b = some w → m b + w ≤ m a := fun m h a b w ha hb hw => h (a, b, w) (by rw [← hsts]; exact gridS_mem.mpr ⟨ha, hb, hw⟩)
    refine ⟨MmA H p sl f d W n sts st, ?_, ?_⟩
    · refine ⟨_, rfl, p, _, rfl, .inl (SqL.of (s4 _ _ (s03 _ _ Tb.top))), _, rfl, by omega, by rw [List.length_map, Tb.len]; omega, ?_⟩
      rw [List.length_map, Tb.len, Int.toNat_natCast]
      refine for_range0 (MmB H p sl f d W n sts st rs)
        ⟨_, _, _, [], .non, none, rfl, s03.trans s4, s4 _ _ hsl3, Paired.mapP hP3 fun a b h => s4 _ _ h, s4 _ _ hf1, upd_same, fun a => rfl, KP.MS.start n st, KP.Seen.start _ _ _, fun _ => Nat.le_refl _, Nat.zero_le _, .inl ⟨rfl, rfl⟩⟩ ?_ ?_
      · rintro i σ H5 hi ⟨m, nx, L, kvs, rv, v, rfl, s5, hsl5, hP5, hf5, hd5, hD5, S5, Se5, hL5, hk5, _⟩
        have hkb : i * 10000 ≤ 100 * 10000 := Nat.mul_le_mul (by omega) (Nat.le_refl _)
        have hkb2 : i * 10000 ≤ 990000 := by
          have : i ≤ 99 := by omega
          omega
        refine ⟨_, rfl, _, rfl, _, rfl, sl, f, d, n, i + 1, rs, sts, st, m, nx, L, kvs, rfl, hsl5, hP5, hsf, hf5, hd5, hD5, by omega, hstm, S5, Se5, by omega, fun a => Nat.le_succ_of_le (hL5 a), fun r m' nx' L' kvs' H6 fr hf6 hd6 hD6 hk6 S6 Se6 hL6 hr6 => ?_⟩
        have s6 : Same H H6 := fun b o hb => fr b o (s5 b o hb) (ne_of_none hb hfH) (ne_of_none hb hdH)
        rcases hr6 with ⟨rfl, hsat⟩ | ⟨v', rfl, hv', hLv⟩
        · exact ⟨_, rfl, rfl, _, rfl, iteT ⟨m', nx', L', kvs', _, _, rfl, s6, hf6, hd6, hD6, S6, .inl ⟨rfl, hsat⟩⟩⟩
        · refine ⟨_, rfl, rfl, _, rfl, iteF ⟨m', nx', L', kvs', _, _, rfl, s6, fr _ _ hsl5 hsf (ne_of hsl5 hd5 (by intro z; cases z)), Paired.mapP hP5 fun a b h => ?_, hf6, hd6, hD6, S6, Se6.next, hL6, by omega, .inr ⟨v', rfl, hv', hLv, by omega⟩⟩⟩
          have hh : H5 a = some (.tup [.int (b.1 : Int), .int (b.2.1 : Int), .int b.2.2]) := h
          exact fr _ _ hh (ne_of hh hf5 (by intro z; cases z)) (ne_of hh hd5 (by intro z; cases z))
      · rintro σ H5 ⟨m, nx, L, kvs, rv, v, rfl, s5, hsl5, hP5, hf5, hd5, hD5, S5, Se5, hL5, hk5, hrv⟩
        refine ⟨m, nx, L, kvs, rv, v, rfl, s5, hf5, hd5, hD5, S5, ?_⟩
        rcases hrv with ⟨rfl, h0⟩ | ⟨v', rfl, hv', hLv, h1⟩
        · refine .inl ⟨rfl, fun s hs => ?_⟩
          have := hstm s hs
          omega
        · exact .inr ⟨v', rfl, hv', hLv, h1⟩
    · rintro σ H5 ⟨m, nx, L, kvs, rv, v, rfl, s5, hf5, hd5, hD5, S5, hrv⟩
      rcases hrv with ⟨rfl, hsat⟩ | ⟨v', rfl, hv', hLv, h1⟩
      · refine ⟨_, rfl, rfl, _, rfl, iteT ⟨_, rfl, (by show 2 ≤ sizeLine; decide), fun t ht => ?_⟩⟩
        have s6 := Same.new (o := .tup [.ref f, .non]) ht
        refine q t _ _ _ (s5.trans s6) (s5.free ht) upd_same (.inl ⟨rfl, f, m, rfl, hfH, s6 _ _ hf5, ?_, ?_⟩)
        · exact tells_of hW S5.nn (by rw [hst]; exact hall m hsat)
        · rw [hst]
          exact KP.low_of S5 (hall m hsat)
      · obtain ⟨Sl, hv1, hv2, hv3⟩ := S5.walk h1 hv' (by omega)
        refine ⟨_, rfl, rfl, _, rfl, iteF ?_⟩
        refine ⟨_, rfl, _, rfl, d, v', kvs, Sl, fun y => (nx y).getD 0, rfl, hd5, hv1, by omega, fun y hy => ⟨?_, (hv3 y hy).2⟩, fun l c H6 s6 hl0 hl6 hR hc hcl => ?_⟩
        · rw [hD5 y, (hv3 y hy).1]
          rfl
        · refine ⟨(by show 2 ≤ sizeLine; decide), fun t ht => ?_⟩
          have s7 := Same.new (o := .tup [.non, .ref l]) ht
          have s57 := s5.trans s6
          refine q t _ _ _ (s57.trans s7) (s57.free ht) upd_same (.inr ⟨rfl, l, c, rfl, s5.free hl0, s7 _ _ hl6, ?_⟩)
          rw [hst]
          exact S5.mis hR fun y hy => (hv3 y (hc y hy)).1
end
section
variable {P : Program} {w : World} {K : PySem.W.Frag} {mg : Str → Option Value} {base : Heap}
noncomputable def spRW (_ : PySem.W.Frag) : Sp := fun vs H Q _ => ∃ W : Int, vs = [.int W] ∧ 1 ≤ W ∧ W ≤ 1000 ∧ Q .non H
noncomputable abbrev sRW : Stmt := (top 24)
noncomputable abbrev nRW : List Str := ["width"]
noncomputable abbrev pRW : List Str := ["width"]
theorem scRW : FnScope nRW pRW (defScope sRW) := ⟨rfl, rfl, rfl, by decide +kernel, rfl, by decide +kernel, by decide +kernel⟩
theorem ok_rw (T : Tx K mg) : FnOk P w K mg base CX0 1 T.a_refuse_width T.f_refuse_width pRW (spRW K) := by
  refine T.d_refuse_width.F.ok scRW (fun vs H Q E h => ?_) (fun cdv A outer s H vs Q E hr h => ?_)
  · obtain ⟨_, rfl, _⟩ := h
    rfl
  · obtain ⟨W, rfl, h1, h2, q⟩ := h
    refine ⟨_, (pss_one (ps_if (pt_not (pt_chain op_le op_le pe_int (pv 0) (pe_glob (v := .int 1000) rfl T.v_GREATEST_WIDTH ⟨_, rfl⟩))) pss_never pss_nil)), ?_⟩
    refine ⟨_, rfl, _, _, rfl, rfl, _, rfl, ?_⟩
    rw [if_pos (decide_eq_true h1)]
    refine ⟨_, _, rfl, rfl, _, rfl, ?_⟩
    rw [decide_eq_true h2]
    exact iteF q
end
section
variable {P : Program} {w : World} {K : PySem.W.Frag} {mg : Str → Option Value} {base : Heap}
noncomputable def spMarksOf (K : PySem.W.Frag) : Sp := fun vs H Q _ => ∃ (l : Addr) (n : Nat) (W : Int) (ps : List (Int × Int)), vs = [.int n, .ref l, .int W] ∧ Prs K H l ps ∧ In n ps ∧ n ≤ 100 ∧ 1 ≤ W ∧ W ≤ 1000 ∧
  ∀ v H', Same H H' → (MarkV H H' n (better ps) W v ∨ (v = .non ∧ ∃ c, KP.Mis n (stW (better ps) W) c)) → Q v H'
noncomputable abbrev sMarksOf : Stmt := (top 28)
noncomputable abbrev nMarksOf : List Str := ["many", "pairs", "width", "table"]
noncomputable abbrev pMarksOf : List Str := ["many", "pairs", "width"]
theorem scMarksOf : FnScope nMarksOf pMarksOf (defScope sMarksOf) := ⟨rfl, rfl, rfl, by decide +kernel, rfl, by decide +kernel, by decide +kernel⟩
theorem ok_marksOf (T : Tx K mg) : FnOk P w K mg base CX0 3 T.a_marks_of T.f_marks_of pMarksOf (spMarksOf K) := by
  have GMM : FnOk P w K mg base CX0 2 T.a_marks_or_misfit T.f_marks_or_misfit pMM (spMM K) := ok_mm T
  have bMM : Binds K T.f_marks_or_misfit pMM [] := bd2 T.d_marks_or_misfit.F fun _ _ _ _ _ _ _ _ => rfl
  have GRW : FnOk P w K mg base CX0 1 T.a_refuse_width T.f_refuse_width pRW (spRW K) := ok_rw T
  have bRW : Binds K T.f_refuse_width pRW [] := bd1 T.d_refuse_width.F fun _ _ _ _ _ _ _ => rfl
  have GTable : FnOk P w K mg base CX0 2 T.a_table_of T.f_table_of pTable (spTable K) := ok_table T.d_table_of T.d_refuse_strangers T.B
  have bTable : Binds K T.f_table_of pTable [] := bd2 T.d_table_of.F fun _ _ _ _ _ _ _ _ => rfl
  refine T.d_marks_of.F.ok scMarksOf (fun vs H Q E h => ?_) (fun cdv A outer s H vs Q E hr h => ?_)
  · obtain ⟨a, _, _, _, rfl, _⟩ := h
    rfl
  · obtain ⟨l, n, W, ps, rfl, hP, hin, hn, h1, h2, q⟩ := h
    have hr1 : Room 1 _ := hr.mono (by decide)
    refine ⟨_, (pss_cons (ps_set (i := 3) scMarksOf.nd rfl (Or.inl rfl) (pe_call GTable hr rfl T.d_table_of.m T.d_table_of.F.kp bTable .nil pass0 (pa_cons (pv 0) (pa_cons (pv 1) pa_nil))))
      (pss_cons (ps_expr (pe_call GRW hr1 rfl T.d_refuse_width.m T.d_refuse_width.F.kp bRW .nil pass0 (pa_cons (pv 2) pa_nil)))
      (pss_one (ps_ret (pe_ix (ixT (K := K) rfl) (pe_call GMM hr rfl T.d_marks_or_misfit.m T.d_marks_or_misfit.F.kp bMM .nil pass0 (pa_cons (pv 3) (pa_cons (pv 2) pa_nil))) pe_int (fun _ _ => rfl)))))), ?_⟩
    refine ⟨_, rfl, _, rfl, l, n, ps, rfl, hP, hin, by omega, fun p rows H1 s1 Tb => ?_⟩
    refine ⟨_, rfl, W, rfl, h1, h2, ?_⟩
    refine ⟨_, rfl, _, rfl, p, n, W, better ps, rows, rfl, Tb, hn, h1, fun t v1 v2 H2 s2 ht0 ht hv => ?_⟩
    refine ⟨t, _, _, _, rfl, rfl, SqT.of ht, two0, q v1 H2 (s1.trans s2) ?_⟩
    rcases hv with ⟨_, h⟩ | ⟨rfl, l2, c, _, _, _, hc⟩
    · exact .inl (h.old s1)
    · exact .inr ⟨rfl, c, hc⟩
end
section
variable {P : Program} {w : World} {K : PySem.W.Frag} {mg : Str → Option Value} {base : Heap}
noncomputable def spMisfit (K : PySem.W.Frag) : Sp := fun vs H Q _ => ∃ (l : Addr) (n : Nat) (W : Int) (ps : List (Int × Int)), vs = [.int n, .ref l, .int W] ∧ Prs K H l ps ∧ In n ps ∧ n ≤ 100 ∧ 1 ≤ W ∧ W ≤ 1000 ∧
  ∀ v H', Same H H' → (MisV H H' n (better ps) W v ∨ (v = .non ∧ ∃ m, Tells n (better ps) W m)) → Q v H'
noncomputable abbrev sMisfit : Stmt := (top 29)
noncomputable abbrev nMisfit : List Str := ["many", "pairs", "width", "table"]
noncomputable abbrev pMisfit : List Str := ["many", "pairs", "width"]
theorem scMisfit : FnScope nMisfit pMisfit (defScope sMisfit) := ⟨rfl, rfl, rfl, by decide +kernel, rfl, by decide +kernel, by decide +kernel⟩
theorem ok_misfit (T : Tx K mg) : FnOk P w K mg base CX0 3 T.a_misfit T.f_misfit pMisfit (spMisfit K) := by
  have GMM : FnOk P w K mg base CX0 2 T.a_marks_or_misfit T.f_marks_or_misfit pMM (spMM K) := ok_mm T
  have bMM : Binds K T.f_marks_or_misfit pMM [] := bd2 T.d_marks_or_misfit.F fun _ _ _ _ _ _ _ _ => rfl
  have GRW : FnOk P w K mg base CX0 1 T.a_refuse_width T.f_refuse_width pRW (spRW K) := ok_rw T
  have bRW : Binds K T.f_refuse_width pRW [] := bd1 T.d_refuse_width.F fun _ _ _ _ _ _ _ => rfl
  have GTable : FnOk P w K mg base CX0 2 T.a_table_of T.f_table_of pTable (spTable K) := ok_table T.d_table_of T.d_refuse_strangers T.B
  have bTable : Binds K T.f_table_of pTable [] := bd2 T.d_table_of.F fun _ _ _ _ _ _ _ _ => rfl
  refine T.d_misfit.F.ok scMisfit (fun vs H Q E h => ?_) (fun cdv A outer s H vs Q E hr h => ?_)
  · obtain ⟨a, _, _, _, rfl, _⟩ := h
    rfl
  · obtain ⟨l, n, W, ps, rfl, hP, hin, hn, h1, h2, q⟩ := h
    have hr1 : Room 1 _ := hr.mono (by decide)
    refine ⟨_, (pss_cons (ps_set (i := 3) scMisfit.nd rfl (Or.inl rfl) (pe_call GTable hr rfl T.d_table_of.m T.d_table_of.F.kp bTable .nil pass0 (pa_cons (pv 0) (pa_cons (pv 1) pa_nil))))
      (pss_cons (ps_expr (pe_call GRW hr1 rfl T.d_refuse_width.m T.d_refuse_width.F.kp bRW .nil pass0 (pa_cons (pv 2) pa_nil)))
      (pss_one (ps_ret (pe_ix (ixT (K := K) rfl) (pe_call GMM hr rfl T.d_marks_or_misfit.m T.d_marks_or_misfit.F.kp bMM .nil pass0 (pa_cons (pv 3) (pa_cons (pv 2) pa_nil))) pe_int (fun _ _ => rfl)))))), ?_⟩
    refine ⟨_, rfl, _, rfl, l, n, ps, rfl, hP, hin, by omega, fun p rows H1 s1 Tb => ?_⟩
    refine ⟨_, rfl, W, rfl, h1, h2, ?_⟩
    refine ⟨_, rfl, _, rfl, p, n, W, better ps, rows, rfl, Tb, hn, h1, fun t v1 v2 H2 s2 ht0 ht hv => ?_⟩
    refine ⟨t, _, _, _, rfl, rfl, SqT.of ht, two1, q v2 H2 (s1.trans s2) ?_⟩
    rcases hv with ⟨rfl, l2, m, _, _, _, hm, _⟩ | ⟨_, h⟩
    · exact .inr ⟨rfl, m, hm⟩
    · exact .inl (h.old s1)
end
noncomputable def Bad (K : PySem.W.Frag) (H : Hp) (l : Addr) (n : Nat) (ps : List (Int × Int)) : Prop := Prs K H l ps ∧ (∃ p ∈ ps, ¬ ((0 ≤ p.1 ∧ p.1 < n) ∧ 0 ≤ p.2 ∧ p.2 < n)) ∧ ∀ p ∈ ps, p.1.natAbs.log2 < 1920 ∧ p.2.natAbs.log2 < 1920
theorem Bad.same {K : PySem.W.Frag} {H H' : Hp} {l : Addr} {n : Nat} {ps : List (Int × Int)} (h : Bad K H l n ps) (s : Same H H') : Bad K H' l n ps := ⟨h.1.same s, h.2⟩
theorem big_len {i : Int} (h : i.natAbs.log2 < 1920) : (Str.ofString (toString i)).length ≤ 2000 := by
  have e := int_text_length_le (k := 1920) (by decide) h
  rw [PySem.ofString_length]
  omega
section
variable {P : Program} {w : World} {K : PySem.W.Frag} {mg : Str → Option Value} {base : Heap}
noncomputable def spRefX (T : Tx K mg) : Sp := fun vs H _ E => ∃ (l : Addr) (n : Nat) (ps : List (Int × Int)), vs = [.int n, .ref l] ∧ Bad K H l n ps ∧ ∀ H', Same H H' → E (.ref T.c_BadSay) none H'
noncomputable abbrev sRefX : Stmt := (top 7)
noncomputable abbrev nRefX : List Str := ["many", "pairs", "one", "other", "thing"]
noncomputable abbrev pRefX : List Str := ["many", "pairs"]
theorem scRefX : FnScope nRefX pRefX (defScope sRefX) := ⟨rfl, rfl, rfl, by decide +kernel, rfl, by decide +kernel, by decide +kernel⟩
theorem ok_refX (T : Tx K mg) : FnOk P w K mg base (CX1 P w) 1 T.a_refuse_strangers T.f_refuse_strangers pRefX (spRefX T) := by
  refine ok1 T.d_refuse_strangers.F scRefX (fun vs H Q E h => ?_) (fun cdv A outer s H vs Q E hr h => ?_)
  · obtain ⟨_, _, _, rfl, _⟩ := h
    rfl
  · obtain ⟨l, n, ps, rfl, ⟨⟨rs, hS, hP⟩, ⟨pb, hpb, hbad⟩, hlog⟩, hE⟩ := h
    have hz := sizeLine_eq
    refine ⟨_, (pss_one (ps_for own1 rfl (piL (K := K) rfl (pv 1)) (pgT (K := K) rfl rfl (pgs_cons (pg_name (i := 2) scRefX.nd rfl (Or.inl rfl)) (pgs_cons (pg_name (i := 3) scRefX.nd rfl (Or.inl rfl)) pgs_nil)))
      (pss_one (ps_for own1 rfl (pi_tup (pe_tup (pa_cons (pv 2) (pa_cons (pv 3) pa_nil)))) (pg_name (i := 4) scRefX.nd rfl (Or.inl rfl))
        (pss_one (ps_if (pt_not (pt_chain op_le op_lt pe_int (pv 4) (pv 0))) (pss_one (ps_raise rfl raises1 rfl T.kx_BadSay rfl T.mc_BadSay (pe_jn (.cons pe_str (.cons (pe_fv (pv 4)) .nil))))) pss_nil)))))), ?_⟩
    refine ⟨_, rfl, l, rfl, ⟨_, hS⟩, for_list (K := K) (a := l) (xs := rs.map V.ref) (fun i σ H2 => ∃ v1 v2 v3, σ = [some (.int n), some (.ref l), v1, v2, v3] ∧ Same H H2 ∧ ∀ p ∈ ps.take i, (0 ≤ p.1 ∧ p.1 < n) ∧ 0 ≤ p.2 ∧ p.2 < n) ⟨none, none, none, rfl, Same.refl _, (fun p hp => nomatch hp)⟩ (fun i σ H2 _ ⟨_, _, _, _, s2, _⟩ => s2.seq hS) ?_ ?_⟩
    · rintro i y σ H2 hi ⟨v1, v2, v3, rfl, s2, hgood⟩
      obtain ⟨r, hr, rfl⟩ := refs_at hi
      obtain ⟨⟨a, b⟩, hab, hp⟩ := Paired.at hP hr
      have hlg := hlog _ (List.mem_of_getElem? hab)
      dsimp only at hlg
      refine ⟨r, [.int a, .int b], rfl, SqT.of (s2 _ _ hp), rfl, _, _, rfl, _, _, rfl, rfl, ?_⟩
      refine ⟨_, rfl, _, rfl, (by show 2 ≤ sizeLine; decide), fun p hp0 => ⟨p, rfl, ⟨_, SqT.of upd_same⟩, for_tup (K := K) (a := p) (xs := [.int a, .int b]) (fun i σ H3 => ∃ v, σ = [some (.int n), some (.ref l), some (.int a), some (.int b), v] ∧ H3 = upd H2 p (.tup [.int a, .int b]) ∧ (1 ≤ i → 0 ≤ a ∧ a < n) ∧ (2 ≤ i → 0 ≤ b ∧ b < n)) ⟨_, rfl, rfl, (fun z => absurd z (by decide)), (fun z => absurd z (by decide))⟩ (fun i σ H3 _ ⟨_, _, e, _⟩ => by rw [e]; exact SqT.of upd_same) ?_ ?_⟩⟩
      · rintro j x σ H3 hj ⟨v, rfl, rfl, g1, g2⟩
        have s3 := s2.put (o := .tup [.int a, .int b]) (s2.free hp0)
        have hx : ∃ k : Int, x = .int k ∧ k.natAbs.log2 < 1920 ∧ ((0 ≤ k ∧ k < n) → (1 ≤ j + 1 → 0 ≤ a ∧ a < n) ∧ (2 ≤ j + 1 → 0 ≤ b ∧ b < n)) := by
          match j, hj with
          | 0, hj => exact ⟨a, by simpa using hj.symm, hlg.1, fun h => ⟨fun _ => h, (fun z => absurd z (by decide))⟩⟩
          | 1, hj => exact ⟨b, by simpa using hj.symm, hlg.2, fun h => ⟨fun _ => g1 (by decide), fun _ => h⟩⟩
          | j + 2, hj => simp at hj
        obtain ⟨k, rfl, hk, hnext⟩ := hx
        have hl1 : (Str.empty ++ Str.ofString "there is no thing ").length ≤ 18 := by decide +kernel
        have hl2 : (Str.empty ++ Str.ofString "there is no thing " ++ Str.ofString (toString k)).length ≤ 2018 := by
          rw [strLen_append]
          have := big_len hk
          omega
        have raised : ∀ {D : Ends}, tRaise E (.ref T.c_BadSay) (tJn [tC (.str (Str.ofString "there is no thing ")), tFv (tVar 4)] Str.empty) D [some (.int n), some (.ref l), some (.int a), some (.int b), some (.int k)] (upd H2 p (.tup [.int a, .int b])) := fun {D} =>
          ⟨_, rfl, Nat.le_trans hl1 (by omega), _, rfl, _, rfl, hk, _, rfl, Nat.le_trans hl2 (by omega), hE _ s3⟩
        refine ⟨_, rfl, _, _, rfl, rfl, _, rfl, ?_⟩
        by_cases k0 : 0 ≤ k
        · rw [if_pos (decide_eq_true k0)]
          refine ⟨_, rfl, _, _, rfl, rfl, _, rfl, ?_⟩
          by_cases k1 : k < n
          · rw [decide_eq_true k1]
            exact iteF ⟨_, rfl, rfl, hnext ⟨k0, k1⟩⟩
          · rw [decide_eq_false k1]
            exact iteT raised
        · rw [if_neg (by rw [decide_eq_false k0]; exact Bool.false_ne_true)]
          exact ⟨_, rfl, iteT raised⟩
      · rintro σ H3 ⟨v, rfl, rfl, g1, g2⟩
        refine ⟨_, _, _, rfl, s2.put (s2.free hp0), fun q hq => ?_⟩
        rw [List.take_add_one, hab] at hq
        rcases List.mem_append.mp hq with hq | hq
        · exact hgood q hq
        · obtain rfl := List.mem_singleton.mp hq
          exact ⟨g1 (by show 1 ≤ 2; decide), g2 (by show 2 ≤ 2; decide)⟩
    · rintro σ H2 ⟨v1, v2, v3, rfl, s2, hgood⟩
      rw [List.length_map, Paired.length hP, List.take_length] at hgood
      exact absurd (hgood pb hpb) hbad
end
theorem iteNI {a b : Int} (h : a ≠ b) {A B : Prop} (hb : B) : if decide (V.int a = V.int b) = true then A else B := by
  rw [decide_eq_false fun e => h (by injection e)]
  exact iteF hb
theorem iteEI {a : Int} {A B : Prop} (ha : A) : if decide (V.int a = V.int a) = true then A else B := by
  rw [decide_eq_true rfl]
  exact iteT ha
section
variable {P : Program} {w : World} {K : PySem.W.Frag} {mg : Str → Option Value} {base : Heap}
noncomputable def spBad3 (T : Tx K mg) : Sp := fun vs H _ E => ∃ (l : Addr) (n : Nat) (W : Int) (ps : List (Int × Int)), vs = [.int n, .ref l, .int W] ∧ Bad K H l n ps ∧ ∀ H', Same H H' → E (.ref T.c_BadSay) none H'
noncomputable abbrev spTableX (T : Tx K mg) : Sp := spRefX T
noncomputable abbrev sTableX : Stmt := (top 8)
noncomputable abbrev nTableX : List Str := ["many", "pairs", "table", "one", "other"]
noncomputable abbrev pTableX : List Str := ["many", "pairs"]
theorem scTableX : FnScope nTableX pTableX (defScope sTableX) := ⟨rfl, rfl, rfl, by decide +kernel, rfl, by decide +kernel, by decide +kernel⟩
theorem coTableX1 : CompOk (mkSc [(".0", .local), ("thing", .local), ("many", .free)]) ["thing"] (defScope sTableX) nTableX := ⟨rfl, by decide +kernel, by decide +kernel, by decide +kernel, by decide +kernel, by decide +kernel⟩
theorem cnTableX1 : (blkN nTableX ["thing"]).Nodup := by decide +kernel
theorem ok_TableX (T : Tx K mg) : FnOk P w K mg base (CX1 P w) 2 T.a_table_of T.f_table_of pTableX (spTableX T) := by
  have GRefX : FnOk P w K mg base (CX1 P w) 1 T.a_refuse_strangers T.f_refuse_strangers pRefX (spRefX T) := ok_refX T
  have bRefX : Binds K T.f_refuse_strangers pRefX [] := bd2 T.d_refuse_strangers.F fun _ _ _ _ _ _ _ _ => rfl
  refine ok1 T.d_table_of.F scTableX (fun vs H Q E h => ?_) (fun cdv A outer s H vs Q E hr h => ?_)
  · obtain ⟨_, _, _, rfl, _⟩ := h
    rfl
  · obtain ⟨l, n, ps, rfl, hB, hE⟩ := h
    refine ⟨_, pss_cons (ps_expr (pe_call GRefX hr rfl T.d_refuse_strangers.m T.d_refuse_strangers.F.kp bRefX .nil pass1 (pa_cons (pv 0) (pa_cons (pv 1) pa_nil)))) pss_never, ?_⟩
    exact ⟨_, rfl, _, rfl, l, n, ps, rfl, hB, hE⟩
noncomputable abbrev spRoundX (T : Tx K mg) : Sp := spRefX T
noncomputable abbrev sRoundX : Stmt := (top 13)
noncomputable abbrev nRoundX : List Str := ["many", "pairs"]
noncomputable abbrev pRoundX : List Str := ["many", "pairs"]
theorem scRoundX : FnScope nRoundX pRoundX (defScope sRoundX) := ⟨rfl, rfl, rfl, by decide +kernel, rfl, by decide +kernel, by decide +kernel⟩
theorem ok_RoundX (T : Tx K mg) : FnOk P w K mg base (CX1 P w) 3 T.a_round_of T.f_round_of pRoundX (spRoundX T) := by
  have GTableX : FnOk P w K mg base (CX1 P w) 2 T.a_table_of T.f_table_of pTableX (spTableX T) := ok_TableX T
  have bTableX : Binds K T.f_table_of pTableX [] := bd2 T.d_table_of.F fun _ _ _ _ _ _ _ _ => rfl
  refine ok1 T.d_round_of.F scRoundX (fun vs H Q E h => ?_) (fun cdv A outer s H vs Q E hr h => ?_)
  · obtain ⟨_, _, _, rfl, _⟩ := h
    rfl
  · obtain ⟨l, n, ps, rfl, hB, hE⟩ := h
    refine ⟨_, pss_one (ps_ret (pe_call (never1 (CX := CX0) (k := 2) (f := T.a_round_in) (fd := T.f_round_in) (ps := ["table"])) hr rfl T.d_round_in.m T.d_round_in.F.kp (bd1 T.d_round_in.F fun _ _ _ _ _ _ _ => rfl) .nil pass0 (pa_cons (pe_call GTableX hr rfl T.d_table_of.m T.d_table_of.F.kp bTableX .nil pass1 (pa_cons (pv 0) (pa_cons (pv 1) pa_nil))) pa_nil))), ?_⟩
    exact ⟨_, rfl, _, rfl, l, n, ps, rfl, hB, hE⟩
noncomputable abbrev spTwoX (T : Tx K mg) : Sp := spRefX T
noncomputable abbrev sTwoX : Stmt := (top 18)
noncomputable abbrev nTwoX : List Str := ["many", "pairs"]
noncomputable abbrev pTwoX : List Str := ["many", "pairs"]
theorem scTwoX : FnScope nTwoX pTwoX (defScope sTwoX) := ⟨rfl, rfl, rfl, by decide +kernel, rfl, by decide +kernel, by decide +kernel⟩
theorem ok_TwoX (T : Tx K mg) : FnOk P w K mg base (CX1 P w) 3 T.a_two_pairs T.f_two_pairs pTwoX (spTwoX T) := by
  have GTableX : FnOk P w K mg base (CX1 P w) 2 T.a_table_of T.f_table_of pTableX (spTableX T) := ok_TableX T
  have bTableX : Binds K T.f_table_of pTableX [] := bd2 T.d_table_of.F fun _ _ _ _ _ _ _ _ => rfl
  refine ok1 T.d_two_pairs.F scTwoX (fun vs H Q E h => ?_) (fun cdv A outer s H vs Q E hr h => ?_)
  · obtain ⟨_, _, _, rfl, _⟩ := h
    rfl
  · obtain ⟨l, n, ps, rfl, hB, hE⟩ := h
    refine ⟨_, pss_one (ps_ret (pe_call (never1 (CX := CX0) (k := 2) (f := T.a_two_pairs_in) (fd := T.f_two_pairs_in) (ps := ["table"])) hr rfl T.d_two_pairs_in.m T.d_two_pairs_in.F.kp (bd1 T.d_two_pairs_in.F fun _ _ _ _ _ _ _ => rfl) .nil pass0 (pa_cons (pe_call GTableX hr rfl T.d_table_of.m T.d_table_of.F.kp bTableX .nil pass1 (pa_cons (pv 0) (pa_cons (pv 1) pa_nil))) pa_nil))), ?_⟩
    exact ⟨_, rfl, _, rfl, l, n, ps, rfl, hB, hE⟩
noncomputable abbrev spThreeX (T : Tx K mg) : Sp := spRefX T
noncomputable abbrev sThreeX : Stmt := (top 33)
noncomputable abbrev nThreeX : List Str := ["many", "pairs"]
noncomputable abbrev pThreeX : List Str := ["many", "pairs"]
theorem scThreeX : FnScope nThreeX pThreeX (defScope sThreeX) := ⟨rfl, rfl, rfl, by decide +kernel, rfl, by decide +kernel, by decide +kernel⟩
theorem ok_ThreeX (T : Tx K mg) : FnOk P w K mg base (CX1 P w) 3 T.a_three_row T.f_three_row pThreeX (spThreeX T) := by
  have GTableX : FnOk P w K mg base (CX1 P w) 2 T.a_table_of T.f_table_of pTableX (spTableX T) := ok_TableX T
  have bTableX : Binds K T.f_table_of pTableX [] := bd2 T.d_table_of.F fun _ _ _ _ _ _ _ _ => rfl
  refine ok1 T.d_three_row.F scThreeX (fun vs H Q E h => ?_) (fun cdv A outer s H vs Q E hr h => ?_)
  · obtain ⟨_, _, _, rfl, _⟩ := h
    rfl
  · obtain ⟨l, n, ps, rfl, hB, hE⟩ := h
    refine ⟨_, pss_one (ps_ret (pe_call (never1 (CX := CX0) (k := 2) (f := T.a_three_row_in) (fd := T.f_three_row_in) (ps := ["table"])) hr rfl T.d_three_row_in.m T.d_three_row_in.F.kp (bd1 T.d_three_row_in.F fun _ _ _ _ _ _ _ => rfl) .nil pass0 (pa_cons (pe_call GTableX hr rfl T.d_table_of.m T.d_table_of.F.kp bTableX .nil pass1 (pa_cons (pv 0) (pa_cons (pv 1) pa_nil))) pa_nil))), ?_⟩
    exact ⟨_, rfl, _, rfl, l, n, ps, rfl, hB, hE⟩
noncomputable abbrev spLWX (T : Tx K mg) : Sp := spRefX T
noncomputable abbrev sLWX : Stmt := (top 31)
noncomputable abbrev nLWX : List Str := ["many", "pairs"]
noncomputable abbrev pLWX : List Str := ["many", "pairs"]
theorem scLWX : FnScope nLWX pLWX (defScope sLWX) := ⟨rfl, rfl, rfl, by decide +kernel, rfl, by decide +kernel, by decide +kernel⟩
theorem ok_LWX (T : Tx K mg) : FnOk P w K mg base (CX1 P w) 3 T.a_least_width T.f_least_width pLWX (spLWX T) := by
  have GTableX : FnOk P w K mg base (CX1 P w) 2 T.a_table_of T.f_table_of pTableX (spTableX T) := ok_TableX T
  have bTableX : Binds K T.f_table_of pTableX [] := bd2 T.d_table_of.F fun _ _ _ _ _ _ _ _ => rfl
  refine ok1 T.d_least_width.F scLWX (fun vs H Q E h => ?_) (fun cdv A outer s H vs Q E hr h => ?_)
  · obtain ⟨_, _, _, rfl, _⟩ := h
    rfl
  · obtain ⟨l, n, ps, rfl, hB, hE⟩ := h
    refine ⟨_, pss_one (ps_ret (pe_call (never1 (CX := CX0) (k := 2) (f := T.a_least_width_in) (fd := T.f_least_width_in) (ps := ["table"])) hr rfl T.d_least_width_in.m T.d_least_width_in.F.kp (bd1 T.d_least_width_in.F fun _ _ _ _ _ _ _ => rfl) .nil pass0 (pa_cons (pe_call GTableX hr rfl T.d_table_of.m T.d_table_of.F.kp bTableX .nil pass1 (pa_cons (pv 0) (pa_cons (pv 1) pa_nil))) pa_nil))), ?_⟩
    exact ⟨_, rfl, _, rfl, l, n, ps, rfl, hB, hE⟩
noncomputable abbrev spAlikeX (T : Tx K mg) : Sp := spRefX T
noncomputable abbrev sAlikeX : Stmt := (top 14)
noncomputable abbrev nAlikeX : List Str := ["many", "pairs", "table", "groups", "thing", "column"]
noncomputable abbrev pAlikeX : List Str := ["many", "pairs"]
theorem scAlikeX : FnScope nAlikeX pAlikeX (defScope sAlikeX) := ⟨rfl, rfl, rfl, by decide +kernel, rfl, by decide +kernel, by decide +kernel⟩
theorem coAlikeX1 : CompOk (mkSc [(".0", .local), ("row", .local), ("thing", .free)]) ["row"] (defScope sAlikeX) nAlikeX := ⟨rfl, by decide +kernel, by decide +kernel, by decide +kernel, by decide +kernel, by decide +kernel⟩
theorem cnAlikeX1 : (blkN nAlikeX ["row"]).Nodup := by decide +kernel
theorem ok_AlikeX (T : Tx K mg) : FnOk P w K mg base (CX1 P w) 3 T.a_alike T.f_alike pAlikeX (spAlikeX T) := by
  have GTableX : FnOk P w K mg base (CX1 P w) 2 T.a_table_of T.f_table_of pTableX (spTableX T) := ok_TableX T
  have bTableX : Binds K T.f_table_of pTableX [] := bd2 T.d_table_of.F fun _ _ _ _ _ _ _ _ => rfl
  refine ok1 T.d_alike.F scAlikeX (fun vs H Q E h => ?_) (fun cdv A outer s H vs Q E hr h => ?_)
  · obtain ⟨_, _, _, rfl, _⟩ := h
    rfl
  · obtain ⟨l, n, ps, rfl, hB, hE⟩ := h
    refine ⟨_, pss_cons (ps_set (i := 2) scAlikeX.nd rfl (Or.inl rfl) (pe_call GTableX hr rfl T.d_table_of.m T.d_table_of.F.kp bTableX .nil pass1 (pa_cons (pv 0) (pa_cons (pv 1) pa_nil)))) pss_never, ?_⟩
    exact ⟨_, rfl, _, rfl, l, n, ps, rfl, hB, hE⟩
noncomputable abbrev spSpansX (T : Tx K mg) : Sp := spRefX T
noncomputable abbrev sSpansX : Stmt := (top 21)
noncomputable abbrev nSpansX : List Str := ["many", "pairs", "table", "forbidding"]
noncomputable abbrev pSpansX : List Str := ["many", "pairs"]
theorem scSpansX : FnScope nSpansX pSpansX (defScope sSpansX) := ⟨rfl, rfl, rfl, by decide +kernel, rfl, by decide +kernel, by decide +kernel⟩
theorem ok_SpansX (T : Tx K mg) : FnOk P w K mg base (CX1 P w) 3 T.a_spans T.f_spans pSpansX (spSpansX T) := by
  have GTableX : FnOk P w K mg base (CX1 P w) 2 T.a_table_of T.f_table_of pTableX (spTableX T) := ok_TableX T
  have bTableX : Binds K T.f_table_of pTableX [] := bd2 T.d_table_of.F fun _ _ _ _ _ _ _ _ => rfl
  refine ok1 T.d_spans.F scSpansX (fun vs H Q E h => ?_) (fun cdv A outer s H vs Q E hr h => ?_)
  · obtain ⟨_, _, _, rfl, _⟩ := h
    rfl
  · obtain ⟨l, n, ps, rfl, hB, hE⟩ := h
    refine ⟨_, pss_cons (ps_set (i := 2) scSpansX.nd rfl (Or.inl rfl) (pe_call GTableX hr rfl T.d_table_of.m T.d_table_of.F.kp bTableX .nil pass1 (pa_cons (pv 0) (pa_cons (pv 1) pa_nil)))) pss_never, ?_⟩
    exact ⟨_, rfl, _, rfl, l, n, ps, rfl, hB, hE⟩
noncomputable abbrev spMarksX (T : Tx K mg) : Sp := spRefX T
noncomputable abbrev sMarksX : Stmt := (top 34)
noncomputable abbrev nMarksX : List Str := ["many", "pairs", "table", "forbidding", "row", "width"]
noncomputable abbrev pMarksX : List Str := ["many", "pairs"]
theorem scMarksX : FnScope nMarksX pMarksX (defScope sMarksX) := ⟨rfl, rfl, rfl, by decide +kernel, rfl, by decide +kernel, by decide +kernel⟩
theorem ok_MarksX (T : Tx K mg) : FnOk P w K mg base (CX1 P w) 3 T.a_marks T.f_marks pMarksX (spMarksX T) := by
  have GTableX : FnOk P w K mg base (CX1 P w) 2 T.a_table_of T.f_table_of pTableX (spTableX T) := ok_TableX T
  have bTableX : Binds K T.f_table_of pTableX [] := bd2 T.d_table_of.F fun _ _ _ _ _ _ _ _ => rfl
  refine ok1 T.d_marks.F scMarksX (fun vs H Q E h => ?_) (fun cdv A outer s H vs Q E hr h => ?_)
  · obtain ⟨_, _, _, rfl, _⟩ := h
    rfl
  · obtain ⟨l, n, ps, rfl, hB, hE⟩ := h
    refine ⟨_, pss_cons (ps_set (i := 2) scMarksX.nd rfl (Or.inl rfl) (pe_call GTableX hr rfl T.d_table_of.m T.d_table_of.F.kp bTableX .nil pass1 (pa_cons (pv 0) (pa_cons (pv 1) pa_nil)))) pss_never, ?_⟩
    exact ⟨_, rfl, _, rfl, l, n, ps, rfl, hB, hE⟩
noncomputable abbrev spShownX (T : Tx K mg) : Sp := spRefX T
noncomputable abbrev sShownX : Stmt := (top 36)
noncomputable abbrev nShownX : List Str := ["many", "pairs", "words"]
noncomputable abbrev pShownX : List Str := ["many", "pairs"]
theorem scShownX : FnScope nShownX pShownX (defScope sShownX) := ⟨rfl, rfl, rfl, by decide +kernel, rfl, by decide +kernel, by decide +kernel⟩
theorem coShownX1 : CompOk (mkSc [(".0", .local), ("one", .local), ("other", .local)]) ["one", "other"] (defScope sShownX) nShownX := ⟨rfl, by decide +kernel, by decide +kernel, by decide +kernel, by decide +kernel, by decide +kernel⟩
theorem cnShownX1 : (blkN nShownX ["one", "other"]).Nodup := by decide +kernel
theorem ok_ShownX (T : Tx K mg) : FnOk P w K mg base (CX1 P w) 2 T.a_shown T.f_shown pShownX (spShownX T) := by
  have GRefX : FnOk P w K mg base (CX1 P w) 1 T.a_refuse_strangers T.f_refuse_strangers pRefX (spRefX T) := ok_refX T
  have bRefX : Binds K T.f_refuse_strangers pRefX [] := bd2 T.d_refuse_strangers.F fun _ _ _ _ _ _ _ _ => rfl
  refine ok1 T.d_shown.F scShownX (fun vs H Q E h => ?_) (fun cdv A outer s H vs Q E hr h => ?_)
  · obtain ⟨_, _, _, rfl, _⟩ := h
    rfl
  · obtain ⟨l, n, ps, rfl, hB, hE⟩ := h
    refine ⟨_, pss_cons (ps_expr (pe_call GRefX hr rfl T.d_refuse_strangers.m T.d_refuse_strangers.F.kp bRefX .nil pass1 (pa_cons (pv 0) (pa_cons (pv 1) pa_nil)))) pss_never, ?_⟩
    exact ⟨_, rfl, _, rfl, l, n, ps, rfl, hB, hE⟩
noncomputable abbrev spMOfX (T : Tx K mg) : Sp := spBad3 T
noncomputable abbrev sMOfX : Stmt := (top 28)
noncomputable abbrev nMOfX : List Str := ["many", "pairs", "width", "table"]
noncomputable abbrev pMOfX : List Str := ["many", "pairs", "width"]
theorem scMOfX : FnScope nMOfX pMOfX (defScope sMOfX) := ⟨rfl, rfl, rfl, by decide +kernel, rfl, by decide +kernel, by decide +kernel⟩
theorem ok_MOfX (T : Tx K mg) : FnOk P w K mg base (CX1 P w) 3 T.a_marks_of T.f_marks_of pMOfX (spMOfX T) := by
  have GTableX : FnOk P w K mg base (CX1 P w) 2 T.a_table_of T.f_table_of pTableX (spTableX T) := ok_TableX T
  have bTableX : Binds K T.f_table_of pTableX [] := bd2 T.d_table_of.F fun _ _ _ _ _ _ _ _ => rfl
  refine ok1 T.d_marks_of.F scMOfX (fun vs H Q E h => ?_) (fun cdv A outer s H vs Q E hr h => ?_)
  · obtain ⟨_, _, _, _, rfl, _⟩ := h
    rfl
  · obtain ⟨l, n, W, ps, rfl, hB, hE⟩ := h
    refine ⟨_, pss_cons (ps_set (i := 3) scMOfX.nd rfl (Or.inl rfl) (pe_call GTableX hr rfl T.d_table_of.m T.d_table_of.F.kp bTableX .nil pass1 (pa_cons (pv 0) (pa_cons (pv 1) pa_nil)))) pss_never, ?_⟩
    exact ⟨_, rfl, _, rfl, l, n, ps, rfl, hB, hE⟩
noncomputable abbrev spMisX (T : Tx K mg) : Sp := spBad3 T
noncomputable abbrev sMisX : Stmt := (top 29)
noncomputable abbrev nMisX : List Str := ["many", "pairs", "width", "table"]
noncomputable abbrev pMisX : List Str := ["many", "pairs", "width"]
theorem scMisX : FnScope nMisX pMisX (defScope sMisX) := ⟨rfl, rfl, rfl, by decide +kernel, rfl, by decide +kernel, by decide +kernel⟩
theorem ok_MisX (T : Tx K mg) : FnOk P w K mg base (CX1 P w) 3 T.a_misfit T.f_misfit pMisX (spMisX T) := by
  have GTableX : FnOk P w K mg base (CX1 P w) 2 T.a_table_of T.f_table_of pTableX (spTableX T) := ok_TableX T
  have bTableX : Binds K T.f_table_of pTableX [] := bd2 T.d_table_of.F fun _ _ _ _ _ _ _ _ => rfl
  refine ok1 T.d_misfit.F scMisX (fun vs H Q E h => ?_) (fun cdv A outer s H vs Q E hr h => ?_)
  · obtain ⟨_, _, _, _, rfl, _⟩ := h
    rfl
  · obtain ⟨l, n, W, ps, rfl, hB, hE⟩ := h
    refine ⟨_, pss_cons (ps_set (i := 3) scMisX.nd rfl (Or.inl rfl) (pe_call GTableX hr rfl T.d_table_of.m T.d_table_of.F.kp bTableX .nil pass1 (pa_cons (pv 0) (pa_cons (pv 1) pa_nil)))) pss_never, ?_⟩
    exact ⟨_, rfl, _, rfl, l, n, ps, rfl, hB, hE⟩
noncomputable def BadW (W : Int) : Prop := (W < 1 ∨ 1000 < W) ∧ W.natAbs.log2 < 1920
noncomputable def spRWX (T : Tx K mg) : Sp := fun vs H _ E => ∃ W : Int, vs = [.int W] ∧ BadW W ∧ E (.ref T.c_NoWidth) none H
noncomputable abbrev sRWX : Stmt := (top 24)
noncomputable abbrev nRWX : List Str := ["width"]
noncomputable abbrev pRWX : List Str := ["width"]
theorem scRWX : FnScope nRWX pRWX (defScope sRWX) := ⟨rfl, rfl, rfl, by decide +kernel, rfl, by decide +kernel, by decide +kernel⟩
theorem ok_rwX (T : Tx K mg) : FnOk P w K mg base (CX1 P w) 1 T.a_refuse_width T.f_refuse_width pRWX (spRWX T) := by
  refine ok1 T.d_refuse_width.F scRWX (fun vs H Q E h => ?_) (fun cdv A outer s H vs Q E hr h => ?_)
  · obtain ⟨_, rfl, _⟩ := h
    rfl
  · obtain ⟨W, rfl, ⟨hW, hk⟩, hE⟩ := h
    have hz := sizeLine_eq
    refine ⟨_, (pss_one (ps_if (pt_not (pt_chain op_le op_le pe_int (pv 0) (pe_glob (v := .int 1000) rfl T.v_GREATEST_WIDTH ⟨_, rfl⟩))) (pss_one (ps_raise rfl raises1 rfl T.kx_NoWidth rfl T.mc_NoWidth (pe_jn (.cons pe_str (.cons (pe_fv (pv 0)) .nil))))) pss_nil)), ?_⟩
    have hl1 : (Str.empty ++ Str.ofString "there is no width ").length ≤ 18 := by decide +kernel
    have hl2 : (Str.empty ++ Str.ofString "there is no width " ++ Str.ofString (toString W)).length ≤ 2018 := by
      rw [strLen_append]
      have := big_len hk
      omega
    have raised : ∀ {D : Ends}, tRaise E (.ref T.c_NoWidth) (tJn [tC (.str (Str.ofString "there is no width ")), tFv (tVar 0)] Str.empty) D [some (.int W)] H := fun {D} =>
      ⟨_, rfl, Nat.le_trans hl1 (by omega), _, rfl, _, rfl, hk, _, rfl, Nat.le_trans hl2 (by omega), hE⟩
    refine ⟨_, rfl, _, _, rfl, rfl, _, rfl, ?_⟩
    by_cases k0 : 1 ≤ W
    · rw [if_pos (decide_eq_true k0)]
      refine ⟨_, _, rfl, rfl, _, rfl, ?_⟩
      rw [decide_eq_false (by omega)]
      exact iteT raised
    · rw [if_neg (by rw [decide_eq_false k0]; exact Bool.false_ne_true)]
      exact ⟨_, rfl, iteT raised⟩
noncomputable def spWid3 (T : Tx K mg) : Sp := fun vs H _ E => ∃ (l : Addr) (n : Nat) (W : Int) (ps : List (Int × Int)), vs = [.int n, .ref l, .int W] ∧ Prs K H l ps ∧ In n ps ∧ n ≤ 100 ∧ BadW W ∧ ∀ H', Same H H' → E (.ref T.c_NoWidth) none H'
noncomputable abbrev spMOfW (T : Tx K mg) : Sp := spWid3 T
noncomputable abbrev sMOfW : Stmt := (top 28)
noncomputable abbrev nMOfW : List Str := ["many", "pairs", "width", "table"]
noncomputable abbrev pMOfW : List Str := ["many", "pairs", "width"]
theorem scMOfW : FnScope nMOfW pMOfW (defScope sMOfW) := ⟨rfl, rfl, rfl, by decide +kernel, rfl, by decide +kernel, by decide +kernel⟩
theorem ok_MOfW (T : Tx K mg) : FnOk P w K mg base (CX1 P w) 3 T.a_marks_of T.f_marks_of pMOfW (spMOfW T) := by
  have GTable : FnOk P w K mg base CX0 2 T.a_table_of T.f_table_of pTable (spTable K) := ok_table T.d_table_of T.d_refuse_strangers T.B
  have bTable : Binds K T.f_table_of pTable [] := bd2 T.d_table_of.F fun _ _ _ _ _ _ _ _ => rfl
  have GRWX : FnOk P w K mg base (CX1 P w) 1 T.a_refuse_width T.f_refuse_width pRWX (spRWX T) := ok_rwX T
  have bRWX : Binds K T.f_refuse_width pRWX [] := bd1 T.d_refuse_width.F fun _ _ _ _ _ _ _ => rfl
  refine ok1 T.d_marks_of.F scMOfW (fun vs H Q E h => ?_) (fun cdv A outer s H vs Q E hr h => ?_)
  · obtain ⟨_, _, _, _, rfl, _⟩ := h
    rfl
  · obtain ⟨l, n, W, ps, rfl, hP, hin, hn, hW, hE⟩ := h
    have hr1 : Room 1 _ := hr.mono (by decide)
    refine ⟨_, pss_cons (ps_set (i := 3) scMOfW.nd rfl (Or.inl rfl) (pe_call GTable hr rfl T.d_table_of.m T.d_table_of.F.kp bTable .nil pass0 (pa_cons (pv 0) (pa_cons (pv 1) pa_nil)))) (pss_cons (ps_expr (pe_call GRWX hr1 rfl T.d_refuse_width.m T.d_refuse_width.F.kp bRWX .nil pass1 (pa_cons (pv 2) pa_nil))) pss_never), ?_⟩
    exact ⟨_, rfl, _, rfl, l, n, ps, rfl, hP, hin, by omega, fun p rows H1 s1 Tb => ⟨_, rfl, W, rfl, hW, hE H1 s1⟩⟩
noncomputable abbrev spMisW (T : Tx K mg) : Sp := spWid3 T
noncomputable abbrev sMisW : Stmt := (top 29)
noncomputable abbrev nMisW : List Str := ["many", "pairs", "width", "table"]
noncomputable abbrev pMisW : List Str := ["many", "pairs", "width"]
theorem scMisW : FnScope nMisW pMisW (defScope sMisW) := ⟨rfl, rfl, rfl, by decide +kernel, rfl, by decide +kernel, by decide +kernel⟩
theorem ok_MisW (T : Tx K mg) : FnOk P w K mg base (CX1 P w) 3 T.a_misfit T.f_misfit pMisW (spMisW T) := by
  have GTable : FnOk P w K mg base CX0 2 T.a_table_of T.f_table_of pTable (spTable K) := ok_table T.d_table_of T.d_refuse_strangers T.B
  have bTable : Binds K T.f_table_of pTable [] := bd2 T.d_table_of.F fun _ _ _ _ _ _ _ _ => rfl
  have GRWX : FnOk P w K mg base (CX1 P w) 1 T.a_refuse_width T.f_refuse_width pRWX (spRWX T) := ok_rwX T
  have bRWX : Binds K T.f_refuse_width pRWX [] := bd1 T.d_refuse_width.F fun _ _ _ _ _ _ _ => rfl
  refine ok1 T.d_misfit.F scMisW (fun vs H Q E h => ?_) (fun cdv A outer s H vs Q E hr h => ?_)
  · obtain ⟨_, _, _, _, rfl, _⟩ := h
    rfl
  · obtain ⟨l, n, W, ps, rfl, hP, hin, hn, hW, hE⟩ := h
    have hr1 : Room 1 _ := hr.mono (by decide)
    refine ⟨_, pss_cons (ps_set (i := 3) scMisW.nd rfl (Or.inl rfl) (pe_call GTable hr rfl T.d_table_of.m T.d_table_of.F.kp bTable .nil pass0 (pa_cons (pv 0) (pa_cons (pv 1) pa_nil)))) (pss_cons (ps_expr (pe_call GRWX hr1 rfl T.d_refuse_width.m T.d_refuse_width.F.kp bRWX .nil pass1 (pa_cons (pv 2) pa_nil))) pss_never), ?_⟩
    exact ⟨_, rfl, _, rfl, l, n, ps, rfl, hP, hin, by omega, fun p rows H1 s1 Tb => ⟨_, rfl, W, rfl, hW, hE H1 s1⟩⟩
noncomputable def spAskX (T : Tx K mg) : Sp := fun vs H _ E => ∃ (l : Addr) (way : Int) (n : Nat) (W : Int) (ps : List (Int × Int)), vs = [.int way, .int n, .ref l, .int W] ∧ Bad K H l n ps ∧ ∀ H', Same H H' → E (.ref T.c_BadSay) none H'
noncomputable abbrev sAskX : Stmt := (top 39)
noncomputable abbrev nAskX : List Str := ["way", "many", "pairs", "width"]
noncomputable abbrev pAskX : List Str := ["way", "many", "pairs", "width"]
theorem scAskX : FnScope nAskX pAskX (defScope sAskX) := ⟨rfl, rfl, rfl, by decide +kernel, rfl, by decide +kernel, by decide +kernel⟩
theorem ok_askX (T : Tx K mg) : FnOk P w K mg base (CX1 P w) 4 T.a__law_asked T.f__law_asked pAskX (spAskX T) := by
  have GRoundX : FnOk P w K mg base (CX1 P w) 3 T.a_round_of T.f_round_of pRoundX (spRoundX T) := ok_RoundX T
  have bRoundX : Binds K T.f_round_of pRoundX [] := bd2 T.d_round_of.F fun _ _ _ _ _ _ _ _ => rfl
  have GAlikeX : FnOk P w K mg base (CX1 P w) 3 T.a_alike T.f_alike pAlikeX (spAlikeX T) := ok_AlikeX T
  have bAlikeX : Binds K T.f_alike pAlikeX [] := bd2 T.d_alike.F fun _ _ _ _ _ _ _ _ => rfl
  have GTwoX : FnOk P w K mg base (CX1 P w) 3 T.a_two_pairs T.f_two_pairs pTwoX (spTwoX T) := ok_TwoX T
  have bTwoX : Binds K T.f_two_pairs pTwoX [] := bd2 T.d_two_pairs.F fun _ _ _ _ _ _ _ _ => rfl
  have GSpansX : FnOk P w K mg base (CX1 P w) 3 T.a_spans T.f_spans pSpansX (spSpansX T) := ok_SpansX T
  have bSpansX : Binds K T.f_spans pSpansX [] := bd2 T.d_spans.F fun _ _ _ _ _ _ _ _ => rfl
  have GThreeX : FnOk P w K mg base (CX1 P w) 3 T.a_three_row T.f_three_row pThreeX (spThreeX T) := ok_ThreeX T
  have bThreeX : Binds K T.f_three_row pThreeX [] := bd2 T.d_three_row.F fun _ _ _ _ _ _ _ _ => rfl
  have GLWX : FnOk P w K mg base (CX1 P w) 3 T.a_least_width T.f_least_width pLWX (spLWX T) := ok_LWX T
  have bLWX : Binds K T.f_least_width pLWX [] := bd2 T.d_least_width.F fun _ _ _ _ _ _ _ _ => rfl
  have GMarksX : FnOk P w K mg base (CX1 P w) 3 T.a_marks T.f_marks pMarksX (spMarksX T) := ok_MarksX T
  have bMarksX : Binds K T.f_marks pMarksX [] := bd2 T.d_marks.F fun _ _ _ _ _ _ _ _ => rfl
  have GMOfX : FnOk P w K mg base (CX1 P w) 3 T.a_marks_of T.f_marks_of pMOfX (spMOfX T) := ok_MOfX T
  have bMOfX : Binds K T.f_marks_of pMOfX [] := bd3 T.d_marks_of.F fun _ _ _ _ _ _ _ _ _ => rfl
  have GMisX : FnOk P w K mg base (CX1 P w) 3 T.a_misfit T.f_misfit pMisX (spMisX T) := ok_MisX T
  have bMisX : Binds K T.f_misfit pMisX [] := bd3 T.d_misfit.F fun _ _ _ _ _ _ _ _ _ => rfl
  have GShownX : FnOk P w K mg base (CX1 P w) 2 T.a_shown T.f_shown pShownX (spShownX T) := ok_ShownX T
  have bShownX : Binds K T.f_shown pShownX [] := bd2 T.d_shown.F fun _ _ _ _ _ _ _ _ => rfl
  refine ok1 T.d__law_asked.F scAskX (fun vs H Q E h => ?_) (fun cdv A outer s H vs Q E hr h => ?_)
  · obtain ⟨_, _, _, _, _, rfl, _⟩ := h
    rfl
  · obtain ⟨l, way, n, W, ps, rfl, hB, hE⟩ := h
    have hr2 : Room 2 _ := hr.mono (by decide)
    refine ⟨_, (pss_one (ps_if (pt_cmpR op_eq (pv 0) pe_int (nomark _)) (pss_one (ps_expr (pe_call GRoundX hr rfl T.d_round_of.m T.d_round_of.F.kp bRoundX .nil pass1 (pa_cons (pv 1) (pa_cons (pv 2) pa_nil)))))
      (pss_one (ps_if (pt_cmpR op_eq (pv 0) pe_int (nomark _)) (pss_one (ps_expr (pe_call GAlikeX hr rfl T.d_alike.m T.d_alike.F.kp bAlikeX .nil pass1 (pa_cons (pv 1) (pa_cons (pv 2) pa_nil)))))
      (pss_one (ps_if (pt_cmpR op_eq (pv 0) pe_int (nomark _)) (pss_one (ps_expr (pe_call GTwoX hr rfl T.d_two_pairs.m T.d_two_pairs.F.kp bTwoX .nil pass1 (pa_cons (pv 1) (pa_cons (pv 2) pa_nil)))))
      (pss_one (ps_if (pt_cmpR op_eq (pv 0) pe_int (nomark _)) (pss_one (ps_expr (pe_call GSpansX hr rfl T.d_spans.m T.d_spans.F.kp bSpansX .nil pass1 (pa_cons (pv 1) (pa_cons (pv 2) pa_nil)))))
      (pss_one (ps_if (pt_cmpR op_eq (pv 0) pe_int (nomark _)) (pss_one (ps_expr (pe_call GThreeX hr rfl T.d_three_row.m T.d_three_row.F.kp bThreeX .nil pass1 (pa_cons (pv 1) (pa_cons (pv 2) pa_nil)))))
      (pss_one (ps_if (pt_cmpR op_eq (pv 0) pe_int (nomark _)) (pss_one (ps_expr (pe_call GLWX hr rfl T.d_least_width.m T.d_least_width.F.kp bLWX .nil pass1 (pa_cons (pv 1) (pa_cons (pv 2) pa_nil)))))
      (pss_one (ps_if (pt_cmpR op_eq (pv 0) pe_int (nomark _)) (pss_one (ps_expr (pe_call GMarksX hr rfl T.d_marks.m T.d_marks.F.kp bMarksX .nil pass1 (pa_cons (pv 1) (pa_cons (pv 2) pa_nil)))))
      (pss_one (ps_if (pt_cmpR op_eq (pv 0) pe_int (nomark _)) (pss_one (ps_expr (pe_call GMOfX hr rfl T.d_marks_of.m T.d_marks_of.F.kp bMOfX .nil pass1 (pa_cons (pv 1) (pa_cons (pv 2) (pa_cons (pv 3) pa_nil))))))
      (pss_one (ps_if (pt_cmpR op_eq (pv 0) pe_int (nomark _)) (pss_one (ps_expr (pe_call GMisX hr rfl T.d_misfit.m T.d_misfit.F.kp bMisX .nil pass1 (pa_cons (pv 1) (pa_cons (pv 2) (pa_cons (pv 3) pa_nil))))))
      (pss_one (ps_expr (pe_call GShownX hr2 rfl T.d_shown.m T.d_shown.F.kp bShownX .nil pass1 (pa_cons (pv 1) (pa_cons (pv 2) pa_nil))))))))))))))))))))))), ?_⟩
    refine ⟨_, rfl, rfl, _, rfl, ite2 (fun _ => ⟨_, rfl, _, rfl, l, n, ps, rfl, hB, hE⟩) (fun _ => ?_)⟩
    refine ⟨_, rfl, rfl, _, rfl, ite2 (fun _ => ⟨_, rfl, _, rfl, l, n, ps, rfl, hB, hE⟩) (fun _ => ?_)⟩
    refine ⟨_, rfl, rfl, _, rfl, ite2 (fun _ => ⟨_, rfl, _, rfl, l, n, ps, rfl, hB, hE⟩) (fun _ => ?_)⟩
    refine ⟨_, rfl, rfl, _, rfl, ite2 (fun _ => ⟨_, rfl, _, rfl, l, n, ps, rfl, hB, hE⟩) (fun _ => ?_)⟩
    refine ⟨_, rfl, rfl, _, rfl, ite2 (fun _ => ⟨_, rfl, _, rfl, l, n, ps, rfl, hB, hE⟩) (fun _ => ?_)⟩
    refine ⟨_, rfl, rfl, _, rfl, ite2 (fun _ => ⟨_, rfl, _, rfl, l, n, ps, rfl, hB, hE⟩) (fun _ => ?_)⟩
    refine ⟨_, rfl, rfl, _, rfl, ite2 (fun _ => ⟨_, rfl, _, rfl, l, n, ps, rfl, hB, hE⟩) (fun _ => ?_)⟩
    refine ⟨_, rfl, rfl, _, rfl, ite2 (fun _ => ⟨_, rfl, _, rfl, _, rfl, l, n, W, ps, rfl, hB, hE⟩) (fun _ => ?_)⟩
    refine ⟨_, rfl, rfl, _, rfl, ite2 (fun _ => ⟨_, rfl, _, rfl, _, rfl, l, n, W, ps, rfl, hB, hE⟩) (fun _ => ?_)⟩
    exact ⟨_, rfl, _, rfl, l, n, ps, rfl, hB, hE⟩
noncomputable def spAskW (T : Tx K mg) : Sp := fun vs H _ E => ∃ (l : Addr) (way : Int) (n : Nat) (W : Int) (ps : List (Int × Int)), vs = [.int way, .int n, .ref l, .int W] ∧ (way = 7 ∨ way = 8) ∧ Prs K H l ps ∧ In n ps ∧ n ≤ 100 ∧ BadW W ∧ ∀ H', Same H H' → E (.ref T.c_NoWidth) none H'
noncomputable abbrev pAskW := pAskX
theorem ok_askW (T : Tx K mg) : FnOk P w K mg base (CX1 P w) 4 T.a__law_asked T.f__law_asked pAskW (spAskW T) := by
  have GMOfW : FnOk P w K mg base (CX1 P w) 3 T.a_marks_of T.f_marks_of pMOfW (spMOfW T) := ok_MOfW T
  have bMOfW : Binds K T.f_marks_of pMOfW [] := bd3 T.d_marks_of.F fun _ _ _ _ _ _ _ _ _ => rfl
  have GMisW : FnOk P w K mg base (CX1 P w) 3 T.a_misfit T.f_misfit pMisW (spMisW T) := ok_MisW T
  have bMisW : Binds K T.f_misfit pMisW [] := bd3 T.d_misfit.F fun _ _ _ _ _ _ _ _ _ => rfl
  refine ok1 T.d__law_asked.F scAskX (fun vs H Q E h => ?_) (fun cdv A outer s H vs Q E hr h => ?_)
  · obtain ⟨_, _, _, _, _, rfl, _⟩ := h
    rfl
  · obtain ⟨l, way, n, W, ps, rfl, hway, hP, hin, hn, hW, hE⟩ := h
    refine ⟨_, (pss_one (ps_if (pt_cmpR op_eq (pv 0) pe_int (nomark _)) pss_never
      (pss_one (ps_if (pt_cmpR op_eq (pv 0) pe_int (nomark _)) pss_never
      (pss_one (ps_if (pt_cmpR op_eq (pv 0) pe_int (nomark _)) pss_never
      (pss_one (ps_if (pt_cmpR op_eq (pv 0) pe_int (nomark _)) pss_never
      (pss_one (ps_if (pt_cmpR op_eq (pv 0) pe_int (nomark _)) pss_never
      (pss_one (ps_if (pt_cmpR op_eq (pv 0) pe_int (nomark _)) pss_never
      (pss_one (ps_if (pt_cmpR op_eq (pv 0) pe_int (nomark _)) pss_never
      (pss_one (ps_if (pt_cmpR op_eq (pv 0) pe_int (nomark _)) (pss_one (ps_expr (pe_call GMOfW hr rfl T.d_marks_of.m T.d_marks_of.F.kp bMOfW .nil pass1 (pa_cons (pv 1) (pa_cons (pv 2) (pa_cons (pv 3) pa_nil))))))
      (pss_one (ps_if (pt_cmpR op_eq (pv 0) pe_int (nomark _)) (pss_one (ps_expr (pe_call GMisW hr rfl T.d_misfit.m T.d_misfit.F.kp bMisW .nil pass1 (pa_cons (pv 1) (pa_cons (pv 2) (pa_cons (pv 3) pa_nil))))))
      pss_never)))))))))))))))))), ?_⟩
    rcases hway with rfl | rfl
    · exact ⟨_, rfl, rfl, _, rfl, iteNI (by decide) ⟨_, rfl, rfl, _, rfl, iteNI (by decide) ⟨_, rfl, rfl, _, rfl, iteNI (by decide) ⟨_, rfl, rfl, _, rfl, iteNI (by decide) ⟨_, rfl, rfl, _, rfl, iteNI (by decide) ⟨_, rfl, rfl, _, rfl, iteNI (by decide) ⟨_, rfl, rfl, _, rfl, iteNI (by decide) ⟨_, rfl, rfl, _, rfl, iteEI ⟨_, rfl, _, rfl, _, rfl, l, n, W, ps, rfl, hP, hin, hn, hW, hE⟩⟩⟩⟩⟩⟩⟩⟩⟩
    · exact ⟨_, rfl, rfl, _, rfl, iteNI (by decide) ⟨_, rfl, rfl, _, rfl, iteNI (by decide) ⟨_, rfl, rfl, _, rfl, iteNI (by decide) ⟨_, rfl, rfl, _, rfl, iteNI (by decide) ⟨_, rfl, rfl, _, rfl, iteNI (by decide) ⟨_, rfl, rfl, _, rfl, iteNI (by decide) ⟨_, rfl, rfl, _, rfl, iteNI (by decide) ⟨_, rfl, rfl, _, rfl, iteNI (by decide) ⟨_, rfl, rfl, _, rfl, iteEI ⟨_, rfl, _, rfl, _, rfl, l, n, W, ps, rfl, hP, hin, hn, hW, hE⟩⟩⟩⟩⟩⟩⟩⟩⟩⟩
noncomputable def spAsk3 (K : PySem.W.Frag) : Sp := fun vs H Q _ => ∃ (l : Addr) (way : Int) (n : Nat) (W : Int) (ps : List (Int × Int)), vs = [.int way, .int n, .ref l, .int W] ∧ (way = 7 ∨ way = 8) ∧ Prs K H l ps ∧ In n ps ∧ n ≤ 100 ∧ 1 ≤ W ∧ W ≤ 1000 ∧ ∀ H', Same H H' → Q .non H'
noncomputable abbrev pAsk3 := pAskX
theorem ok_ask3 (T : Tx K mg) : FnOk P w K mg base CX0 4 T.a__law_asked T.f__law_asked pAsk3 (spAsk3 K) := by
  have GMarksOf : FnOk P w K mg base CX0 3 T.a_marks_of T.f_marks_of pMarksOf (spMarksOf K) := ok_marksOf T
  have bMarksOf : Binds K T.f_marks_of pMarksOf [] := bd3 T.d_marks_of.F fun _ _ _ _ _ _ _ _ _ => rfl
  have GMisfit : FnOk P w K mg base CX0 3 T.a_misfit T.f_misfit pMisfit (spMisfit K) := ok_misfit T
  have bMisfit : Binds K T.f_misfit pMisfit [] := bd3 T.d_misfit.F fun _ _ _ _ _ _ _ _ _ => rfl
  refine T.d__law_asked.F.ok scAskX (fun vs H Q E h => ?_) (fun cdv A outer s H vs Q E hr h => ?_)
  · obtain ⟨_, _, _, _, _, rfl, _⟩ := h
    rfl
  · obtain ⟨l, way, n, W, ps, rfl, hway, hP, hin, hn, hW1, hW2, q⟩ := h
    refine ⟨_, (pss_one (ps_if (pt_cmpR op_eq (pv 0) pe_int (nomark _)) pss_never
      (pss_one (ps_if (pt_cmpR op_eq (pv 0) pe_int (nomark _)) pss_never
      (pss_one (ps_if (pt_cmpR op_eq (pv 0) pe_int (nomark _)) pss_never
      (pss_one (ps_if (pt_cmpR op_eq (pv 0) pe_int (nomark _)) pss_never
      (pss_one (ps_if (pt_cmpR op_eq (pv 0) pe_int (nomark _)) pss_never
      (pss_one (ps_if (pt_cmpR op_eq (pv 0) pe_int (nomark _)) pss_never
      (pss_one (ps_if (pt_cmpR op_eq (pv 0) pe_int (nomark _)) pss_never
      (pss_one (ps_if (pt_cmpR op_eq (pv 0) pe_int (nomark _)) (pss_one (ps_expr (pe_call GMarksOf hr rfl T.d_marks_of.m T.d_marks_of.F.kp bMarksOf .nil pass0 (pa_cons (pv 1) (pa_cons (pv 2) (pa_cons (pv 3) pa_nil))))))
      (pss_one (ps_if (pt_cmpR op_eq (pv 0) pe_int (nomark _)) (pss_one (ps_expr (pe_call GMisfit hr rfl T.d_misfit.m T.d_misfit.F.kp bMisfit .nil pass0 (pa_cons (pv 1) (pa_cons (pv 2) (pa_cons (pv 3) pa_nil))))))
      pss_never)))))))))))))))))), ?_⟩
    rcases hway with rfl | rfl
    · exact ⟨_, rfl, rfl, _, rfl, iteNI (by decide) ⟨_, rfl, rfl, _, rfl, iteNI (by decide) ⟨_, rfl, rfl, _, rfl, iteNI (by decide) ⟨_, rfl, rfl, _, rfl, iteNI (by decide) ⟨_, rfl, rfl, _, rfl, iteNI (by decide) ⟨_, rfl, rfl, _, rfl, iteNI (by decide) ⟨_, rfl, rfl, _, rfl, iteNI (by decide) ⟨_, rfl, rfl, _, rfl, iteEI ⟨_, rfl, _, rfl, _, rfl, l, n, W, ps, rfl, hP, hin, hn, hW1, hW2, fun _ H' s _ => q H' s⟩⟩⟩⟩⟩⟩⟩⟩⟩
    · exact ⟨_, rfl, rfl, _, rfl, iteNI (by decide) ⟨_, rfl, rfl, _, rfl, iteNI (by decide) ⟨_, rfl, rfl, _, rfl, iteNI (by decide) ⟨_, rfl, rfl, _, rfl, iteNI (by decide) ⟨_, rfl, rfl, _, rfl, iteNI (by decide) ⟨_, rfl, rfl, _, rfl, iteNI (by decide) ⟨_, rfl, rfl, _, rfl, iteNI (by decide) ⟨_, rfl, rfl, _, rfl, iteNI (by decide) ⟨_, rfl, rfl, _, rfl, iteEI ⟨_, rfl, _, rfl, _, rfl, l, n, W, ps, rfl, hP, hin, hn, hW1, hW2, fun _ H' s _ => q H' s⟩⟩⟩⟩⟩⟩⟩⟩⟩⟩
end
section
variable {P : Program} {w : World} {K : PySem.W.Frag} {mg : Str → Option Value} {base : Heap}
noncomputable abbrev sWh : Stmt := (top 40)
noncomputable abbrev nWh : List Str := ["way", "many", "pairs", "width", "told", "e"]
noncomputable abbrev pWh : List Str := ["way", "many", "pairs", "width"]
theorem scWh : FnScope nWh pWh (defScope sWh) := ⟨rfl, rfl, rfl, by decide +kernel, rfl, by decide +kernel, by decide +kernel⟩
/-- what is asked raises C -/
noncomputable def spWhE (sp : Sp) (C : Addr) (xs : List V) : Sp := fun vs H Q _ => ∃ (l : Addr) (way n W : Int), vs = [.int way, .int n, .ref l, .int W] ∧ (∀ (H0 : Hp) (Q' : VK) (E' : XK), Same H H0 → (∀ H2, Same H0 H2 → E' (.ref C) none H2) → sp vs H0 Q' E') ∧ ∀ l' H', Same H H' → H l' = none → H' l' = some (.lst xs) → Q (.ref l') H'
theorem ok_whE (T : Tx K mg) {sp : Sp} {C : Addr} {b1 b2 b3 b4 : Bool} (GA : FnOk P w K mg base (CX1 P w) 4 T.a__law_asked T.f__law_asked pAskX sp) (xi : XIs K C) (em : PySem.W.exmOne K (.ref C) (.ref T.c_KeenError) = some true) (kv : PySem.W.kitOne K (.ref C) (.type "ValueError") = some true)
    (k1 : PySem.W.kitOne K (.ref C) (.ref T.c_BadSay) = some b1) (k2 : PySem.W.kitOne K (.ref C) (.ref T.c_NoSay) = some b2) (k3 : PySem.W.kitOne K (.ref C) (.ref T.c_NoWidth) = some b3) (k4 : PySem.W.kitOne K (.ref C) (.ref T.c_BadLine) = some b4) :
    FnOk P w K mg base CX0 5 T.a__law_which T.f__law_which pWh (spWhE sp C [.bl b1, .bl b2, .bl b3, .bl b4, .bl true]) := by
  have bA : Binds K T.f__law_asked pAskX [] := bd4 T.d__law_asked.F fun _ _ _ _ _ _ _ _ _ _ => rfl
  refine T.d__law_which.F.ok scWh (fun vs H Q E h => ?_) (fun cdv A outer s H vs Q E hr h => ?_)
  · obtain ⟨_, _, _, _, rfl, _⟩ := h
    rfl
  · obtain ⟨l, way, n, W, rfl, hsp, q⟩ := h
    have hz := sizeLine_eq
    refine ⟨_, (pss_cons (ps_set (i := 4) scWh.nd rfl (Or.inl rfl) (pe_lst pa_nil))
      (pss_cons (ps_try (i := 5) rfl rfl rfl GA hr rfl T.d__law_asked.m T.d__law_asked.F.kp bA (pa_cons (pv 0) (pa_cons (pv 1) (pa_cons (pv 2) (pa_cons (pv 3) pa_nil)))) rfl T.mc_KeenError scWh.nd rfl rfl (fun a oe => (pss_cons (ps_set (i := 4) scWh.nd rfl (Or.inl rfl) (pe_lst (pa_cons (pe_callB (call_isE rfl) (by rfl) T.B.isinstance boot_isinstance (pa_cons (pv 5) (pa_cons (pe_glob (v := .ref T.c_BadSay) rfl T.mc_BadSay rfl) pa_nil))) (pa_cons (pe_callB (call_isE rfl) (by rfl) T.B.isinstance boot_isinstance (pa_cons (pv 5) (pa_cons (pe_glob (v := .ref T.c_NoSay) rfl T.mc_NoSay rfl) pa_nil))) (pa_cons (pe_callB (call_isE rfl) (by rfl) T.B.isinstance boot_isinstance (pa_cons (pv 5) (pa_cons (pe_glob (v := .ref T.c_NoWidth) rfl T.mc_NoWidth rfl) pa_nil))) (pa_cons (pe_callB (call_isE rfl) (by rfl) T.B.isinstance boot_isinstance (pa_cons (pv 5) (pa_cons (pe_glob (v := .ref T.c_BadLine) rfl T.mc_BadLine rfl) pa_nil))) pa_nil))))))
      (pss_one (ps_expr (peM (K := K) rfl PySem.F.plainAttrs_list PySem.F.slot_list_append PySem.F.type_list_append mt_append (pv 4) (pa_cons (pe_callB (call_isE rfl) (by rfl) T.B.isinstance boot_isinstance (pa_cons (pv 5) (pa_cons (pe_bltn (v := .ty "ValueError") (by rfl) T.B.ValueError (by decide +kernel) rfl) pa_nil))) pa_nil)))))))
      (pss_one (ps_ret (pv 4))))), ?_⟩
    refine ⟨Nat.zero_le _, fun p hp => ?_⟩
    have s1 : Same H (upd H p (.lst [])) := Same.new hp
    refine ⟨_, rfl, _, rfl, _, rfl, _, rfl, hsp _ _ _ s1 fun H2 s2 => ⟨C, rfl, em, fun a oe na xo => ?_⟩⟩
    refine ⟨_, rfl, C, _, _, b1, rfl, (fun _ r => r), xo, xi, k1, _, rfl, C, _, _, b2, rfl, (fun _ r => r), xo, xi, k2, _, rfl, C, _, _, b3, rfl, (fun _ r => r), xo, xi, k3, _, rfl, C, _, _, b4, rfl, (fun _ r => r), xo, xi, k4, (by show 4 ≤ sizeLine; decide), fun l2 hl2 => ?_⟩
    have s3 := (s1.trans s2).free hl2
    refine ⟨_, rfl, .inl ⟨rfl, _, SqL.of upd_same⟩, _, rfl, C, _, _, true, rfl, (fun _ r => r), xo, xi, kv, l2, _, _, rfl, rfl, upd_same, (by show 4 + 1 ≤ sizeLine; decide), ?_⟩
    exact ⟨_, rfl, q l2 _ (((s1.trans s2).put s3).put s3) s3 upd_same⟩
/-- what is asked answers -/
noncomputable def spWhN (sp : Sp) : Sp := fun vs H Q _ => ∃ (l : Addr) (way n W : Int), vs = [.int way, .int n, .ref l, .int W] ∧ (∀ (H0 : Hp) (Q' : VK) (E' : XK), Same H H0 → (∀ H2, Same H0 H2 → Q' .non H2) → sp vs H0 Q' E') ∧ ∀ l' H', Same H H' → H l' = none → H' l' = some (.lst []) → Q (.ref l') H'
theorem ok_whN (T : Tx K mg) {sp : Sp} (GA : FnOk P w K mg base (CX1 P w) 4 T.a__law_asked T.f__law_asked pAskX sp) : FnOk P w K mg base CX0 5 T.a__law_which T.f__law_which pWh (spWhN sp) := by
  have bA : Binds K T.f__law_asked pAskX [] := bd4 T.d__law_asked.F fun _ _ _ _ _ _ _ _ _ _ => rfl
  refine T.d__law_which.F.ok scWh (fun vs H Q E h => ?_) (fun cdv A outer s H vs Q E hr h => ?_)
  · obtain ⟨_, _, _, _, rfl, _⟩ := h
    rfl
  · obtain ⟨l, way, n, W, rfl, hsp, q⟩ := h
    refine ⟨_, (pss_cons (ps_set (i := 4) scWh.nd rfl (Or.inl rfl) (pe_lst pa_nil))
      (pss_cons (ps_try (i := 5) rfl rfl rfl GA hr rfl T.d__law_asked.m T.d__law_asked.F.kp bA (pa_cons (pv 0) (pa_cons (pv 1) (pa_cons (pv 2) (pa_cons (pv 3) pa_nil)))) rfl T.mc_KeenError scWh.nd rfl rfl (fun a oe => (pss_cons (ps_set (i := 4) scWh.nd rfl (Or.inl rfl) (pe_lst (pa_cons (pe_callB (call_isE rfl) (by rfl) T.B.isinstance boot_isinstance (pa_cons (pv 5) (pa_cons (pe_glob (v := .ref T.c_BadSay) rfl T.mc_BadSay rfl) pa_nil))) (pa_cons (pe_callB (call_isE rfl) (by rfl) T.B.isinstance boot_isinstance (pa_cons (pv 5) (pa_cons (pe_glob (v := .ref T.c_NoSay) rfl T.mc_NoSay rfl) pa_nil))) (pa_cons (pe_callB (call_isE rfl) (by rfl) T.B.isinstance boot_isinstance (pa_cons (pv 5) (pa_cons (pe_glob (v := .ref T.c_NoWidth) rfl T.mc_NoWidth rfl) pa_nil))) (pa_cons (pe_callB (call_isE rfl) (by rfl) T.B.isinstance boot_isinstance (pa_cons (pv 5) (pa_cons (pe_glob (v := .ref T.c_BadLine) rfl T.mc_BadLine rfl) pa_nil))) pa_nil))))))
      (pss_one (ps_expr (peM (K := K) rfl PySem.F.plainAttrs_list PySem.F.slot_list_append PySem.F.type_list_append mt_append (pv 4) (pa_cons (pe_callB (call_isE rfl) (by rfl) T.B.isinstance boot_isinstance (pa_cons (pv 5) (pa_cons (pe_bltn (v := .ty "ValueError") (by rfl) T.B.ValueError (by decide +kernel) rfl) pa_nil))) pa_nil)))))))
      (pss_one (ps_ret (pv 4))))), ?_⟩
    refine ⟨Nat.zero_le _, fun p hp => ?_⟩
    have s1 : Same H (upd H p (.lst [])) := Same.new hp
    refine ⟨_, rfl, _, rfl, _, rfl, _, rfl, hsp _ _ _ s1 fun H2 s2 => ?_⟩
    exact ⟨_, rfl, q p _ (s1.trans s2) hp (s2 _ _ upd_same)⟩
end
theorem Paired.drop' {α β : Type} {F : α → β → Prop} : ∀ {l₁ : List α} {l₂ : List β} (n : Nat), Paired F l₁ l₂ → Paired F (l₁.drop n) (l₂.drop n)
  | _, _, 0, h => h
  | _, _, n + 1, .nil => .nil
  | _, _, n + 1, .cons _ t => Paired.drop' n t
theorem Paired.take' {α β : Type} {F : α → β → Prop} : ∀ {l₁ : List α} {l₂ : List β} (n : Nat), Paired F l₁ l₂ → Paired F (l₁.take n) (l₂.take n)
  | _, _, 0, _ => .nil
  | _, _, n + 1, .nil => .nil
  | _, _, n + 1, .cons r t => .cons r (Paired.take' n t)
theorem take_cut' (xs : List V) (i : Nat) : cutV xs none (some (i : Int)) = xs.take i := by
  unfold cutV
  rw [HT.sIx_nat, HT.sIx_none, List.drop_zero, Nat.sub_zero]
  rcases Nat.le_total i xs.length with h | h
  · rw [Nat.min_eq_left h]
  · rw [Nat.min_eq_right h, List.take_length, List.take_of_length_le h]
theorem mod_in {c : Int} {n : Nat} (h : 1 ≤ n) : 0 ≤ c % (n : Int) ∧ c % (n : Int) < n := ⟨Int.emod_nonneg _ (by omega), Int.emod_lt_of_pos _ (by omega)⟩
theorem In.app {n : Nat} {ps qs : List (Int × Int)} (h : In n ps) (h' : In n qs) : In n (ps ++ qs) := fun p hp => (List.mem_append.mp hp).elim (h p) (h' p)
theorem In.one {n : Nat} {a b : Int} (ha : 0 ≤ a ∧ a < n) (hb : 0 ≤ b ∧ b < n) : In n [(a, b)] := fun p hp => by rw [List.mem_singleton.mp hp]; exact ⟨ha, hb⟩
theorem lgI {i : Int} (h1 : -(10 ^ 40 : Int) < i) (h2 : i < (10 ^ 40 : Int)) : i.natAbs.log2 < 1920 := by
  have h : i.natAbs < 10 ^ 40 := by omega
  by_cases z : i.natAbs = 0
  · rw [z]; decide +kernel
  · exact (Nat.log2_lt z).mpr (Nat.lt_of_lt_of_le h (by decide +kernel))
theorem pick4 {p : Int → Prop} {b0 b1 b2 b3 : Int} (c : Int) (h0 : p b0) (h1 : p b1) (h2 : p b2) (h3 : p b3) : ∃ W, atI [V.int b0, V.int b1, V.int b2, V.int b3] (c % 4) = some (.int W) ∧ p W := by
  have e : c % 4 = 0 ∨ c % 4 = 1 ∨ c % 4 = 2 ∨ c % 4 = 3 := by omega
  rcases e with e | e | e | e <;> rw [e]
  · exact ⟨b0, rfl, h0⟩
  · exact ⟨b1, rfl, h1⟩
  · exact ⟨b2, rfl, h2⟩
  · exact ⟨b3, rfl, h3⟩
theorem pick2 {α : Type} {p : α → Prop} {f : α → V} {b0 b1 : α} (c : Int) (h0 : p b0) (h1 : p b1) : ∃ W, atI [f b0, f b1] (c % 2) = some (f W) ∧ p W := by
  have e : c % 2 = 0 ∨ c % 2 = 1 := by omega
  rcases e with e | e <;> rw [e]
  · exact ⟨b0, rfl, h0⟩
  · exact ⟨b1, rfl, h1⟩
section
variable {P : Program} {w : World} {K : PySem.W.Frag} {mg : Str → Option Value} {base : Heap}
noncomputable abbrev sLaw : Stmt := (top 41)
noncomputable abbrev nLaw : List Str := ["script", "many", "pairs", "k", "cell", "way", "far", "widths", "width", "gone", "at", "near", "ill"]
noncomputable abbrev pLaw : List Str := ["script"]
theorem scLaw : FnScope nLaw pLaw (defScope sLaw) := ⟨rfl, rfl, rfl, by decide +kernel, rfl, by decide +kernel, by decide +kernel⟩
theorem ok_law (T : Tx K mg) : FnOk P w K mg base CX0 6 T.a_law T.f_law pLaw (spLaw K) := by
  have GCell : FnOk P w K mg base CX0 1 T.a__law_cell_at T.f__law_cell_at pCell (spCell K) := ok_cell T.d__law_cell_at T.B
  have bCell : Binds K T.f__law_cell_at pCell [] := bd2 T.d__law_cell_at.F fun _ _ _ _ _ _ _ _ => rfl
  have GX := ok_whE (P := P) (w := w) (base := base) T (ok_askX T) T.ki_BadSay T.em_BadSay T.kv_BadSay T.kk_BadSay_BadSay T.kk_BadSay_NoSay T.kk_BadSay_NoWidth T.kk_BadSay_BadLine
  have GW := ok_whE (P := P) (w := w) (base := base) T (ok_askW T) T.ki_NoWidth T.em_NoWidth T.kv_NoWidth T.kk_NoWidth_BadSay T.kk_NoWidth_NoSay T.kk_NoWidth_NoWidth T.kk_NoWidth_BadLine
  have GN := ok_whN (P := P) (w := w) (base := base) T (lift1 (ok_ask3 T))
  have bW : Binds K T.f__law_which pWh [] := bd4 T.d__law_which.F fun _ _ _ _ _ _ _ _ _ _ => rfl
  refine T.d_law.F.ok scLaw (fun vs H Q E h => ?_) (fun cdv A outer s H vs Q E hr h => ?_)
  · obtain ⟨_, _, rfl, _⟩ := h
    rfl
  · obtain ⟨a, ns, rfl, hS, hlen, q⟩ := h
    have hz := sizeLine_eq
    have hu1 := Nat.lt_of_le_of_lt (Nat.add_le_add_left (by decide : 0 + 1 ≤ 64) _) hr.units
    have hr1 : Room 1 _ := hr.mono (by decide)
    refine ⟨_, (pss_cons (ps_set (i := 1) scLaw.nd rfl (Or.inl rfl) (pe_op op_add pe_int (pe_op op_mod (pe_call GCell hr1 rfl T.d__law_cell_at.m T.d__law_cell_at.F.kp bCell .nil pass0 (pa_cons (pv 0) (pa_cons pe_int pa_nil))) pe_int)))
      (pss_cons (ps_set (i := 2) scLaw.nd rfl (Or.inl rfl) (pe_lst pa_nil))
      (pss_cons (ps_for PassesOwn.never rfl (pi_range1 rfl T.B.range (pa_cons (pe_op op_mod (pe_call GCell hr1 rfl T.d__law_cell_at.m T.d__law_cell_at.F.kp bCell .nil pass0 (pa_cons (pv 0) (pa_cons pe_int pa_nil))) pe_int) pa_nil)) (pg_name (i := 3) scLaw.nd rfl (Or.inl rfl)) (pss_cons (ps_set (i := 4) scLaw.nd rfl (Or.inl rfl) (pe_call GCell hr1 rfl T.d__law_cell_at.m T.d__law_cell_at.F.kp bCell .nil pass0 (pa_cons (pv 0) (pa_cons (pe_op op_add pe_int (pv 3)) pa_nil))))
      (pss_one (ps_expr (peM (K := K) rfl PySem.F.plainAttrs_list PySem.F.slot_list_append PySem.F.type_list_append mt_append (pv 2) (pa_cons (pe_tup (pa_cons (pe_op op_mod (pv 4) (pv 1)) (pa_cons (pe_op op_mod (pe_op op_fdiv (pv 4) (pv 1)) (pv 1)) pa_nil))) pa_nil))))))
      (pss_cons (ps_set (i := 5) scLaw.nd rfl (Or.inl rfl) (pe_op op_mod (pe_call GCell hr1 rfl T.d__law_cell_at.m T.d__law_cell_at.F.kp bCell .nil pass0 (pa_cons (pv 0) (pa_cons pe_int pa_nil))) pe_int))
      (pss_cons (ps_set (i := 6) scLaw.nd rfl (Or.inl rfl) (pe_op op_mod (pe_call GCell hr1 rfl T.d__law_cell_at.m T.d__law_cell_at.F.kp bCell .nil pass0 (pa_cons (pv 0) (pa_cons pe_int pa_nil))) (pe_op op_pow pe_int pe_int)))
      (pss_cons (ps_set (i := 7) scLaw.nd rfl (Or.inl rfl) (pe_lst (pa_cons pe_int (pa_cons pe_int (pa_cons (pe_op op_sub (pe_un un_neg pe_int) (pv 6)) (pa_cons (pe_op op_add pe_int (pv 6)) pa_nil))))))
      (pss_cons (ps_set (i := 8) scLaw.nd rfl (Or.inl rfl) (pe_ix (ixL (K := K) rfl) (pv 7) (pe_op op_mod (pe_call GCell hr1 rfl T.d__law_cell_at.m T.d__law_cell_at.F.kp bCell .nil pass0 (pa_cons (pv 0) (pa_cons pe_int pa_nil))) pe_int) (fun _ _ => rfl)))
      (pss_cons (ps_if (pt_cmpR op_eq (pe_op op_mod (pe_op op_fdiv (pe_call GCell hr1 rfl T.d__law_cell_at.m T.d__law_cell_at.F.kp bCell .nil pass0 (pa_cons (pv 0) (pa_cons pe_int pa_nil))) pe_int) pe_int) pe_int (nomark _)) (pss_cons (ps_set (i := 9) scLaw.nd rfl (Or.inl rfl) (pe_ix (ixL (K := K) rfl) (pe_lst (pa_cons (pe_un un_neg pe_int) (pa_cons (pv 1) (pa_cons (pe_op op_sub (pe_un un_neg pe_int) (pv 6)) (pa_cons (pe_op op_add (pv 1) (pv 6)) pa_nil))))) (pe_op op_mod (pe_call GCell hr1 rfl T.d__law_cell_at.m T.d__law_cell_at.F.kp bCell .nil pass0 (pa_cons (pv 0) (pa_cons pe_int pa_nil))) pe_int) (fun _ _ => rfl)))
      (pss_cons (ps_set (i := 10) scLaw.nd rfl (Or.inl rfl) (pe_op op_mod (pe_call GCell hr1 rfl T.d__law_cell_at.m T.d__law_cell_at.F.kp bCell .nil pass0 (pa_cons (pv 0) (pa_cons pe_int pa_nil))) (pe_op op_add (pe_callB (lenS (K := K) rfl) (by rfl) T.B.len PySem.boot_len (pa_cons (pv 2) pa_nil)) pe_int)))
      (pss_cons (ps_set (i := 11) scLaw.nd rfl (Or.inl rfl) (pe_op op_mod (pe_call GCell hr1 rfl T.d__law_cell_at.m T.d__law_cell_at.F.kp bCell .nil pass0 (pa_cons (pv 0) (pa_cons pe_int pa_nil))) (pv 1)))
      (pss_cons (ps_set (i := 12) scLaw.nd rfl (Or.inl rfl) (pe_ix (ixL (K := K) rfl) (pe_lst (pa_cons (pe_tup (pa_cons (pv 9) (pa_cons (pv 11) pa_nil))) (pa_cons (pe_tup (pa_cons (pv 11) (pa_cons (pv 9) pa_nil))) pa_nil))) (pe_op op_mod (pe_op op_fdiv (pe_call GCell hr1 rfl T.d__law_cell_at.m T.d__law_cell_at.F.kp bCell .nil pass0 (pa_cons (pv 0) (pa_cons pe_int pa_nil))) pe_int) pe_int) (fun _ _ => rfl)))
      (pss_one (ps_ret (pe_cmpR (op_eqS (n := 0) hu1) (pe_call GX hr rfl T.d__law_which.m T.d__law_which.F.kp bW .nil pass0 (pa_cons (pv 5) (pa_cons (pv 1) (pa_cons (pe_op op_cat (pe_op op_cat (pe_slice (slL (K := K) rfl) (pv 2) po_none (po_some (pv 10))) (pe_lst (pa_cons (pv 12) pa_nil))) (pe_slice (slL (K := K) rfl) (pv 2) (po_some (pv 10)) po_none)) (pa_cons (pv 8) pa_nil))))) (pe_lst (pa_cons pe_bl (pa_cons pe_bl (pa_cons pe_bl (pa_cons pe_bl (pa_cons pe_bl pa_nil)))))) (nomark _)))))))) pss_nil)
      (pss_cons (ps_if (pt_cmpR (op_neS (n := 0) hu1) (pe_call GW hr rfl T.d__law_which.m T.d__law_which.F.kp bW .nil pass0 (pa_cons (pe_op op_add pe_int (pe_op op_mod (pv 5) pe_int)) (pa_cons (pv 1) (pa_cons (pe_callTy (listS (K := K) rfl) (by rfl) T.B.list (by decide +kernel) (pa_cons (pv 2) pa_nil)) (pa_cons (pv 8) pa_nil))))) (pe_lst (pa_cons pe_bl (pa_cons pe_bl (pa_cons pe_bl (pa_cons pe_bl (pa_cons pe_bl pa_nil)))))) (nomark _)) (pss_one (ps_ret pe_bl)) pss_nil)
      (pss_one (ps_ret (pe_cmpR (op_eqS (n := 0) hu1) (pe_call GN hr rfl T.d__law_which.m T.d__law_which.F.kp bW .nil pass0 (pa_cons (pe_op op_add pe_int (pe_op op_mod (pv 5) pe_int)) (pa_cons (pv 1) (pa_cons (pv 2) (pa_cons (pe_ix (ixL (K := K) rfl) (pe_lst (pa_cons pe_int (pa_cons pe_int pa_nil))) (pe_op op_mod (pe_op op_fdiv (pv 5) pe_int) pe_int) (fun _ _ => rfl)) pa_nil))))) (pe_lst pa_nil) (nomark _))))))))))))), ?_⟩
    refine ⟨_, rfl, a, ns, 0, rfl, hS, by decide, _, _, rfl, rfl, (by decide : (0 : Int) < 12), _, _, rfl, rfl, ?_⟩
    dsimp only
    generalize hM : 1 + cell ns 0 % 12 = M
    obtain ⟨n, rfl⟩ : ∃ n : Nat, M = n := ⟨M.toNat, by omega⟩
    have hn1 : 1 ≤ n := by omega
    have hn : n ≤ 12 := by omega
    have hn0 : (0 : Int) < n := by omega
    refine ⟨Nat.zero_le _, fun pl hpl => ?_⟩
    have s1 : Same H (upd H pl (.lst [])) := Same.new hpl
    refine ⟨_, rfl, a, ns, 1, rfl, s1.seq hS, by decide, _, _, rfl, rfl, (by decide : (0 : Int) < 8), _, rfl, by omega, by omega, ?_⟩
    refine for_range (fun i σ H3 => ∃ ps v1 v2, σ = [some (.ref a), some (.int n), some (.ref pl), v1, v2, none, none, none, none, none, none, none, none] ∧ Same H H3 ∧ PrsO H3 pl ps ∧ In n ps ∧ ps.length ≤ i)
      ⟨[], none, none, rfl, s1, ⟨[], upd_same, .nil⟩, (fun _ h => nomatch h), Nat.zero_le _⟩ ?_ ?_
    · rintro i σ H3 hi ⟨ps, v1, v2, rfl, s3, ⟨rs, hpl3, hP⟩, hin, hlen⟩
      have e1 := Paired.length hP
      refine ⟨_, rfl, _, rfl, _, _, rfl, rfl, a, ns, _, rfl, s3.seq hS, by omega, ?_⟩
      refine ⟨_, rfl, .inl ⟨rfl, _, SqL.of hpl3⟩, _, rfl, _, rfl, _, _, rfl, rfl, hn0, _, rfl, _, rfl, _, _, rfl, rfl, ⟨hn0, by omega⟩, _, rfl, _, _, rfl, rfl, hn0, (by show 2 ≤ sizeLine; decide), fun t ht => ?_⟩
      have htp : pl ≠ t := ne_of_none hpl3 ht
      refine ⟨pl, _, _, rfl, rfl, by rw [upd_ne htp]; exact hpl3, by rw [List.length_map]; omega, ?_⟩
      refine ⟨ps ++ [(cell ns (8 + (0 + (i : Int))) % (n : Int), cell ns (8 + (0 + (i : Int))) / (n : Int) % (n : Int))], _, _, rfl, (s3.put (s3.free ht)).put hpl, ⟨rs ++ [t], by rw [upd_same, List.map_append]; rfl, ?_⟩, hin.app (In.one (mod_in hn1) (mod_in hn1)), by rw [List.length_append, List.length_singleton]; omega⟩
      refine paired_app (Paired.mapP hP fun r p h => ?_) (.cons ?_ .nil)
      · have hr : H3 r = some (.tup [.int p.1, .int p.2]) := h
        have hrp : r ≠ pl := ne_of hr hpl3 (by intro z; cases z)
        show upd _ pl _ r = _
        rw [upd_ne hrp, upd_ne (ne_of_none hr ht)]
        exact hr
      · show upd _ pl _ t = _
        rw [upd_ne htp.symm]
        exact upd_same
    · rintro σ H3 ⟨ps, v1, v2, rfl, s3, ⟨rs, hpl3, hP⟩, hin, hlps⟩
      have e1 := Paired.length hP
      have hps : ps.length ≤ 8 := by omega
      refine ⟨_, rfl, a, ns, 2, rfl, s3.seq hS, by decide, _, _, rfl, rfl, (by decide : (0 : Int) < 10), ?_⟩
      refine ⟨_, rfl, a, ns, 3, rfl, s3.seq hS, by decide, _, _, rfl, rfl, ⟨by decide, by decide, by decide⟩, _, _, rfl, rfl, (by decide : (0 : Int) < 10 ^ (39 : Int).toNat), ?_⟩
      dsimp only
      generalize hw' : cell ns 2 % 10 = way
      generalize hf' : cell ns 3 % 10 ^ (39 : Int).toNat = far
      have hf0 : 0 ≤ far := hf' ▸ Int.emod_nonneg _ (by decide)
      have hf1 : far < 10 ^ 39 := hf' ▸ Int.emod_lt_of_pos _ (by decide)
      refine ⟨_, rfl, _, rfl, _, _, rfl, rfl, _, rfl, _, _, rfl, rfl, (by show 4 ≤ sizeLine; decide), fun wl hwl => ?_⟩
      have s4 : Same H3 (upd H3 wl (.lst [.int 0, .int 1001, .int (-1 - far), .int (1001 + far)])) := Same.new hwl
      have hwl4 : (upd H3 wl (.lst [.int 0, .int 1001, .int (-1 - far), .int (1001 + far)])) wl = some (.lst [.int 0, .int 1001, .int (-1 - far), .int (1001 + far)]) := upd_same
      revert s4 hwl4
      show Same H3 (upd H3 wl (.lst [.int 0, .int 1001, .int (-1 - far), .int (1001 + far)])) → _
      generalize upd H3 wl (.lst [.int 0, .int 1001, .int (-1 - far), .int (1001 + far)]) = H4
      intro s4 hwl4
      have s14 := s3.trans s4
      obtain ⟨W, hat, hW⟩ := pick4 (p := BadW) (b0 := 0) (b1 := 1001) (b2 := -1 - far) (b3 := 1001 + far) (cell ns 4) ⟨.inl (by decide), by decide +kernel⟩ ⟨.inr (by decide), by decide +kernel⟩ ⟨.inl (by omega), lgI (by omega) (by omega)⟩ ⟨.inr (by omega), lgI (by omega) (by omega)⟩
      refine ⟨_, rfl, _, rfl, a, ns, 4, rfl, s14.seq hS, by decide, _, _, rfl, rfl, (by decide : (0 : Int) < 4), wl, _, _, _, rfl, rfl, SqL.of hwl4, hat, ?_⟩
      have hpl4 := s4 _ _ hpl3
      have hP4 := prs_same hP s4
      refine ⟨_, rfl, a, ns, 2, rfl, s14.seq hS, by decide, _, _, rfl, rfl, ⟨by decide, by decide⟩, _, _, rfl, rfl, (by decide : (0 : Int) < 2), rfl, _, rfl, ?_⟩
      refine ite2 (fun _ => ?_) (fun _ => ?_)
      · refine ⟨_, rfl, _, rfl, _, rfl, _, rfl, _, _, rfl, rfl, _, rfl, _, rfl, _, _, rfl, rfl, (by show 4 ≤ sizeLine; decide), fun gl hgl => ?_⟩
        have s5 : Same H4 (upd H4 gl (.lst [.int (-1), .int n, .int (-1 - far), .int (n + far)])) := Same.new hgl
        have hgl5 : (upd H4 gl (.lst [.int (-1), .int n, .int (-1 - far), .int (n + far)])) gl = some (.lst [.int (-1), .int n, .int (-1 - far), .int (n + far)]) := upd_same
        revert s5 hgl5
        show Same H4 (upd H4 gl (.lst [.int (-1), .int n, .int (-1 - far), .int (n + far)])) → _
        generalize upd H4 gl (.lst [.int (-1), .int n, .int (-1 - far), .int (n + far)]) = H5
        intro s5 hgl5
        have s15 := s14.trans s5
        obtain ⟨g, hatg, hg1, hg2⟩ := pick4 (p := fun g => ¬ (0 ≤ g ∧ g < n) ∧ g.natAbs.log2 < 1920) (b0 := -1) (b1 := n) (b2 := -1 - far) (b3 := n + far) (cell ns 5) ⟨by omega, by decide +kernel⟩ ⟨by omega, lgI (by omega) (by omega)⟩ ⟨by omega, lgI (by omega) (by omega)⟩ ⟨by omega, lgI (by omega) (by omega)⟩
        refine ⟨_, rfl, a, ns, 5, rfl, s15.seq hS, by decide, _, _, rfl, rfl, (by decide : (0 : Int) < 4), gl, _, _, _, rfl, rfl, SqL.of hgl5, hatg, ?_⟩
        have hpl5 := s5 _ _ hpl4
        refine ⟨_, rfl, a, ns, 6, rfl, s15.seq hS, by decide, _, rfl, pl, _, rfl, .inl (SqL.of hpl5), _, _, rfl, rfl, _, _, rfl, rfl, (by omega), ?_⟩
        dsimp only
        have ha1 := Int.emod_nonneg (cell ns 6) (b := ((rs.map V.ref).length : Int) + 1) (by omega)
        have ha2 := Int.emod_lt_of_pos (cell ns 6) (b := ((rs.map V.ref).length : Int) + 1) (by omega)
        revert ha1 ha2
        generalize cell ns 6 % (((rs.map V.ref).length : Int) + 1) = at0
        intro ha1 ha2
        obtain ⟨j, rfl⟩ : ∃ j : Nat, at0 = j := ⟨at0.toNat, by omega⟩
        have hj : j ≤ (rs.map V.ref).length := by omega
        refine ⟨_, rfl, a, ns, 7, rfl, s15.seq hS, by decide, _, rfl, _, _, rfl, rfl, hn0, ?_⟩
        dsimp only
        have hnr := mod_in (c := cell ns 7) hn1
        revert hnr
        generalize cell ns 7 % (n : Int) = near
        intro hnr
        have hnl : near.natAbs.log2 < 1920 := lgI (by omega) (by omega)
        refine ⟨_, rfl, _, rfl, (by show 2 ≤ sizeLine; decide), fun t1 ht1 => ?_⟩
        refine ⟨_, rfl, _, rfl, (by show 2 ≤ sizeLine; decide), fun t2 ht2 => ⟨(by show 2 ≤ sizeLine; decide), fun tl htl => ?_⟩⟩
        have s6 := ((Same.new (o := .tup [.int g, .int near]) ht1).trans (Same.new (o := .tup [.int near, .int g]) ht2)).trans (Same.new (o := .lst [.ref t1, .ref t2]) htl)
        have h61 : (upd (upd (upd H5 t1 (.tup [.int g, .int near])) t2 (.tup [.int near, .int g])) tl (.lst [.ref t1, .ref t2])) t1 = some (.tup [.int g, .int near]) := ((Same.new (o := .tup [.int near, .int g]) ht2).trans (Same.new (o := .lst [.ref t1, .ref t2]) htl)) _ _ upd_same
        have h62 : (upd (upd (upd H5 t1 (.tup [.int g, .int near])) t2 (.tup [.int near, .int g])) tl (.lst [.ref t1, .ref t2])) t2 = some (.tup [.int near, .int g]) := (Same.new (o := .lst [.ref t1, .ref t2]) htl) _ _ upd_same
        have h63 : (upd (upd (upd H5 t1 (.tup [.int g, .int near])) t2 (.tup [.int near, .int g])) tl (.lst [.ref t1, .ref t2])) tl = some (.lst [.ref t1, .ref t2]) := upd_same
        revert s6 h61 h62 h63
        generalize upd (upd (upd H5 t1 (.tup [.int g, .int near])) t2 (.tup [.int near, .int g])) tl (.lst [.ref t1, .ref t2]) = H6
        intro s6 h61 h62 h63
        have s16 := s15.trans s6
        obtain ⟨r, hatr, x, y, hrx, hxy, hlx, hly⟩ := pick2 (p := fun r => ∃ x y : Int, H6 r = some (.tup [.int x, .int y]) ∧ ¬ ((0 ≤ x ∧ x < n) ∧ 0 ≤ y ∧ y < n) ∧ x.natAbs.log2 < 1920 ∧ y.natAbs.log2 < 1920) (f := V.ref) (b0 := t1) (b1 := t2) (cell ns 5 / 4) ⟨g, near, h61, fun z => hg1 z.1, hg2, hnl⟩ ⟨near, g, h62, fun z => hg1 z.2, hnl, hg2⟩
        refine ⟨_, rfl, a, ns, 5, rfl, s16.seq hS, by decide, _, _, rfl, rfl, ⟨by decide, by decide⟩, _, _, rfl, rfl, (by decide : (0 : Int) < 2), tl, _, _, _, rfl, rfl, SqL.of h63, hatr, ?_⟩
        have hpl6 := s6 _ _ hpl5
        have hP6 := prs_same (prs_same hP4 s5) s6
        refine ⟨_, rfl, _, rfl, _, rfl, _, rfl, _, rfl, pl, _, rfl, SqL.of hpl6, fun c1 hc1 => ?_⟩
        have s7 := Same.new (o := .lst (cutV (rs.map V.ref) none (some (j : Int)))) hc1
        refine ⟨_, rfl, (by show 1 ≤ sizeLine; decide), fun c2 hc2 => ?_⟩
        have s8 := Same.new (o := .lst [.ref r]) hc2
        have hl1 := cutV_length (rs.map V.ref) none (some (j : Int))
        have hl2 := cutV_length (rs.map V.ref) (some (j : Int)) none
        have hl3 : (rs.map V.ref).length ≤ 8 := by rw [List.length_map]; omega
        refine ⟨c1, c2, _, _, rfl, rfl, s8 _ _ upd_same, upd_same, (by show _ + 1 ≤ _; omega), fun c3 hc3 => ?_⟩
        have s9 := Same.new (o := .lst (cutV (rs.map V.ref) none (some (j : Int)) ++ [V.ref r])) hc3
        have s79 := (s7.trans s8).trans s9
        refine ⟨_, rfl, _, rfl, _, rfl, pl, _, rfl, SqL.of (s79 _ _ hpl6), fun c4 hc4 => ?_⟩
        have s10 := Same.new (o := .lst (cutV (rs.map V.ref) (some (j : Int)) none)) hc4
        refine ⟨c3, c4, _, _, rfl, rfl, s10 _ _ upd_same, upd_same, (by rw [List.length_append]; show _ + 1 + _ ≤ _; omega), fun c5 hc5 => ?_⟩
        have s11 := Same.new (o := .lst (cutV (rs.map V.ref) none (some (j : Int)) ++ [V.ref r] ++ cutV (rs.map V.ref) (some (j : Int)) none)) hc5
        have s711 := (s79.trans s10).trans s11
        have hB : ∀ HH : Hp, HH c5 = some (.lst (cutV (rs.map V.ref) none (some (j : Int)) ++ [V.ref r] ++ cutV (rs.map V.ref) (some (j : Int)) none)) → Same H6 HH → ∀ H0, Same HH H0 → Bad K H0 c5 n (ps.take j ++ [(x, y)] ++ ps.drop j) := fun HH e5 sH H0 s0 => by
          rw [take_cut', drop_cut _ _ hj] at e5
          refine ⟨⟨rs.take j ++ [r] ++ rs.drop j, SqL.of (s0 _ _ (by rw [e5, List.map_append, List.map_append, List.map_take, List.map_drop]; rfl)), ?_⟩, ⟨(x, y), by simp, hxy⟩, fun p hp => ?_⟩
          · have hP7 := prs_same hP6 (sH.trans s0)
            exact paired_app (paired_app (Paired.take' j hP7) (.cons ((sH.trans s0) _ _ hrx) .nil)) (Paired.drop' j hP7)
          · have hp' : p ∈ ps ∨ p = (x, y) := by
              rcases List.mem_append.mp hp with hp | hp
              · rcases List.mem_append.mp hp with hp | hp
                · exact .inl (List.mem_of_mem_take hp)
                · exact .inr (List.mem_singleton.mp hp)
              · exact .inl (List.mem_of_mem_drop hp)
            rcases hp' with hp' | rfl
            · have := hin p hp'
              exact ⟨lgI (by omega) (by omega), lgI (by omega) (by omega)⟩
            · exact ⟨hlx, hly⟩
        refine ⟨_, rfl, c5, way, n, W, rfl, (fun H0 Q' E' s0 hE => ⟨c5, way, n, W, _, rfl, hB _ upd_same s711 H0 s0, hE⟩), fun l' H' s' hl0 hl' => ?_⟩
        exact ⟨(by show 5 ≤ sizeLine; decide), fun m hm => rEqS.true (.inl ⟨SqL.of ((Same.new hm) _ _ hl'), SqL.of upd_same⟩) (.cons (.flat rfl rfl) (.cons (.flat rfl rfl) (.cons (.flat rfl rfl) (.cons (.flat rfl rfl) (.cons (.flat rfl rfl) .nil))))) (q _)⟩
      · refine ⟨_, rfl, _, _, rfl, rfl, (by decide : (0 : Int) < 2), _, _, rfl, rfl, _, rfl, _, rfl, pl, _, rfl, .inl (SqL.of hpl4), fun c1 hc1 => ?_⟩
        have s5 := Same.new (o := .lst (rs.map V.ref)) hc1
        have hway : 7 + way % 2 = 7 ∨ 7 + way % 2 = 8 := by omega
        refine ⟨_, rfl, c1, 7 + way % 2, n, W, rfl, (fun H0 Q' E' s0 hE => ⟨c1, 7 + way % 2, n, W, ps, rfl, hway, ⟨rs, SqL.of (s0 _ _ upd_same), prs_same hP4 (s5.trans s0)⟩, hin, by omega, hW, hE⟩), fun l' H' s' hl0 hl' => ?_⟩
        refine ⟨(by show 5 ≤ sizeLine; decide), fun m hm => rEqS.true (.inl ⟨SqL.of ((Same.new hm) _ _ hl'), SqL.of upd_same⟩) (.cons (.flat rfl rfl) (.cons (.flat rfl rfl) (.cons (.flat rfl rfl) (.cons (.flat rfl rfl) (.cons (.flat rfl rfl) .nil))))) ⟨_, rfl, iteF ?_⟩⟩
        have s6 := (s5.trans s').put (o := .lst [.bl false, .bl false, .bl true, .bl false, .bl true]) ((s5.trans s').free hm)
        obtain ⟨v, hatv, hv1, hv2⟩ := pick2 (p := fun v : Int => 1 ≤ v ∧ v ≤ 1000) (f := V.int) (b0 := 1) (b1 := 1000) (way / 2) ⟨by decide, by decide⟩ ⟨by decide, by decide⟩
        refine ⟨_, rfl, _, _, rfl, rfl, (by decide : (0 : Int) < 2), _, _, rfl, rfl, _, rfl, _, rfl, (by show 2 ≤ sizeLine; decide), fun c2 hc2 => ?_⟩
        have s7 := s6.trans (Same.new (o := .lst [.int 1, .int 1000]) hc2)
        refine ⟨_, rfl, _, _, rfl, rfl, ⟨by decide, by decide⟩, _, _, rfl, rfl, (by decide : (0 : Int) < 2), c2, _, _, _, rfl, rfl, SqL.of upd_same, hatv, ?_⟩
        refine ⟨pl, 7 + way % 2, n, v, rfl, (fun H0 Q' E' s0 hE => ⟨pl, 7 + way % 2, n, v, ps, rfl, hway, ⟨rs, SqL.of (s0 _ _ (s7 _ _ hpl4)), prs_same hP4 (s7.trans s0)⟩, hin, by omega, hv1, hv2, hE⟩), fun l2 H2 s2' hl20 hl2 => ?_⟩
        exact ⟨Nat.zero_le _, fun m2 hm2 => rEqS.true (.inl ⟨SqL.of ((Same.new hm2) _ _ hl2), SqL.of upd_same⟩) .nil (q _)⟩
end
theorem all_mk {l : PySem.W.OpenLaw} {w : World} {K : PySem.W.Frag} {h : Heap} {mg : Str → Option Value} {fa F0 F1 F2 F3 F4 F5 F6 F7 F8 F9 F10 F11 F12 F13 F14 F15 F16 F17 F18 F19 F20 F21 F22 F23 F24 F25 F26 F27 F28 F29 : Addr} (X : K.In h) (G : h.Ns mainGlobals mg) (hfa : mg "law" = some (.ref fa))
    {od0 an0 od1 an1 od2 an2 od3 an3 od4 an4 od5 an5 od6 an6 od7 an7 od8 an8 od9 an9 od10 an10 od11 an11 od12 an12 od13 an13 od14 an14 od15 an15 od16 an16 od17 an17 od18 an18 od19 an19 od20 an20 od21 an21 od22 an22 od23 an23 od24 an24 od25 an25 od26 an26 od27 an27 od28 an28 od29 an29 : Option Addr} {sl0 sl1 sl2 sl3 sl4 sl5 sl6 sl7 sl8 sl9 sl10 sl11 sl12 sl13 sl14 sl15 sl16 sl17 sl18 sl19 sl20 sl21 sl22 sl23 sl24 sl25 sl26 sl27 sl28 sl29 : Array (Option Value)} {oc0 kV0 dc0 pm0 cd0 ct0 oc1 kV1 dc1 pm1 cd1 ct1 oc2 kV2 dc2 pm2 cd2 ct2 oc3 kV3 dc3 pm3 cd3 ct3 oc4 kV4 dc4 pm4 cd4 ct4 oc5 kV5 dc5 pm5 cd5 ct5 oc6 kV6 dc6 pm6 cd6 ct6 oc7 kV7 dc7 pm7 cd7 ct7 oc8 kV8 dc8 pm8 cd8 ct8 oc9 kV9 dc9 pm9 cd9 ct9 oc10 kV10 dc10 pm10 cd10 ct10 oc11 kV11 dc11 pm11 cd11 ct11 oc12 kV12 dc12 pm12 cd12 ct12 oc13 kV13 dc13 pm13 cd13 ct13 oc14 kV14 dc14 pm14 cd14 ct14 oc15 kV15 dc15 pm15 cd15 ct15 oc16 kV16 dc16 pm16 cd16 ct16 oc17 kV17 dc17 pm17 cd17 ct17 oc18 kV18 dc18 pm18 cd18 ct18 oc19 kV19 dc19 pm19 cd19 ct19 oc20 kV20 dc20 pm20 cd20 ct20 oc21 kV21 dc21 pm21 cd21 ct21 oc22 kV22 dc22 pm22 cd22 ct22 oc23 kV23 dc23 pm23 cd23 ct23 oc24 kV24 dc24 pm24 cd24 ct24 oc25 kV25 dc25 pm25 cd25 ct25 oc26 kV26 dc26 pm26 cd26 ct26 oc27 kV27 dc27 pm27 cd27 ct27 oc28 kV28 dc28 pm28 cd28 ct28 oc29 kV29 dc29 pm29 cd29 ct29 : Value}
    (a0 : PySem.W.nsIn K mainGlobals "refuse_strangers" = some (some (.ref F0))) (l0 : K.lookup F0 = some ⟨oc0, od0, .func (PySem.W.fnOf "refuse_strangers" "refuse_strangers" (defArgs (top 7)) (defBody (top 7)) (defScope (top 7)) .none kV0 dc0 pm0 an0 cd0 ct0), sl0⟩) (c0 : PySem.W.codeIn K cd0 "refuse_strangers" = true) (k0 : PySem.W.keepIn K (.ref F0) = true)
    (a1 : PySem.W.nsIn K mainGlobals "table_of" = some (some (.ref F1))) (l1 : K.lookup F1 = some ⟨oc1, od1, .func (PySem.W.fnOf "table_of" "table_of" (defArgs (top 8)) (defBody (top 8)) (defScope (top 8)) .none kV1 dc1 pm1 an1 cd1 ct1), sl1⟩) (c1 : PySem.W.codeIn K cd1 "table_of" = true) (k1 : PySem.W.keepIn K (.ref F1) = true)
    (a2 : PySem.W.nsIn K mainGlobals "beaten_by" = some (some (.ref F2))) (l2 : K.lookup F2 = some ⟨oc2, od2, .func (PySem.W.fnOf "beaten_by" "beaten_by" (defArgs (top 9)) (defBody (top 9)) (defScope (top 9)) .none kV2 dc2 pm2 an2 cd2 ct2), sl2⟩) (c2 : PySem.W.codeIn K cd2 "beaten_by" = true) (k2 : PySem.W.keepIn K (.ref F2) = true)
    (a3 : PySem.W.nsIn K mainGlobals "things_without_ends" = some (some (.ref F3))) (l3 : K.lookup F3 = some ⟨oc3, od3, .func (PySem.W.fnOf "things_without_ends" "things_without_ends" (defArgs (top 10)) (defBody (top 10)) (defScope (top 10)) .none kV3 dc3 pm3 an3 cd3 ct3), sl3⟩) (c3 : PySem.W.codeIn K cd3 "things_without_ends" = true) (k3 : PySem.W.keepIn K (.ref F3) = true)
    (a4 : PySem.W.nsIn K mainGlobals "come_round" = some (some (.ref F4))) (l4 : K.lookup F4 = some ⟨oc4, od4, .func (PySem.W.fnOf "come_round" "come_round" (defArgs (top 11)) (defBody (top 11)) (defScope (top 11)) .none kV4 dc4 pm4 an4 cd4 ct4), sl4⟩) (c4 : PySem.W.codeIn K cd4 "come_round" = true) (k4 : PySem.W.keepIn K (.ref F4) = true)
    (a5 : PySem.W.nsIn K mainGlobals "round_in" = some (some (.ref F5))) (l5 : K.lookup F5 = some ⟨oc5, od5, .func (PySem.W.fnOf "round_in" "round_in" (defArgs (top 12)) (defBody (top 12)) (defScope (top 12)) .none kV5 dc5 pm5 an5 cd5 ct5), sl5⟩) (c5 : PySem.W.codeIn K cd5 "round_in" = true) (k5 : PySem.W.keepIn K (.ref F5) = true)
    (a6 : PySem.W.nsIn K mainGlobals "round_of" = some (some (.ref F6))) (l6 : K.lookup F6 = some ⟨oc6, od6, .func (PySem.W.fnOf "round_of" "round_of" (defArgs (top 13)) (defBody (top 13)) (defScope (top 13)) .none kV6 dc6 pm6 an6 cd6 ct6), sl6⟩) (c6 : PySem.W.codeIn K cd6 "round_of" = true) (k6 : PySem.W.keepIn K (.ref F6) = true)
    (a7 : PySem.W.nsIn K mainGlobals "alike" = some (some (.ref F7))) (l7 : K.lookup F7 = some ⟨oc7, od7, .func (PySem.W.fnOf "alike" "alike" (defArgs (top 14)) (defBody (top 14)) (defScope (top 14)) .none kV7 dc7 pm7 an7 cd7 ct7), sl7⟩) (c7 : PySem.W.codeIn K cd7 "alike" = true) (k7 : PySem.W.keepIn K (.ref F7) = true)
    (a8 : PySem.W.nsIn K mainGlobals "beaten_by_one_alone" = some (some (.ref F8))) (l8 : K.lookup F8 = some ⟨oc8, od8, .func (PySem.W.fnOf "beaten_by_one_alone" "beaten_by_one_alone" (defArgs (top 16)) (defBody (top 16)) (defScope (top 16)) .none kV8 dc8 pm8 an8 cd8 ct8), sl8⟩) (c8 : PySem.W.codeIn K cd8 "beaten_by_one_alone" = true) (k8 : PySem.W.keepIn K (.ref F8) = true)
    (a9 : PySem.W.nsIn K mainGlobals "two_pairs_in" = some (some (.ref F9))) (l9 : K.lookup F9 = some ⟨oc9, od9, .func (PySem.W.fnOf "two_pairs_in" "two_pairs_in" (defArgs (top 17)) (defBody (top 17)) (defScope (top 17)) .none kV9 dc9 pm9 an9 cd9 ct9), sl9⟩) (c9 : PySem.W.codeIn K cd9 "two_pairs_in" = true) (k9 : PySem.W.keepIn K (.ref F9) = true)
    (a10 : PySem.W.nsIn K mainGlobals "two_pairs" = some (some (.ref F10))) (l10 : K.lookup F10 = some ⟨oc10, od10, .func (PySem.W.fnOf "two_pairs" "two_pairs" (defArgs (top 18)) (defBody (top 18)) (defScope (top 18)) .none kV10 dc10 pm10 an10 cd10 ct10), sl10⟩) (c10 : PySem.W.codeIn K cd10 "two_pairs" = true) (k10 : PySem.W.keepIn K (.ref F10) = true)
    (a11 : PySem.W.nsIn K mainGlobals "spans_in" = some (some (.ref F11))) (l11 : K.lookup F11 = some ⟨oc11, od11, .func (PySem.W.fnOf "spans_in" "spans_in" (defArgs (top 19)) (defBody (top 19)) (defScope (top 19)) .none kV11 dc11 pm11 an11 cd11 ct11), sl11⟩) (c11 : PySem.W.codeIn K cd11 "spans_in" = true) (k11 : PySem.W.keepIn K (.ref F11) = true)
    (a12 : PySem.W.nsIn K mainGlobals "what_forbids_spans" = some (some (.ref F12))) (l12 : K.lookup F12 = some ⟨oc12, od12, .func (PySem.W.fnOf "what_forbids_spans" "what_forbids_spans" (defArgs (top 20)) (defBody (top 20)) (defScope (top 20)) .none kV12 dc12 pm12 an12 cd12 ct12), sl12⟩) (c12 : PySem.W.codeIn K cd12 "what_forbids_spans" = true) (k12 : PySem.W.keepIn K (.ref F12) = true)
    (a13 : PySem.W.nsIn K mainGlobals "spans" = some (some (.ref F13))) (l13 : K.lookup F13 = some ⟨oc13, od13, .func (PySem.W.fnOf "spans" "spans" (defArgs (top 21)) (defBody (top 21)) (defScope (top 21)) .none kV13 dc13 pm13 an13 cd13 ct13), sl13⟩) (c13 : PySem.W.codeIn K cd13 "spans" = true) (k13 : PySem.W.keepIn K (.ref F13) = true)
    (a14 : PySem.W.nsIn K mainGlobals "refuse_width" = some (some (.ref F14))) (l14 : K.lookup F14 = some ⟨oc14, od14, .func (PySem.W.fnOf "refuse_width" "refuse_width" (defArgs (top 24)) (defBody (top 24)) (defScope (top 24)) .none kV14 dc14 pm14 an14 cd14 ct14), sl14⟩) (c14 : PySem.W.codeIn K cd14 "refuse_width" = true) (k14 : PySem.W.keepIn K (.ref F14) = true)
    (a15 : PySem.W.nsIn K mainGlobals "steps_in" = some (some (.ref F15))) (l15 : K.lookup F15 = some ⟨oc15, od15, .func (PySem.W.fnOf "steps_in" "steps_in" (defArgs (top 25)) (defBody (top 25)) (defScope (top 25)) .none kV15 dc15 pm15 an15 cd15 ct15), sl15⟩) (c15 : PySem.W.codeIn K cd15 "steps_in" = true) (k15 : PySem.W.keepIn K (.ref F15) = true)
    (a16 : PySem.W.nsIn K mainGlobals "raise_once" = some (some (.ref F16))) (l16 : K.lookup F16 = some ⟨oc16, od16, .func (PySem.W.fnOf "raise_once" "raise_once" (defArgs (top 26)) (defBody (top 26)) (defScope (top 26)) .none kV16 dc16 pm16 an16 cd16 ct16), sl16⟩) (c16 : PySem.W.codeIn K cd16 "raise_once" = true) (k16 : PySem.W.keepIn K (.ref F16) = true)
    (a17 : PySem.W.nsIn K mainGlobals "marks_or_misfit" = some (some (.ref F17))) (l17 : K.lookup F17 = some ⟨oc17, od17, .func (PySem.W.fnOf "marks_or_misfit" "marks_or_misfit" (defArgs (top 27)) (defBody (top 27)) (defScope (top 27)) .none kV17 dc17 pm17 an17 cd17 ct17), sl17⟩) (c17 : PySem.W.codeIn K cd17 "marks_or_misfit" = true) (k17 : PySem.W.keepIn K (.ref F17) = true)
    (a18 : PySem.W.nsIn K mainGlobals "marks_of" = some (some (.ref F18))) (l18 : K.lookup F18 = some ⟨oc18, od18, .func (PySem.W.fnOf "marks_of" "marks_of" (defArgs (top 28)) (defBody (top 28)) (defScope (top 28)) .none kV18 dc18 pm18 an18 cd18 ct18), sl18⟩) (c18 : PySem.W.codeIn K cd18 "marks_of" = true) (k18 : PySem.W.keepIn K (.ref F18) = true)
    (a19 : PySem.W.nsIn K mainGlobals "misfit" = some (some (.ref F19))) (l19 : K.lookup F19 = some ⟨oc19, od19, .func (PySem.W.fnOf "misfit" "misfit" (defArgs (top 29)) (defBody (top 29)) (defScope (top 29)) .none kV19 dc19 pm19 an19 cd19 ct19), sl19⟩) (c19 : PySem.W.codeIn K cd19 "misfit" = true) (k19 : PySem.W.keepIn K (.ref F19) = true)
    (a20 : PySem.W.nsIn K mainGlobals "least_width_in" = some (some (.ref F20))) (l20 : K.lookup F20 = some ⟨oc20, od20, .func (PySem.W.fnOf "least_width_in" "least_width_in" (defArgs (top 30)) (defBody (top 30)) (defScope (top 30)) .none kV20 dc20 pm20 an20 cd20 ct20), sl20⟩) (c20 : PySem.W.codeIn K cd20 "least_width_in" = true) (k20 : PySem.W.keepIn K (.ref F20) = true)
    (a21 : PySem.W.nsIn K mainGlobals "least_width" = some (some (.ref F21))) (l21 : K.lookup F21 = some ⟨oc21, od21, .func (PySem.W.fnOf "least_width" "least_width" (defArgs (top 31)) (defBody (top 31)) (defScope (top 31)) .none kV21 dc21 pm21 an21 cd21 ct21), sl21⟩) (c21 : PySem.W.codeIn K cd21 "least_width" = true) (k21 : PySem.W.keepIn K (.ref F21) = true)
    (a22 : PySem.W.nsIn K mainGlobals "three_row_in" = some (some (.ref F22))) (l22 : K.lookup F22 = some ⟨oc22, od22, .func (PySem.W.fnOf "three_row_in" "three_row_in" (defArgs (top 32)) (defBody (top 32)) (defScope (top 32)) .none kV22 dc22 pm22 an22 cd22 ct22), sl22⟩) (c22 : PySem.W.codeIn K cd22 "three_row_in" = true) (k22 : PySem.W.keepIn K (.ref F22) = true)
    (a23 : PySem.W.nsIn K mainGlobals "three_row" = some (some (.ref F23))) (l23 : K.lookup F23 = some ⟨oc23, od23, .func (PySem.W.fnOf "three_row" "three_row" (defArgs (top 33)) (defBody (top 33)) (defScope (top 33)) .none kV23 dc23 pm23 an23 cd23 ct23), sl23⟩) (c23 : PySem.W.codeIn K cd23 "three_row" = true) (k23 : PySem.W.keepIn K (.ref F23) = true)
    (a24 : PySem.W.nsIn K mainGlobals "marks" = some (some (.ref F24))) (l24 : K.lookup F24 = some ⟨oc24, od24, .func (PySem.W.fnOf "marks" "marks" (defArgs (top 34)) (defBody (top 34)) (defScope (top 34)) .none kV24 dc24 pm24 an24 cd24 ct24), sl24⟩) (c24 : PySem.W.codeIn K cd24 "marks" = true) (k24 : PySem.W.keepIn K (.ref F24) = true)
    (a25 : PySem.W.nsIn K mainGlobals "shown" = some (some (.ref F25))) (l25 : K.lookup F25 = some ⟨oc25, od25, .func (PySem.W.fnOf "shown" "shown" (defArgs (top 36)) (defBody (top 36)) (defScope (top 36)) .none kV25 dc25 pm25 an25 cd25 ct25), sl25⟩) (c25 : PySem.W.codeIn K cd25 "shown" = true) (k25 : PySem.W.keepIn K (.ref F25) = true)
    (a26 : PySem.W.nsIn K mainGlobals "_law_cell_at" = some (some (.ref F26))) (l26 : K.lookup F26 = some ⟨oc26, od26, .func (PySem.W.fnOf "_law_cell_at" "_law_cell_at" (defArgs (top 38)) (defBody (top 38)) (defScope (top 38)) .none kV26 dc26 pm26 an26 cd26 ct26), sl26⟩) (c26 : PySem.W.codeIn K cd26 "_law_cell_at" = true) (k26 : PySem.W.keepIn K (.ref F26) = true)
    (a27 : PySem.W.nsIn K mainGlobals "_law_asked" = some (some (.ref F27))) (l27 : K.lookup F27 = some ⟨oc27, od27, .func (PySem.W.fnOf "_law_asked" "_law_asked" (defArgs (top 39)) (defBody (top 39)) (defScope (top 39)) .none kV27 dc27 pm27 an27 cd27 ct27), sl27⟩) (c27 : PySem.W.codeIn K cd27 "_law_asked" = true) (k27 : PySem.W.keepIn K (.ref F27) = true)
    (a28 : PySem.W.nsIn K mainGlobals "_law_which" = some (some (.ref F28))) (l28 : K.lookup F28 = some ⟨oc28, od28, .func (PySem.W.fnOf "_law_which" "_law_which" (defArgs (top 40)) (defBody (top 40)) (defScope (top 40)) .none kV28 dc28 pm28 an28 cd28 ct28), sl28⟩) (c28 : PySem.W.codeIn K cd28 "_law_which" = true) (k28 : PySem.W.keepIn K (.ref F28) = true)
    (a29 : PySem.W.nsIn K mainGlobals "law" = some (some (.ref F29))) (l29 : K.lookup F29 = some ⟨oc29, od29, .func (PySem.W.fnOf "law" "law" (defArgs (top 41)) (defBody (top 41)) (defScope (top 41)) .none kV29 dc29 pm29 an29 cd29 ct29), sl29⟩) (c29 : PySem.W.codeIn K cd29 "law" = true) (k29 : PySem.W.keepIn K (.ref F29) = true)
    {T0 : Tok} (gw0 : PySem.W.nsIn K mainGlobals "GREATEST_WIDTH" = some (some (.int 1000 T0)))
    {XC_KeenError XC_BadSay XC_NoSay XC_NoWidth XC_BadLine : Addr} (xf0 : PySem.W.nsIn K mainGlobals "KeenError" = some (some (.ref XC_KeenError))) (xf1 : PySem.W.typeIn K (.ref XC_KeenError) = some (.type "type")) (xf2 : PySem.W.isClsIn K XC_KeenError = true) (xf3 : PySem.W.nsIn K mainGlobals "BadSay" = some (some (.ref XC_BadSay))) (xf4 : PySem.W.typeIn K (.ref XC_BadSay) = some (.type "type")) (xf5 : PySem.W.isClsIn K XC_BadSay = true) (xf6 : PySem.W.nsIn K mainGlobals "NoSay" = some (some (.ref XC_NoSay))) (xf7 : PySem.W.typeIn K (.ref XC_NoSay) = some (.type "type")) (xf8 : PySem.W.isClsIn K XC_NoSay = true) (xf9 : PySem.W.nsIn K mainGlobals "NoWidth" = some (some (.ref XC_NoWidth))) (xf10 : PySem.W.typeIn K (.ref XC_NoWidth) = some (.type "type")) (xf11 : PySem.W.isClsIn K XC_NoWidth = true) (xf12 : PySem.W.nsIn K mainGlobals "BadLine" = some (some (.ref XC_BadLine))) (xf13 : PySem.W.typeIn K (.ref XC_BadLine) = some (.type "type")) (xf14 : PySem.W.isClsIn K XC_BadLine = true) (xf15 : PySem.W.mroIn K XC_KeenError (.type "BaseException") = some true) (xf16 : PySem.W.excIn K XC_BadSay bmVE "ValueError.__new__" = true) (xf17 : PySem.W.hasDictIn K XC_BadSay = true) (xf18 : PySem.W.findIn K (.ref XC_BadSay) "__class__" = some (some (.builtin "object.__class__"))) (xf19 : PySem.W.specialIn K (.builtin "object.__class__") "__get__" = some (some (.builtin "getset_descriptor.__get__"))) (xf20 : PySem.W.takesIn K (.builtin "object.__class__") = some true) (xf21 : PySem.W.mroIn K XC_BadSay (.type "object") = some true) (xf22 : PySem.W.mroIn K XC_BadSay (.type "BaseException") = some true) (xf23 : PySem.W.findIn K (.ref XC_BadSay) "__getattribute__" = some (some (.builtin "BaseException.__getattribute__"))) (xf24 : PySem.W.findIn K (.ref XC_BadSay) "__getattr__" = some none) (xf25 : PySem.W.mroIn K XC_BadSay (.type "ValueError") = some true) (xf26 : PySem.W.mroIn K XC_BadSay (.ref XC_KeenError) = some true) (xf27 : PySem.W.mroIn K XC_BadSay (.ref XC_BadSay) = some true) (xf28 : PySem.W.mroIn K XC_BadSay (.ref XC_NoSay) = some false) (xf29 : PySem.W.mroIn K XC_BadSay (.ref XC_NoWidth) = some false) (xf30 : PySem.W.mroIn K XC_BadSay (.ref XC_BadLine) = some false) (xf31 : PySem.W.excIn K XC_NoWidth bmVE "ValueError.__new__" = true) (xf32 : PySem.W.hasDictIn K XC_NoWidth = true) (xf33 : PySem.W.findIn K (.ref XC_NoWidth) "__class__" = some (some (.builtin "object.__class__"))) (xf34 : PySem.W.specialIn K (.builtin "object.__class__") "__get__" = some (some (.builtin "getset_descriptor.__get__"))) (xf35 : PySem.W.takesIn K (.builtin "object.__class__") = some true) (xf36 : PySem.W.mroIn K XC_NoWidth (.type "object") = some true) (xf37 : PySem.W.mroIn K XC_NoWidth (.type "BaseException") = some true) (xf38 : PySem.W.findIn K (.ref XC_NoWidth) "__getattribute__" = some (some (.builtin "BaseException.__getattribute__"))) (xf39 : PySem.W.findIn K (.ref XC_NoWidth) "__getattr__" = some none) (xf40 : PySem.W.mroIn K XC_NoWidth (.type "ValueError") = some true) (xf41 : PySem.W.mroIn K XC_NoWidth (.ref XC_KeenError) = some true) (xf42 : PySem.W.mroIn K XC_NoWidth (.ref XC_BadSay) = some false) (xf43 : PySem.W.mroIn K XC_NoWidth (.ref XC_NoSay) = some false) (xf44 : PySem.W.mroIn K XC_NoWidth (.ref XC_NoWidth) = some true) (xf45 : PySem.W.mroIn K XC_NoWidth (.ref XC_BadLine) = some false)
    (z0 : PySem.W.nsIn K mainGlobals "len" = some none) (z1 : PySem.W.nsIn K mainGlobals "range" = some none) (z2 : PySem.W.nsIn K mainGlobals "list" = some none) (z3 : PySem.W.nsIn K mainGlobals "sorted" = some none) (z4 : PySem.W.nsIn K mainGlobals "set" = some none) (z5 : PySem.W.nsIn K mainGlobals "isinstance" = some none) (z6 : PySem.W.nsIn K mainGlobals "int" = some none) (z7 : PySem.W.nsIn K mainGlobals "bool" = some none) (z8 : PySem.W.nsIn K mainGlobals "tuple" = some none) (z9 : PySem.W.nsIn K mainGlobals "str" = some none) (z10 : PySem.W.nsIn K mainGlobals "max" = some none) (z11 : PySem.W.nsIn K mainGlobals "min" = some none) (z12 : PySem.W.nsIn K mainGlobals "zip" = some none) (z13 : PySem.W.nsIn K mainGlobals "ValueError" = some none) :
    ∃ fd : FuncData, (∀ (s : Shared) (v : Value), BindsTo s fd ⟨[v], []⟩ [("script", v)]) ∧ ∀ base : Heap, K.In base → base.Ns mainGlobals mg → FnOk l.prog w K mg base CX0 6 fa fd ["script"] (spLaw K) := by
  have e := hfa.symm.trans (PySem.W.mg_of X G a29)
  cases e
  exact ⟨(PySem.W.fnOf "law" "law" (defArgs (top 41)) (defBody (top 41)) (defScope (top 41)) .none kV29 dc29 pm29 an29 cd29 ct29), fun s v => .of_eq rfl, fun base _ _ => ok_law (mg := mg) (K := K) ⟨⟨PySem.W.mg_none_of X G z0, PySem.W.mg_none_of X G z1, PySem.W.mg_none_of X G z2, PySem.W.mg_none_of X G z3, PySem.W.mg_none_of X G z4, PySem.W.mg_none_of X G z5, PySem.W.mg_none_of X G z6, PySem.W.mg_none_of X G z7, PySem.W.mg_none_of X G z8, PySem.W.mg_none_of X G z9, PySem.W.mg_none_of X G z10, PySem.W.mg_none_of X G z11, PySem.W.mg_none_of X G z12, PySem.W.mg_none_of X G z13⟩, T0, PySem.W.mg_of X G gw0,
    XC_KeenError, PySem.W.mg_of X G xf0,
    XC_BadSay, PySem.W.mg_of X G xf3,
    XC_NoSay, PySem.W.mg_of X G xf6,
    XC_NoWidth, PySem.W.mg_of X G xf9,
    XC_BadLine, PySem.W.mg_of X G xf12,
    xcls_of xf16, ⟨xf17, xf18, xf19, xf20, xf21, xf22, xf23, xf24⟩, exm_of xf15 xf2 xf1 xf26, kit_ty xf25, kit_self, kit_not xf27 xf8 xf7 xf28, kit_not xf27 xf11 xf10 xf29, kit_not xf27 xf14 xf13 xf30,
    xcls_of xf31, ⟨xf32, xf33, xf34, xf35, xf36, xf37, xf38, xf39⟩, exm_of xf15 xf2 xf1 xf41, kit_ty xf40, kit_not xf44 xf5 xf4 xf42, kit_not xf44 xf8 xf7 xf43, kit_self, kit_not xf44 xf14 xf13 xf45,
    ⟨F0, (PySem.W.fnOf "refuse_strangers" "refuse_strangers" (defArgs (top 7)) (defBody (top 7)) (defScope (top 7)) .none kV0 dc0 pm0 an0 cd0 ct0), ⟨fun_mk (st := top 7) l0 c0 k0, PySem.W.mg_of X G a0⟩⟩,
    ⟨F1, (PySem.W.fnOf "table_of" "table_of" (defArgs (top 8)) (defBody (top 8)) (defScope (top 8)) .none kV1 dc1 pm1 an1 cd1 ct1), ⟨fun_mk (st := top 8) l1 c1 k1, PySem.W.mg_of X G a1⟩⟩,
    ⟨F2, (PySem.W.fnOf "beaten_by" "beaten_by" (defArgs (top 9)) (defBody (top 9)) (defScope (top 9)) .none kV2 dc2 pm2 an2 cd2 ct2), ⟨fun_mk (st := top 9) l2 c2 k2, PySem.W.mg_of X G a2⟩⟩,
    ⟨F3, (PySem.W.fnOf "things_without_ends" "things_without_ends" (defArgs (top 10)) (defBody (top 10)) (defScope (top 10)) .none kV3 dc3 pm3 an3 cd3 ct3), ⟨fun_mk (st := top 10) l3 c3 k3, PySem.W.mg_of X G a3⟩⟩,
    ⟨F4, (PySem.W.fnOf "come_round" "come_round" (defArgs (top 11)) (defBody (top 11)) (defScope (top 11)) .none kV4 dc4 pm4 an4 cd4 ct4), ⟨fun_mk (st := top 11) l4 c4 k4, PySem.W.mg_of X G a4⟩⟩,
    ⟨F5, (PySem.W.fnOf "round_in" "round_in" (defArgs (top 12)) (defBody (top 12)) (defScope (top 12)) .none kV5 dc5 pm5 an5 cd5 ct5), ⟨fun_mk (st := top 12) l5 c5 k5, PySem.W.mg_of X G a5⟩⟩,
    ⟨F6, (PySem.W.fnOf "round_of" "round_of" (defArgs (top 13)) (defBody (top 13)) (defScope (top 13)) .none kV6 dc6 pm6 an6 cd6 ct6), ⟨fun_mk (st := top 13) l6 c6 k6, PySem.W.mg_of X G a6⟩⟩,
    ⟨F7, (PySem.W.fnOf "alike" "alike" (defArgs (top 14)) (defBody (top 14)) (defScope (top 14)) .none kV7 dc7 pm7 an7 cd7 ct7), ⟨fun_mk (st := top 14) l7 c7 k7, PySem.W.mg_of X G a7⟩⟩,
    ⟨F8, (PySem.W.fnOf "beaten_by_one_alone" "beaten_by_one_alone" (defArgs (top 16)) (defBody (top 16)) (defScope (top 16)) .none kV8 dc8 pm8 an8 cd8 ct8), ⟨fun_mk (st := top 16) l8 c8 k8, PySem.W.mg_of X G a8⟩⟩,
    ⟨F9, (PySem.W.fnOf "two_pairs_in" "two_pairs_in" (defArgs (top 17)) (defBody (top 17)) (defScope (top 17)) .none kV9 dc9 pm9 an9 cd9 ct9), ⟨fun_mk (st := top 17) l9 c9 k9, PySem.W.mg_of X G a9⟩⟩,
    ⟨F10, (PySem.W.fnOf "two_pairs" "two_pairs" (defArgs (top 18)) (defBody (top 18)) (defScope (top 18)) .none kV10 dc10 pm10 an10 cd10 ct10), ⟨fun_mk (st := top 18) l10 c10 k10, PySem.W.mg_of X G a10⟩⟩,
    ⟨F11, (PySem.W.fnOf "spans_in" "spans_in" (defArgs (top 19)) (defBody (top 19)) (defScope (top 19)) .none kV11 dc11 pm11 an11 cd11 ct11), ⟨fun_mk (st := top 19) l11 c11 k11, PySem.W.mg_of X G a11⟩⟩,
    ⟨F12, (PySem.W.fnOf "what_forbids_spans" "what_forbids_spans" (defArgs (top 20)) (defBody (top 20)) (defScope (top 20)) .none kV12 dc12 pm12 an12 cd12 ct12), ⟨fun_mk (st := top 20) l12 c12 k12, PySem.W.mg_of X G a12⟩⟩,
    ⟨F13, (PySem.W.fnOf "spans" "spans" (defArgs (top 21)) (defBody (top 21)) (defScope (top 21)) .none kV13 dc13 pm13 an13 cd13 ct13), ⟨fun_mk (st := top 21) l13 c13 k13, PySem.W.mg_of X G a13⟩⟩,
    ⟨F14, (PySem.W.fnOf "refuse_width" "refuse_width" (defArgs (top 24)) (defBody (top 24)) (defScope (top 24)) .none kV14 dc14 pm14 an14 cd14 ct14), ⟨fun_mk (st := top 24) l14 c14 k14, PySem.W.mg_of X G a14⟩⟩,
    ⟨F15, (PySem.W.fnOf "steps_in" "steps_in" (defArgs (top 25)) (defBody (top 25)) (defScope (top 25)) .none kV15 dc15 pm15 an15 cd15 ct15), ⟨fun_mk (st := top 25) l15 c15 k15, PySem.W.mg_of X G a15⟩⟩,
    ⟨F16, (PySem.W.fnOf "raise_once" "raise_once" (defArgs (top 26)) (defBody (top 26)) (defScope (top 26)) .none kV16 dc16 pm16 an16 cd16 ct16), ⟨fun_mk (st := top 26) l16 c16 k16, PySem.W.mg_of X G a16⟩⟩,
    ⟨F17, (PySem.W.fnOf "marks_or_misfit" "marks_or_misfit" (defArgs (top 27)) (defBody (top 27)) (defScope (top 27)) .none kV17 dc17 pm17 an17 cd17 ct17), ⟨fun_mk (st := top 27) l17 c17 k17, PySem.W.mg_of X G a17⟩⟩,
    ⟨F18, (PySem.W.fnOf "marks_of" "marks_of" (defArgs (top 28)) (defBody (top 28)) (defScope (top 28)) .none kV18 dc18 pm18 an18 cd18 ct18), ⟨fun_mk (st := top 28) l18 c18 k18, PySem.W.mg_of X G a18⟩⟩,
    ⟨F19, (PySem.W.fnOf "misfit" "misfit" (defArgs (top 29)) (defBody (top 29)) (defScope (top 29)) .none kV19 dc19 pm19 an19 cd19 ct19), ⟨fun_mk (st := top 29) l19 c19 k19, PySem.W.mg_of X G a19⟩⟩,
    ⟨F20, (PySem.W.fnOf "least_width_in" "least_width_in" (defArgs (top 30)) (defBody (top 30)) (defScope (top 30)) .none kV20 dc20 pm20 an20 cd20 ct20), ⟨fun_mk (st := top 30) l20 c20 k20, PySem.W.mg_of X G a20⟩⟩,
    ⟨F21, (PySem.W.fnOf "least_width" "least_width" (defArgs (top 31)) (defBody (top 31)) (defScope (top 31)) .none kV21 dc21 pm21 an21 cd21 ct21), ⟨fun_mk (st := top 31) l21 c21 k21, PySem.W.mg_of X G a21⟩⟩,
    ⟨F22, (PySem.W.fnOf "three_row_in" "three_row_in" (defArgs (top 32)) (defBody (top 32)) (defScope (top 32)) .none kV22 dc22 pm22 an22 cd22 ct22), ⟨fun_mk (st := top 32) l22 c22 k22, PySem.W.mg_of X G a22⟩⟩,
    ⟨F23, (PySem.W.fnOf "three_row" "three_row" (defArgs (top 33)) (defBody (top 33)) (defScope (top 33)) .none kV23 dc23 pm23 an23 cd23 ct23), ⟨fun_mk (st := top 33) l23 c23 k23, PySem.W.mg_of X G a23⟩⟩,
    ⟨F24, (PySem.W.fnOf "marks" "marks" (defArgs (top 34)) (defBody (top 34)) (defScope (top 34)) .none kV24 dc24 pm24 an24 cd24 ct24), ⟨fun_mk (st := top 34) l24 c24 k24, PySem.W.mg_of X G a24⟩⟩,
    ⟨F25, (PySem.W.fnOf "shown" "shown" (defArgs (top 36)) (defBody (top 36)) (defScope (top 36)) .none kV25 dc25 pm25 an25 cd25 ct25), ⟨fun_mk (st := top 36) l25 c25 k25, PySem.W.mg_of X G a25⟩⟩,
    ⟨F26, (PySem.W.fnOf "_law_cell_at" "_law_cell_at" (defArgs (top 38)) (defBody (top 38)) (defScope (top 38)) .none kV26 dc26 pm26 an26 cd26 ct26), ⟨fun_mk (st := top 38) l26 c26 k26, PySem.W.mg_of X G a26⟩⟩,
    ⟨F27, (PySem.W.fnOf "_law_asked" "_law_asked" (defArgs (top 39)) (defBody (top 39)) (defScope (top 39)) .none kV27 dc27 pm27 an27 cd27 ct27), ⟨fun_mk (st := top 39) l27 c27 k27, PySem.W.mg_of X G a27⟩⟩,
    ⟨F28, (PySem.W.fnOf "_law_which" "_law_which" (defArgs (top 40)) (defBody (top 40)) (defScope (top 40)) .none kV28 dc28 pm28 an28 cd28 ct28), ⟨fun_mk (st := top 40) l28 c28 k28, PySem.W.mg_of X G a28⟩⟩,
    ⟨fa, (PySem.W.fnOf "law" "law" (defArgs (top 41)) (defBody (top 41)) (defScope (top 41)) .none kV29 dc29 pm29 an29 cd29 ct29), ⟨fun_mk (st := top 41) l29 c29 k29, PySem.W.mg_of X G a29⟩⟩⟩⟩
theorem walk {l : PySem.W.OpenLaw} {q : Program} {loose : List Str} {XP : (Str → Option Value) → Heap → Prop} {YP : World → Heap → Prop} {d : DefRec} {K : Params → PySem.W.Frag} (hn : l.most = some 63) (hdf : d.params.defaults = [])
    (hY : ∀ (w : World) (h : Heap), YP w h → (K w.params).In h)
    (F : ∀ (w : World) (mg : Str → Option Value) (fa : Addr) (h : Heap), (K w.params).In h → h.Ns mainGlobals mg → mg d.name = some (.ref fa) →
      ∃ fd : FuncData, (∀ (s : Shared) (u : Value), BindsTo s fd ⟨[u], []⟩ [("script", u)]) ∧ ∀ base : Heap, (K w.params).In base → base.Ns mainGlobals mg → FnOk l.prog w (K w.params) mg base CX0 6 fa fd ["script"] (spLaw (K w.params))) :
    PySem.W.WalkO q loose XP YP l.row.toRowW d [] (fun f vs => PySem.call f vs) :=
  L2.walk_of (n := 63) (k := 6) (x := "script") (CX := fun _ => CX0) (sp := fun w => spLaw (K w.params)) hn (by decide) hdf ⟨rfl, by decide, by decide⟩ hY F (fun _ _ a ns hl _ hS => ⟨a, ns, rfl, hS, hl, fun _ => rfl⟩) fun _ _ _ _ _ z => z
end KS
open PySem PySem.W PyProof.Rows
set_option maxRecDepth 100000 in
set_option maxHeartbeats 0 in
theorem PySem.Challenge.cw_keenscale_k14_each_refusal_its_own_holds : PySem.Challenge.rw_keenscale_k14_each_refusal_its_own.Holds := by
  w_on; o_law; k_head; (case hw => w_witness2)
  k_fill
  refine KS.walk (l := PySem.Challenge.rw_keenscale_k14_each_refusal_its_own) rfl rfl (fun w h Y => PySem.W.kIn_of Y) ?F
  case F =>
    intro w mg fa h KX G hmg
    refine' KS.all_mk KX G hmg ?a0 ?l0 ?c0 ?k0 ?a1 ?l1 ?c1 ?k1 ?a2 ?l2 ?c2 ?k2 ?a3 ?l3 ?c3 ?k3 ?a4 ?l4 ?c4 ?k4 ?a5 ?l5 ?c5 ?k5 ?a6 ?l6 ?c6 ?k6 ?a7 ?l7 ?c7 ?k7 ?a8 ?l8 ?c8 ?k8 ?a9 ?l9 ?c9 ?k9 ?a10 ?l10 ?c10 ?k10 ?a11 ?l11 ?c11 ?k11 ?a12 ?l12 ?c12 ?k12 ?a13 ?l13 ?c13 ?k13 ?a14 ?l14 ?c14 ?k14 ?a15 ?l15 ?c15 ?k15 ?a16 ?l16 ?c16 ?k16 ?a17 ?l17 ?c17 ?k17 ?a18 ?l18 ?c18 ?k18 ?a19 ?l19 ?c19 ?k19 ?a20 ?l20 ?c20 ?k20 ?a21 ?l21 ?c21 ?k21 ?a22 ?l22 ?c22 ?k22 ?a23 ?l23 ?c23 ?k23 ?a24 ?l24 ?c24 ?k24 ?a25 ?l25 ?c25 ?k25 ?a26 ?l26 ?c26 ?k26 ?a27 ?l27 ?c27 ?k27 ?a28 ?l28 ?c28 ?k28 ?a29 ?l29 ?c29 ?k29 ?gw0 ?xf0 ?xf1 ?xf2 ?xf3 ?xf4 ?xf5 ?xf6 ?xf7 ?xf8 ?xf9 ?xf10 ?xf11 ?xf12 ?xf13 ?xf14 ?xf15 ?xf16 ?xf17 ?xf18 ?xf19 ?xf20 ?xf21 ?xf22 ?xf23 ?xf24 ?xf25 ?xf26 ?xf27 ?xf28 ?xf29 ?xf30 ?xf31 ?xf32 ?xf33 ?xf34 ?xf35 ?xf36 ?xf37 ?xf38 ?xf39 ?xf40 ?xf41 ?xf42 ?xf43 ?xf44 ?xf45 ?z0 ?z1 ?z2 ?z3 ?z4 ?z5 ?z6 ?z7 ?z8 ?z9 ?z10 ?z11 ?z12 ?z13
    (case a0 => k_is)
    (case l0 => k_is)
    (case c0 => k_is)
    (case k0 => k_is)
    (case a1 => k_is)
    (case l1 => k_is)
    (case c1 => k_is)
    (case k1 => k_is)
    (case a2 => k_is)
    (case l2 => k_is)
    (case c2 => k_is)
    (case k2 => k_is)
    (case a3 => k_is)
    (case l3 => k_is)
    (case c3 => k_is)
    (case k3 => k_is)
    (case a4 => k_is)
    (case l4 => k_is)
    (case c4 => k_is)
    (case k4 => k_is)
    (case a5 => k_is)
    (case l5 => k_is)
    (case c5 => k_is)
    (case k5 => k_is)
    (case a6 => k_is)
    (case l6 => k_is)
    (case c6 => k_is)
    (case k6 => k_is)
    (case a7 => k_is)
    (case l7 => k_is)
    (case c7 => k_is)
    (case k7 => k_is)
    (case a8 => k_is)
    (case l8 => k_is)
    (case c8 => k_is)
    (case k8 => k_is)
    (case a9 => k_is)
    (case l9 => k_is)
    (case c9 => k_is)
    (case k9 => k_is)
    (case a10 => k_is)
    (case l10 => k_is)
    (case c10 => k_is)
    (case k10 => k_is)
    (case a11 => k_is)
    (case l11 => k_is)
    (case c11 => k_is)
    (case k11 => k_is)
    (case a12 => k_is)
    (case l12 => k_is)
    (case c12 => k_is)
    (case k12 => k_is)
    (case a13 => k_is)
    (case l13 => k_is)
    (case c13 => k_is)
    (case k13 => k_is)
    (case a14 => k_is)
    (case l14 => k_is)
    (case c14 => k_is)
    (case k14 => k_is)
    (case a15 => k_is)
    (case l15 => k_is)
    (case c15 => k_is)
    (case k15 => k_is)
    (case a16 => k_is)
    (case l16 => k_is)
    (case c16 => k_is)
    (case k16 => k_is)
    (case a17 => k_is)
    (case l17 => k_is)
    (case c17 => k_is)
    (case k17 => k_is)
    (case a18 => k_is)
    (case l18 => k_is)
    (case c18 => k_is)
    (case k18 => k_is)
    (case a19 => k_is)
    (case l19 => k_is)
    (case c19 => k_is)
    (case k19 => k_is)
    (case a20 => k_is)
    (case l20 => k_is)
    (case c20 => k_is)
    (case k20 => k_is)
    (case a21 => k_is)
    (case l21 => k_is)
    (case c21 => k_is)
    (case k21 => k_is)
    (case a22 => k_is)
    (case l22 => k_is)
    (case c22 => k_is)
    (case k22 => k_is)
    (case a23 => k_is)
    (case l23 => k_is)
    (case c23 => k_is)
    (case k23 => k_is)
    (case a24 => k_is)
    (case l24 => k_is)
    (case c24 => k_is)
    (case k24 => k_is)
    (case a25 => k_is)
    (case l25 => k_is)
    (case c25 => k_is)
    (case k25 => k_is)
    (case a26 => k_is)
    (case l26 => k_is)
    (case c26 => k_is)
    (case k26 => k_is)
    (case a27 => k_is)
    (case l27 => k_is)
    (case c27 => k_is)
    (case k27 => k_is)
    (case a28 => k_is)
    (case l28 => k_is)
    (case c28 => k_is)
    (case k28 => k_is)
    (case a29 => k_is)
    (case l29 => k_is)
    (case c29 => k_is)
    (case k29 => k_is)
    (case gw0 => k_is)
    (case xf0 => k_is)
    (case xf1 => k_is)
    (case xf2 => k_is)
    (case xf3 => k_is)
    (case xf4 => k_is)
    (case xf5 => k_is)
    (case xf6 => k_is)
    (case xf7 => k_is)
    (case xf8 => k_is)
    (case xf9 => k_is)
    (case xf10 => k_is)
    (case xf11 => k_is)
    (case xf12 => k_is)
    (case xf13 => k_is)
    (case xf14 => k_is)
    (case xf15 => k_is)
    (case xf16 => k_exc)
    (case xf17 => k_is)
    (case xf18 => k_is)
    (case xf19 => k_is)
    (case xf20 => k_is)
    (case xf21 => k_is)
    (case xf22 => k_is)
    (case xf23 => k_is)
    (case xf24 => k_is)
    (case xf25 => k_is)
    (case xf26 => k_is)
    (case xf27 => k_is)
    (case xf28 => k_is)
    (case xf29 => k_is)
    (case xf30 => k_is)
    (case xf31 => k_exc)
    (case xf32 => k_is)
    (case xf33 => k_is)
    (case xf34 => k_is)
    (case xf35 => k_is)
    (case xf36 => k_is)
    (case xf37 => k_is)
    (case xf38 => k_is)
    (case xf39 => k_is)
    (case xf40 => k_is)
    (case xf41 => k_is)
    (case xf42 => k_is)
    (case xf43 => k_is)
    (case xf44 => k_is)
    (case xf45 => k_is)
    (case z0 => k_is)
    (case z1 => k_is)
    (case z2 => k_is)
    (case z3 => k_is)
    (case z4 => k_is)
    (case z5 => k_is)
    (case z6 => k_is)
    (case z7 => k_is)
    (case z8 => k_is)
    (case z9 => k_is)
    (case z10 => k_is)
    (case z11 => k_is)
    (case z12 => k_is)
    (case z13 => k_is)
