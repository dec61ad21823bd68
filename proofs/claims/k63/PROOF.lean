import PyProof.Rows.All
import Wide.All
import OpenK.AllK
import Wide.FinOn
import Lean
import PyProof.EqAt
import PyProof.EqKinds
import PyProof.TupleCall
import PySem.Challenge.RW_nearkinds_k63_whole_known_tables
set_option Elab.async false
set_option linter.all false
set_option maxRecDepth 1000000
set_option maxHeartbeats 4000000
/-! THE HAND LAYER, for ints, bools, texts, own classes, LISTS and tuples (index, slices, in, append, pop ..), calls, loops. Paste it whole ahead of your own text; what your proof does not reach may be deleted. -/
namespace L2
open PySem PySem.Spec PyProof.Rows

/-- a key: an int or a str -/
noncomputable abbrev Key := Sum Int Str
noncomputable def keyIs : Key → Value → Bool
  | .inl k, v => Value.isInt k v
  | .inr x, v => Value.isStrOf x v
noncomputable def keyH (w : World) : Key → Int
  | .inl k => hashInt k
  | .inr x => hashStr w x
theorem keyIs_shape : ∀ {k : Key} {v : Value}, keyIs k v = true → (∃ i t, k = Sum.inl i ∧ v = Value.int i t) ∨ (∃ x t, k = Sum.inr x ∧ v = Value.str x t)
  | .inl i, v, h => by
    obtain ⟨t, e⟩ := Value.isInt_shape (k := i) (v := v) h
    exact .inl ⟨i, t, rfl, e⟩
  | .inr x, v, h => by
    obtain ⟨t, e⟩ := Value.isStrOf_shape (x := x) (v := v) h
    exact .inr ⟨x, t, rfl, e⟩
theorem keyIs_int (i : Int) (t : Tok) : keyIs (.inl i) (.int i t) = true := by simp [keyIs, Value.isInt]
theorem keyIs_str (x : Str) (t : Tok) : keyIs (.inr x) (.str x t) = true := by simp [keyIs, Value.isStrOf]
theorem key_ll (a b : Int) : decide ((Sum.inl a : Key) = Sum.inl b) = (a == b) := by
  by_cases e : a = b
  · subst e; simp
  · have h : ¬ (Sum.inl a : Key) = Sum.inl b := fun q => e (Sum.inl.inj q)
    rw [decide_eq_false h]
    exact (beq_eq_false_iff_ne.mpr e).symm
theorem key_rr (a b : Str) : decide ((Sum.inr a : Key) = Sum.inr b) = decide (a = b) := by
  by_cases e : a = b
  · subst e; simp
  · have h : ¬ (Sum.inr a : Key) = Sum.inr b := fun q => e (Sum.inr.inj q)
    rw [decide_eq_false h, decide_eq_false e]
theorem key_lr (a : Int) (b : Str) : decide ((Sum.inl a : Key) = Sum.inr b) = false := decide_eq_false (fun q => nomatch q)
theorem key_rl (a : Str) (b : Int) : decide ((Sum.inr a : Key) = Sum.inl b) = false := decide_eq_false (fun q => nomatch q)

noncomputable def mixKind (prog : Program) (w : World) : PySem.KeyKind prog w Key where
  is := keyIs
  hash := keyH w
  inj := fun v a b ha hb => by
    rcases keyIs_shape ha with ⟨i, t, rfl, rfl⟩ | ⟨x, t, rfl, rfl⟩
    · rcases keyIs_shape hb with ⟨j, u, rfl, e⟩ | ⟨y, u, rfl, e⟩
      · injection e with e1 _; rw [e1]
      · exact nomatch e
    · rcases keyIs_shape hb with ⟨j, u, rfl, e⟩ | ⟨y, u, rfl, e⟩
      · exact nomatch e
      · injection e with e1 _; rw [e1]
  byValue := fun k v h => by
    rcases keyIs_shape h with ⟨i, t, rfl, rfl⟩ | ⟨x, t, rfl, rfl⟩ <;> rfl
  pyHash := fun hv h => by
    rcases keyIs_shape hv with ⟨i, t, rfl, rfl⟩ | ⟨x, t, rfl, rfl⟩
    · exact wpAny_pyHash_int h
    · exact wpAny_pyHash_str h
  eqBool := fun hu hv h => by
    rcases keyIs_shape hu with ⟨i, t, rfl, rfl⟩ | ⟨x, t, rfl, rfl⟩
    · rcases keyIs_shape hv with ⟨j, u, rfl, rfl⟩ | ⟨y, u, rfl, rfl⟩
      · rw [key_ll] at h; exact wpAny_eqBool_int h
      · rw [key_lr] at h; exact SeqAt.EqAt.int_str i t y u _ _ _ _ h
    · rcases keyIs_shape hv with ⟨j, u, rfl, rfl⟩ | ⟨y, u, rfl, rfl⟩
      · rw [key_rl] at h; exact SeqAt.EqAt.str_int x t j u _ _ _ _ h
      · rw [key_rr] at h; exact wpAny_eqBool_str h
  «strs» := fun k x t v h => by
    rcases keyIs_shape h with ⟨i, u, rfl, e⟩ | ⟨y, u, rfl, e⟩
    · exact nomatch e
    · injection e with e1 _
      subst e1
      cases v <;> rfl

theorem mixKind_is (prog : Program) (w : World) (k : Key) (v : Value) : (mixKind prog w).is k v = keyIs k v := rfl
theorem mixKind_int (prog : Program) (w : World) (i : Int) (t : Tok) : (mixKind prog w).is (.inl i) (.int i t) = true := keyIs_int i t
theorem mixKind_str (prog : Program) (w : World) (x : Str) (t : Tok) : (mixKind prog w).is (.inr x) (.str x t) = true := keyIs_str x t
end L2

namespace L2
open PySem PySem.Spec PyProof.Rows

/-- a value, without the heap -/
inductive V where
  | non | bl (b : Bool) | int (i : Int) | str (x : Str) | byt (b : Array UInt8) | flt (b : UInt64) | ref (a : Addr) | ty (n : String)
  deriving DecidableEq

noncomputable def RelV : V → Value → Prop
  | .non, u => u = Value.none
  | .bl b, u => u = Value.bool b
  | .int i, u => ∃ t, u = Value.int i t
  | .str x, u => ∃ t, u = Value.str x t
  | .byt b, u => ∃ t, u = Value.bytes b t
  | .flt b, u => ∃ t, u = Value.float b t
  | .ref a, u => u = Value.ref a
  | .ty n, u => u = Value.type n

noncomputable abbrev Vals : List V → List Value → Prop := Paired RelV
theorem Vals.length {xs : List V} {us : List Value} (r : Vals xs us) : xs.length = us.length := Paired.length r
theorem Vals.get : ∀ {xs : List V} {us : List Value} {i : Nat} {x : V}, Vals xs us → xs[i]? = some x → ∃ u, us[i]? = some u ∧ RelV x u
  | _, _, _, _, .nil, e => by simp at e
  | _, _, 0, _, .cons r _, e => by simp at e; subst e; exact ⟨_, rfl, r⟩
  | _, _, i + 1, x, .cons _ t, e => by
    obtain ⟨u, h1, h2⟩ := Vals.get (i := i) (x := x) t (by simpa using e)
    exact ⟨u, by simpa using h1, h2⟩
theorem Vals.set {x : V} {u : Value} (r : RelV x u) : ∀ {xs : List V} {us : List Value} (i : Nat), Vals xs us → Vals (xs.set i x) (us.set i u)
  | _, _, _, .nil => .nil
  | _, _, 0, .cons _ t => .cons r t
  | _, _, i + 1, .cons q t => .cons q (Vals.set r i t)
theorem Vals.append : ∀ {xs ys : List V} {us ws : List Value}, Vals xs us → Vals ys ws → Vals (xs ++ ys) (us ++ ws)
  | _, _, _, _, .nil, s => s
  | _, _, _, _, .cons r t, s => .cons r (Vals.append t s)
theorem Vals.take : ∀ {xs : List V} {us : List Value} (n : Nat), Vals xs us → Vals (xs.take n) (us.take n)
  | _, _, 0, _ => .nil
  | _, _, _ + 1, .nil => .nil
  | _, _, n + 1, .cons r t => .cons r (Vals.take n t)
theorem Vals.drop : ∀ {xs : List V} {us : List Value} (n : Nat), Vals xs us → Vals (xs.drop n) (us.drop n)
  | _, _, 0, r => r
  | _, _, _ + 1, .nil => .nil
  | _, _, n + 1, .cons _ t => Vals.drop n t
theorem Vals.none_of : ∀ {xs : List V} {us : List Value} {i : Nat}, Vals xs us → xs[i]? = none → us[i]? = none := fun {xs us i} r e => by
  have h1 := r.length
  have h2 : xs.length ≤ i := List.getElem?_eq_none_iff.mp e
  exact List.getElem?_eq_none_iff.mpr (by omega)

noncomputable def RelO : Option V → Option Value → Prop
  | some v, some u => RelV v u
  | none, none => True
  | _, _ => False
noncomputable def KV {κ : Type} : List (κ × V) → List (κ × Value) → Prop := Paired fun (p : κ × V) (q : κ × Value) => p.1 = q.1 ∧ RelV p.2 q.2

/-- a key of a dict (00_mix): an int or a text -/
noncomputable def kV : Key → V
  | .inl i => .int i
  | .inr x => .str x

/-- what stands at a tracked address -/
inductive HO where
  /-- a list -/
  | lst (xs : List V)
  /-- a tuple (never changes) -/
  | tup (xs : List V)
  /-- a dict whose keys are ints and texts; one whose keys are tuples of ints and texts (the empty one is both) -/
  | dK (kvs : List (Key × V)) | dT (kvs : List (List Key × V))
  /-- a set of ints: its members, its size -/
  | set (S : Int → Bool) (n : Nat)
  /-- an instance of the class at C, its dict at dx, its attributes -/
  | ins (C dx : Addr) (fs : List (Str × V))
  /-- the dict of the instance at x -/
  | own (x : Addr)
  /-- the dict of an exception -/
  | xd (fs : List (Str × V))
  /-- a bound method, f of x -/
  | met (f x : Addr)
  /-- a range object lo, lo + 1, .. below hi -/
  | rng (lo hi : Int)
  /-- a thing that is known to the object (the script; a dict while a loop walks it): read, never written while it is so -/
  | frz (o : Obj) (u : HO)
  /-- a code object's table -/
  | tbl (ps : Array Value)
  /-- any other thing, by what is true of its one object (a def of one's own: SetO a S n := HO.ext fun h => ..) -/
  | ext (φ : Heap → Prop)

noncomputable abbrev Hp := Addr → Option HO
noncomputable def upd (H : Hp) (a : Addr) (o : HO) : Hp := fun b => if b = a then some o else H b
theorem upd_same {H : Hp} {a : Addr} {o : HO} : upd H a o a = some o := by unfold upd; rw [if_pos rfl]
theorem upd_ne {H : Hp} {a b : Addr} {o : HO} (h : b ≠ a) : upd H a o b = H b := by unfold upd; rw [if_neg h]
theorem ne_of_none {H : Hp} {a b : Addr} {o : HO} (h : H a = some o) (h' : H b = none) : a ≠ b := by
  intro e; subst e; rw [h] at h'; cases h'

noncomputable def IsTupN (h : Heap) (a : Addr) (items : Array Value) : Prop := ∃ o, h.get? a = some o ∧ (o.cls = .type "tuple" ∧ o.dict = none) ∧ ∃ n, o.data = .seq items n
theorem IsTupN.tup {h : Heap} {a : Addr} {items : Array Value} (x : IsTupN h a items) : IsTup h a items := let ⟨o, e, c, d⟩ := x; ⟨o, e, c.1, d⟩
theorem IsTupN.new (h : Heap) (items : Array Value) : IsTupN (h.push { cls := .type "tuple", data := .seq items }) h.objs.size items := ⟨_, Heap.get?_push_size h rfl, ⟨rfl, rfl⟩, 0, rfl⟩
section
variable (P : Program) (w : World)
noncomputable def ObjOk (H : Hp) (h : Heap) (a : Addr) : HO → Prop
  | .lst xs => xs.length ≤ sizeLine ∧ ∃ (its : List Value) (n : Nat), Vals xs its ∧ h.get? a = some { cls := .type "list", data := .seq its.toArray n }
  | .tup xs => xs.length ≤ sizeLine ∧ ∃ its : List Value, Vals xs its ∧ IsTupN h a its.toArray
  | .dK kvs => kvs.length ≤ sizeLine ∧ (a == sysModules) = false ∧ ∃ vs, KV kvs vs ∧ h.DictOf (mixKind P w) a vs
  | .dT kvs => kvs.length ≤ sizeLine ∧ (a == sysModules) = false ∧ ∃ xs : List (List Key × Addr × Value),
      Paired (fun (p : List Key × V) (q : List Key × Addr × Value) => p.1 = q.1 ∧ H q.2.1 = some (.tup (p.1.map kV)) ∧ RelV p.2 q.2.2) kvs xs ∧
      ∃ o es ep, h.get? a = some o ∧ o.ExactDict ∧ o.data = .dict es ep ∧ es.toList = xs.map (entryOfKey (tupleKind (mixKind P w))) ∧ (xs.map (·.1)).Nodup
  | .set S n => h.SetOf (intKind P w) a S n
  | .ins C dx fs => H dx = some (.own a) ∧ fs.length ≤ 1000 ∧ dx ≠ a ∧ h.get? a = some (PySem.W.instObj C dx) ∧
      ∃ mA, h.Ns1 dx mA ∧ (∀ f, RelO (fs.lookup f) (mA f)) ∧ PySem.Within mA (fs.map (·.1))
  | .own _ => ∃ o, h.get? a = some o
  | .xd fs => ∃ mA, h.Ns1 a mA ∧ ∀ f, RelO (fs.lookup f) (mA f)
  | .rng lo hi => ∃ t u v, h.get? a = some { cls := .type "range", data := .fields #[.int lo t, .int hi u, .int 1 v] }
  | .frz o u => h.get? a = some o ∧ ObjOk H h a u
  | .tbl ps => h.get? a = some { cls := .none, data := .fields ps }
  | .met f x => h.get? a = some (PySem.W.methodObj (.ref f) (.ref x))
  | .ext φ => φ h ∧ (∃ o, h.get? a = some o) ∧ ∀ h1 h2 : Heap, φ h1 → (∀ o, h1.get? a = some o → h2.get? a = some o) → φ h2
/-- the abstract heap is held -/
noncomputable def HOk (H : Hp) (h : Heap) : Prop := ∀ a o, H a = some o → ObjOk P w H h a o
end

section
variable {P : Program} {w : World} {H H' : Hp} {h h' : Heap} {a : Addr} {o : HO}
theorem ObjOk.lt (x : ObjOk P w H h a o) : a < h.objs.size := by
  cases o with
  | lst xs => obtain ⟨_, _, _, _, e⟩ := x; exact Heap.lt_size e
  | tup xs => obtain ⟨_, _, _, p⟩ := x; exact p.tup.lt
  | dK kvs => obtain ⟨_, _, _, _, o, _, _, e, _⟩ := x; exact Heap.lt_size e
  | dT kvs => obtain ⟨_, _, _, _, o, _, _, e, _⟩ := x; exact Heap.lt_size e
  | set S n => obtain ⟨o, _, _, _, e, _⟩ := x; exact Heap.lt_size e
  | ins C dx fs => obtain ⟨_, _, _, e, _⟩ := x; exact Heap.lt_size e
  | own y => obtain ⟨_, e⟩ := x; exact Heap.lt_size e
  | xd fs => obtain ⟨_, ⟨_, _, _, e, _⟩, _⟩ := x; exact Heap.lt_size e
  | rng lo hi => obtain ⟨_, _, _, e⟩ := x; exact Heap.lt_size e
  | frz ob u => obtain ⟨e, _⟩ := x; exact Heap.lt_size e
  | tbl ps => exact Heap.lt_size (show h.get? a = some _ from x)
  | met f y => exact Heap.lt_size (show h.get? a = some _ from x)
  | ext φ => obtain ⟨_, ⟨_, e⟩, _⟩ := x; exact Heap.lt_size e
theorem Paired.mapP {α β : Type} {F G : α → β → Prop} : ∀ {l₁ : List α} {l₂ : List β}, Paired F l₁ l₂ → (∀ a b, F a b → G a b) → Paired G l₁ l₂
  | _, _, .nil, _ => .nil
  | _, _, .cons r t, f => .cons (f _ _ r) (Paired.mapP t f)
/-- what an object's description leans on: its own object, its own dict, the tuples -/
theorem ObjOk.stay (x : ObjOk P w H h a o) (k : ∀ b u, (b = a ∨ H b = some (.own a)) → h.get? b = some u → h'.get? b = some u)
    (ho : ∀ b, H b = some (.own a) → H' b = some (.own a)) (ht : ∀ b xs, H b = some (.tup xs) → H' b = some (.tup xs)) : ObjOk P w H' h' a o := by
  induction o with
  | lst xs => obtain ⟨z, its, n, r, e⟩ := x; exact ⟨z, its, n, r, k _ _ (.inl rfl) e⟩
  | tup xs => obtain ⟨z, its, r, ob, e, c⟩ := x; exact ⟨z, its, r, ob, k _ _ (.inl rfl) e, c⟩
  | dK kvs => obtain ⟨z, y, vs, r, ob, es, ep, e, c⟩ := x; exact ⟨z, y, vs, r, ob, es, ep, k _ _ (.inl rfl) e, c⟩
  | dT kvs =>
    obtain ⟨z, y, xs, r, ob, es, ep, e, c⟩ := x
    exact ⟨z, y, xs, Paired.mapP r fun p q z => ⟨z.1, ht _ _ z.2.1, z.2.2⟩, ob, es, ep, k _ _ (.inl rfl) e, c⟩
  | set S n => obtain ⟨ob, es, ep, t, e, c⟩ := x; exact ⟨ob, es, ep, t, k _ _ (.inl rfl) e, c⟩
  | ins C dx fs =>
    obtain ⟨d, z, ne, e, mA, ⟨od, es, ep, e2, c⟩, r⟩ := x
    exact ⟨ho _ d, z, ne, k _ _ (.inl rfl) e, mA, ⟨od, es, ep, k _ _ (.inr d) e2, c⟩, r⟩
  | own y => obtain ⟨ob, e⟩ := x; exact ⟨ob, k _ _ (.inl rfl) e⟩
  | xd fs => obtain ⟨mA, ⟨od, es, ep, e, c⟩, r⟩ := x; exact ⟨mA, ⟨od, es, ep, k _ _ (.inl rfl) e, c⟩, r⟩
  | rng lo hi => obtain ⟨t, u, v, e⟩ := x; exact ⟨t, u, v, k _ _ (.inl rfl) e⟩
  | frz ob u ih => obtain ⟨e, q⟩ := x; exact ⟨k _ _ (.inl rfl) e, ih q⟩
  | tbl ps =>
    have e : h.get? a = some { cls := .none, data := .fields ps } := x
    show h'.get? a = some { cls := .none, data := .fields ps }
    exact k a _ (.inl rfl) e
  | met f y =>
    have e : h.get? a = some (PySem.W.methodObj (.ref f) (.ref y)) := x
    show h'.get? a = some (PySem.W.methodObj (.ref f) (.ref y))
    exact k a _ (.inl rfl) e
  | ext φ => obtain ⟨p, ⟨o, e⟩, st⟩ := x; exact ⟨st _ _ p fun o q => k _ _ (.inl rfl) q, ⟨o, k _ _ (.inl rfl) e⟩, st⟩
theorem HOk.lt (x : HOk P w H h) (e : H a = some o) : a < h.objs.size := (x a o e).lt
theorem HOk.fresh (x : HOk P w H h) (e : h.objs.size ≤ a) : H a = none := by
  cases q : H a with
  | none => rfl
  | some u => exact absurd (Nat.lt_of_lt_of_le (x.lt q) e) (Nat.lt_irrefl _)
/-- every object of the heap is kept -/
theorem HOk.kept (x : HOk P w H h) (k : ∀ b u, h.get? b = some u → h'.get? b = some u) : HOk P w H h' := fun a o e =>
  (x a o e).stay (fun b u _ q => k b u q) (fun _ q => q) fun _ _ q => q
/-- a new object is laid and tracked -/
theorem HOk.laid (x : HOk P w H h) (k : ∀ b u, h.get? b = some u → h'.get? b = some u) (hp : h.objs.size ≤ a) (new : ObjOk P w (upd H a o) h' a o) : HOk P w (upd H a o) h' := fun b u e => by
  have hn := x.fresh hp
  by_cases hb : b = a
  · subst hb; rw [upd_same] at e; cases e; exact new
  · rw [upd_ne hb] at e
    exact (x b u e).stay (fun c v _ q => k c v q) (fun c q => by rw [upd_ne (ne_of_none q hn)]; exact q) fun c xs q => by rw [upd_ne (ne_of_none q hn)]; exact q
end

/-- what may be read as u: it is u, or a known u -/
noncomputable def Rd (H : Hp) (a : Addr) (u : HO) : Prop := H a = some u ∨ ∃ o, H a = some (.frz o u)
theorem Rd.ok {P : Program} {w : World} {H : Hp} {h : Heap} {a : Addr} {u : HO} (r : Rd H a u) (x : HOk P w H h) : ObjOk P w H h a u := by
  rcases r with r | ⟨o, r⟩
  · exact x a u r
  · obtain ⟨_, q⟩ := x a _ r
    exact q
/-- what may be written -/
noncomputable def Mut : Option HO → Prop
  | some (.lst _) => True
  | some (.dK _) => True
  | some (.dT _) => True
  | some (.set _ _) => True
  | some (.ins _ _ _) => True
  | some (.ext _) => True
  | _ => False
section
variable {P : Program} {w : World} {H : Hp} {h h' : Heap} {x e : Addr} {o' : HO}
/-- the object at e is changed: x itself, or the dict of the instance x -/
theorem HOk.write (ok : HOk P w H h) (mu : Mut (H x)) (he : e = x ∨ H e = some (.own x)) (k : ∀ b u, b ≠ e → h.get? b = some u → h'.get? b = some u) (heo : ∃ u, h'.get? e = some u)
    (new : ObjOk P w (upd H x o') h' x o') : HOk P w (upd H x o') h' := fun b u q => by
  have nown : ∀ c y, H c = some (.own y) → c ≠ x := fun c y r z => by subst z; rw [r] at mu; exact mu
  have ntup : ∀ c xs, H c = some (.tup xs) → c ≠ x := fun c xs r z => by subst z; rw [r] at mu; exact mu
  by_cases hb : b = x
  · subst hb; rw [upd_same] at q; cases q; exact new
  · rw [upd_ne hb] at q
    by_cases hbe : b = e
    · have q' : H b = some (.own x) := by
        rcases he with z | z
        · exact absurd (hbe.trans z) hb
        · rw [hbe]; exact z
      rw [q] at q'; cases q'
      obtain ⟨v, hv⟩ := heo
      exact ⟨v, by rw [hbe]; exact hv⟩
    · refine (ok b u q).stay (fun c v hc r => k c v ?_ r) (fun c r => by rw [upd_ne (nown c b r)]; exact r) fun c xs r => by rw [upd_ne (ntup c xs r)]; exact r
      rcases hc with rfl | hc
      · exact hbe
      · rintro rfl
        rcases he with z | z
        · exact nown c b hc z
        · rw [hc] at z; cases z; exact hb rfl
end

/-! ### kept unless tracked; of the frames at fs (the callers') the slots may change (an exception that passes writes there); of the records at ex (iterators) nothing is said -/
structure Un (fs ex : List Addr) (H H' : Hp) (h h' : Heap) : Prop where
  keep : ∀ b o, h.get? b = some o → H b = none → b ∉ fs → b ∉ ex → h'.get? b = some o
  slot : ∀ b o, h.get? b = some o → H b = none → b ∈ fs → b ∉ ex → ∃ sl, h'.get? b = some { o with slots := sl }
  free : ∀ b o, h.get? b = some o → H b = none → b ∉ ex → H' b = none
  there : ∀ b o, h.get? b = some o → b ∉ ex → ∃ o', h'.get? b = some o'
  tups : ∀ b xs, H b = some (.tup xs) → H' b = some (.tup xs)
  frzs : ∀ b o u, H b = some (.frz o u) → H' b = some (.frz o u)
  tbls : ∀ b ps, H b = some (.tbl ps) → ∃ more, H' b = some (.tbl (ps ++ more))
section
variable {fs fs' ex ex' : List Addr} {H H1 H2 : Hp} {h h1 h2 h' : Heap} {a x e : Addr} {o : HO}
theorem Un.any (u : Un fs ex H H1 h h1) {b : Addr} {ob : Obj} (q : h.get? b = some ob) (n : H b = none) (hx : b ∉ ex) : ∃ sl, h1.get? b = some { ob with slots := sl } := by
  by_cases hb : b ∈ fs
  · exact u.slot b ob q n hb hx
  · exact ⟨ob.slots, u.keep b ob q n hb hx⟩
theorem Un.kept (k : ∀ b u, h.get? b = some u → h'.get? b = some u) : Un fs ex H H h h' :=
  ⟨fun b ob q _ _ _ => k b ob q, fun b ob q _ _ _ => ⟨ob.slots, k b ob q⟩, fun _ _ _ n _ => n, fun b ob q _ => ⟨ob, k b ob q⟩, fun _ _ q => q, fun _ _ _ q => q, fun _ ps q => ⟨#[], by rw [q]; simp⟩⟩
theorem Un.refl : Un fs ex H H h h := Un.kept fun _ _ q => q
theorem Un.laid (k : ∀ b u, h.get? b = some u → h'.get? b = some u) (hp : h.objs.size ≤ a) (hn : H a = none) : Un fs ex H (upd H a o) h h' where
  keep := fun b u q _ _ _ => k b u q
  slot := fun b u q _ _ _ => ⟨u.slots, k b u q⟩
  free := fun b u q n _ => by rw [upd_ne (Nat.ne_of_lt (Nat.lt_of_lt_of_le (Heap.lt_size q) hp))]; exact n
  there := fun b u q _ => ⟨u, k b u q⟩
  tups := fun b xs q => by rw [upd_ne (ne_of_none q hn)]; exact q
  frzs := fun b u xs q => by rw [upd_ne (ne_of_none q hn)]; exact q
  tbls := fun b ps q => ⟨#[], by rw [upd_ne (ne_of_none q hn), q]; simp⟩
theorem Un.write (mu : Mut (H x)) (he : e = x ∨ H e = some (.own x)) (k : ∀ b u, b ≠ e → h.get? b = some u → h'.get? b = some u) (heo : ∃ u, h'.get? e = some u) : Un fs ex H (upd H x o) h h' := by
  have hx : ∀ b, H b = none → b ≠ x := fun b n z => by subst z; rw [n] at mu; exact mu
  have hb : ∀ b, H b = none → b ≠ e := fun b n z => by
    subst z
    rcases he with r | r
    · exact hx b n r
    · rw [n] at r; cases r
  have hm : ∀ b u, H b = some u → ¬ Mut (some u) → b ≠ x := fun b u q nm z => by subst z; rw [q] at mu; exact nm mu
  refine ⟨fun b u q n _ _ => k b u (hb b n) q, fun b u q n _ _ => ⟨u.slots, k b u (hb b n) q⟩, fun b u q n _ => by rw [upd_ne (hx b n)]; exact n, fun b u q _ => ?_,
    fun b xs q => by rw [upd_ne (hm b _ q fun z => z)]; exact q, fun b u xs q => by rw [upd_ne (hm b _ q fun z => z)]; exact q, fun b ps q => ⟨#[], by rw [upd_ne (hm b _ q fun z => z), q]; simp⟩⟩
  by_cases hbe : b = e
  · subst hbe; exact heo
  · exact ⟨u, k b u hbe q⟩
end

/-! ### the heap without what is tracked -/
noncomputable def trk (h : Heap) (H : Hp) : List Addr := (List.range h.objs.size).filter fun a => (H a).isSome
noncomputable def hidT (h : Heap) (H : Hp) : Heap := PySem.W.hideAll h (trk h H)
theorem hidT_size (h : Heap) (H : Hp) : (hidT h H).objs.size = h.objs.size := PySem.W.hideAll_size _ _
theorem hidT_get {h : Heap} {H : Hp} {b : Addr} {o : Obj} (e : h.get? b = some o) (n : H b = none) : (hidT h H).get? b = some o :=
  PySem.W.hideAll_get _ e fun hm => by
    have q : (H b).isSome = true := (List.mem_filter.mp hm).2
    rw [n] at q; simp at q
theorem of_hidT {h : Heap} {H : Hp} {b : Addr} {o : Obj} (e : (hidT h H).get? b = some o) : h.get? b = some o ∧ H b = none := by
  have e' : h.get? b = some o := PySem.W.of_hideAll (trk h H) e
  refine ⟨e', ?_⟩
  cases q : H b with
  | none => rfl
  | some x =>
    have hm : b ∈ trk h H := List.mem_filter.mpr ⟨List.mem_range.mpr (Heap.lt_size e'), by simp [q]⟩
    have z : (hidT h H).get? b = none := PySem.W.hideAll_none (trk h H) hm
    rw [z] at e; cases e

/-! ### OpenK's ledger, filled with every new object but one -/
noncomputable def allNews (g h : Heap) (L : Addr) : List (Addr × Obj) := (List.range h.objs.size).filterMap fun a => if a = L ∨ (g.get? a).isSome = true then none else (h.get? a).map fun o => (a, o)
noncomputable def rest (g h : Heap) (L d : Addr) : List (Addr × Obj) := (allNews g h L).filter fun p => decide (p.1 ≠ d)
end L2

namespace L2
open PySem PySem.Spec PyProof.Rows

/-- the module's facts, over the base: the heap at the law's entry without what is tracked there -/
structure Mod (K : PySem.W.Frag) (mg : Str → Option Value) (base : Heap) : Prop where
  kin : K.In base
  glob : base.Ns mainGlobals mg
  blt : ∃ mb, base.Ns builtinsNs mb ∧ ∀ x : Str, x ≠ "__name__" → mb x = bootBuiltins x
  nolimit : base.NoLimit

/-- the context: a def's body (or a comprehension's block) running. base: fixed through the whole law; s₀, H₀: the entry; outer: the frames whose slots others may change (a def's callers); stack: all frames that run;
   ex: iterators that were made ahead of the entry and are walked here (a comprehension's); fn: the names whose cells were made at the entry (a def: all; a comprehension's block: its own); calm: not within an except suite; pn: pins that every state bears; xe: what is wanted of an exception that leaves the code -/
structure Cx where
  prog : Program
  w : World
  K : PySem.W.Frag
  mg : Str → Option Value
  base : Heap
  A : Around
  N : List Str
  s0 : Shared
  H0 : Hp
  env : Env
  outer : List Env
  stack : List Env
  ex : List Addr
  fn : Str → Bool
  calm : Bool
  pn : List (Addr × Obj)
  xe : Value → Shared → Prop
/-- the callers' frames -/
noncomputable def frs (l : List Env) : List Addr := l.filterMap (·.frame)
noncomputable abbrev Cx.fs (X : Cx) : List Addr := frs X.outer

noncomputable def Vis (sc : Scope) (x : Str) : Prop := sc.names.lookup x = some .local ∨ sc.names.lookup x = some .cell ∨ sc.names.lookup x = some .free
noncomputable def Loc (sc : Scope) (x : Str) : Prop := sc.names.lookup x = some .local ∨ sc.names.lookup x = some .cell
noncomputable def Look (env : Env) (h : Heap) (m : Str → Option Value) (x : Str) (u : Value) : Prop :=
  (env.kindOf x = some .local ∧ m x = some u) ∨ ((env.kindOf x = some .cell ∨ env.kindOf x = some .free) ∧ ∃ c, env.cells.lookup x = some c ∧ h.IsCell c (some u))

structure Cx.Ok (X : Cx) : Prop where
  mod : Mod X.K X.mg X.base
  kind : X.env.scope.kind = .function
  glob : X.env.globals = mainGlobals
  blt : X.env.builtins = builtinsNs
  above : X.s0.heap.objs.size ≤ X.env.locals
  inj : ∀ x y c, X.env.cells.lookup x = some c → X.env.cells.lookup y = some c → x = y
  has : ∀ x, (X.env.kindOf x = some .cell ∨ X.env.kindOf x = some .free) → ∃ c, X.env.cells.lookup x = some c
  cab : ∀ x c, X.fn x = true → X.env.cells.lookup x = some c → X.s0.heap.objs.size ≤ c
  hd : X.calm = true → X.A.handled = none
  frames : X.A.frames = some X.stack
  stk : X.stack = X.outer ∨ (X.stack = X.env :: X.outer ∧ X.env.frame = some X.env.locals)
  exf : ∀ b ∈ X.ex, b ≠ X.env.locals ∧ ∀ x c, X.env.cells.lookup x = some c → c ≠ b
  bs : ∀ b o, X.base.get? b = some o → X.s0.heap.get? b = some o ∧ X.H0 b = none
  bsz : X.base.objs.size ≤ X.s0.heap.objs.size
  noex : ∀ b o, X.base.get? b = some o → b ∉ X.ex
  exfs : ∀ b ∈ X.ex, b ∉ X.fs
  funs : X.s0.heap.FunFrames X.base X.outer
  frf : ∀ b ∈ X.fs, X.H0 b = none

structure Inv (X : Cx) (pins : List (Addr × Obj)) (σ : List (Option V)) (H : Hp) (s : Shared) : Prop where
  ok : X.Ok
  os : s.os = X.s0.os
  bare : AllBare s.gens
  base : Un X.fs X.ex X.H0 H X.s0.heap s.heap
  loc : ∃ m, s.heap.Ns X.env.locals m ∧ ∀ (i : Nat) (x : Str) (v : V), X.N[i]? = some x → σ[i]? = some (some v) → Vis X.env.scope x → ∃ u, RelV v u ∧ Look X.env s.heap m x u
  cell : ∀ x c, X.env.cells.lookup x = some c → ∃ v, s.heap.IsCell c v
  free : H X.env.locals = none
  freeC : ∀ x c, X.env.cells.lookup x = some c → H c = none
  pin : ∀ p ∈ X.pn ++ pins, s.heap.get? p.1 = some p.2 ∧ H p.1 = none ∧ p.1 ≠ X.env.locals ∧ p.1 ∉ X.fs ∧ ∀ v, p.2.data ≠ .cell v
  hok : HOk X.prog X.w H s.heap
  len : σ.length = X.N.length

section
variable {X : Cx} {pins : List (Addr × Obj)} {σ : List (Option V)} {H H' : Hp} {s : Shared} {h' : Heap}

theorem Cx.Ok.nofr (ok : X.Ok) {b : Addr} {o : Obj} (e : X.base.get? b = some o) : b ∉ X.fs := fun hb => by
  have := (ok.funs.mem hb).1
  rw [e] at this; cases this
theorem Inv.bs (I : Inv X pins σ H s) : ∀ b o, X.base.get? b = some o → s.heap.get? b = some o ∧ H b = none := fun b o e =>
  ⟨I.base.keep b o (I.ok.bs b o e).1 (I.ok.bs b o e).2 (I.ok.nofr e) (I.ok.noex b o e), I.base.free b o (I.ok.bs b o e).1 (I.ok.bs b o e).2 (I.ok.noex b o e)⟩
theorem Inv.bk (I : Inv X pins σ H s) : ∀ b o, X.base.get? b = some o → s.heap.get? b = some o := fun b o e => (I.bs b o e).1
theorem Inv.mod (I : Inv X pins σ H s) : Mod X.K X.mg X.base := I.ok.mod
theorem Inv.kIn (I : Inv X pins σ H s) : X.K.In s.heap := I.ok.mod.kin.keeps I.bk
theorem Inv.lt (I : Inv X pins σ H s) : X.env.locals < s.heap.objs.size := let ⟨_, hn, _⟩ := I.loc; hn.lt
theorem Inv.sz (I : Inv X pins σ H s) : X.s0.heap.objs.size ≤ s.heap.objs.size := Nat.le_trans I.ok.above (Nat.le_of_lt I.lt)
theorem Inv.nofs (I : Inv X pins σ H s) {a : Addr} (h : s.heap.objs.size ≤ a) : a ∉ X.fs := fun hb => by
  obtain ⟨_, o, ho, _⟩ := I.ok.funs.mem hb
  exact absurd (Nat.lt_of_lt_of_le (Heap.lt_size ho) (Nat.le_trans I.sz h)) (Nat.lt_irrefl _)
theorem Inv.cne (I : Inv X pins σ H s) : ∀ x c, X.env.cells.lookup x = some c → c ≠ X.env.locals := fun x c e z => by
  obtain ⟨v, o, ho, hd⟩ := I.cell x c e
  obtain ⟨m, ⟨o', es, ep, ho', hd', _⟩, _⟩ := I.loc
  rw [z, ho'] at ho; cases ho; rw [hd'] at hd; cases hd
theorem Inv.funs (I : Inv X pins σ H s) : s.heap.FunFrames X.base X.outer := by
  have all : ∀ (l : List Env), (∀ b ∈ frs l, b ∈ X.fs) → X.s0.heap.FunFrames X.base l → s.heap.FunFrames X.base l := by
    intro l
    induction l with
    | nil => intro _ _; trivial
    | cons env r ih =>
      intro hs hl
      obtain ⟨hk, ⟨L, o, hf, hn, ho, hd⟩, hr⟩ := hl
      have hL : L ∈ X.fs := hs L (by unfold frs; rw [List.filterMap_cons, hf]; exact List.mem_cons_self)
      obtain ⟨sl, e⟩ := I.base.slot L o ho (I.ok.frf L hL) hL fun z => I.ok.exfs L z hL
      exact ⟨hk, ⟨L, _, hf, hn, e, hd⟩, ih (fun b hb => hs b (by unfold frs; rw [List.filterMap_cons, hf]; exact List.mem_cons_of_mem _ hb)) hr⟩
  exact all X.outer (fun _ hb => hb) I.ok.funs

/-- the frames that run, for a call -/
theorem Inv.stack (I : Inv X pins σ H s) : s.heap.FunFrames X.base X.stack := by
  rcases I.ok.stk with e | ⟨e, hf⟩
  · rw [e]; exact I.funs
  · rw [e]
    obtain ⟨m, hn, _⟩ := I.loc
    refine .cons (by rw [I.ok.kind]; decide) hf hn ?_ I.funs
    exact Heap.get?_none_of_le (Nat.le_trans I.ok.bsz I.ok.above)
theorem Inv.stkSub (I : Inv X pins σ H s) : ∀ b ∈ frs X.stack, b ∈ X.env.locals :: X.fs := fun b hb => by
  rcases I.ok.stk with e | ⟨e, hf⟩
  · rw [e] at hb; exact List.mem_cons_of_mem _ hb
  · rw [e] at hb
    unfold frs at hb
    rw [List.filterMap_cons, hf] at hb
    exact hb
theorem Inv.stkFree (I : Inv X pins σ H s) : ∀ b ∈ frs X.stack, H b = none := fun b hb => by
  rcases List.mem_cons.mp (I.stkSub b hb) with e | hb
  · rw [e]; exact I.free
  · obtain ⟨_, o, ho, _⟩ := I.ok.funs.mem hb
    exact I.base.free b o ho (I.ok.frf b hb) fun z => I.ok.exfs b z hb

/-- THE STEP: the untracked objects but the frame and the records at ch are kept (the callers' frames up to slots), the frame's map is kept, the new abstract heap is held -/
theorem Inv.step {g' : Array GenState} {t' : Nat} {d' : Drawn} {ch : List Addr} (I : Inv X pins σ H s)
    (hch : ∀ b ∈ ch, (b ∈ X.ex ∨ X.s0.heap.objs.size ≤ b) ∧ b ≠ X.env.locals ∧ (∀ x c, X.env.cells.lookup x = some c → c ≠ b) ∧ ∀ p ∈ X.pn ++ pins, p.1 ≠ b)
    (keep : ∀ b o, b ≠ X.env.locals → b ∉ X.fs → b ∉ ch → s.heap.get? b = some o → H b = none → h'.get? b = some o)
    (slot : ∀ b o, b ≠ X.env.locals → b ∈ X.fs → b ∉ ch → s.heap.get? b = some o → H b = none → ∃ sl, h'.get? b = some { o with slots := sl }) (free : ∀ b o, b ∉ ch → s.heap.get? b = some o → H b = none → H' b = none)
    (there : ∀ b o, b ∉ ch → s.heap.get? b = some o → ∃ o', h'.get? b = some o')
    (tups : ∀ b xs, H b = some (.tup xs) → H' b = some (.tup xs)) (frzs : ∀ b o u, H b = some (.frz o u) → H' b = some (.frz o u)) (tbls : ∀ b ps, H b = some (.tbl ps) → ∃ more, H' b = some (.tbl (ps ++ more)))
    (ns : ∀ m, s.heap.Ns X.env.locals m → h'.Ns X.env.locals m) (hok : HOk X.prog X.w H' h') (hg : AllBare g') :
    Inv X pins σ H' { s with heap := h', gens := g', drawn := d', toks := t' } := by
  have neL : ∀ b o, X.s0.heap.get? b = some o → b ≠ X.env.locals := fun b o e => Nat.ne_of_lt (Nat.lt_of_lt_of_le (Heap.lt_size e) I.ok.above)
  have neC : ∀ b o, X.s0.heap.get? b = some o → b ∉ X.ex → b ∉ ch := fun b o e hx hb => by
    rcases (hch b hb).1 with z | z
    · exact hx z
    · exact absurd (Nat.lt_of_lt_of_le (Heap.lt_size e) z) (Nat.lt_irrefl _)
  have cellK : ∀ x c, X.env.cells.lookup x = some c → ∀ v, s.heap.IsCell c v → h'.IsCell c v := fun x c e v ⟨o, ho, hd⟩ => by
    have nch : c ∉ ch := fun z => (hch c z).2.2.1 x c e rfl
    by_cases hc : c ∈ X.fs
    · obtain ⟨sl, q⟩ := slot c o (I.cne x c e) hc nch ho (I.freeC x c e)
      exact ⟨_, q, hd⟩
    · exact ⟨o, keep c o (I.cne x c e) hc nch ho (I.freeC x c e), hd⟩
  refine ⟨I.ok, I.os, hg, ⟨fun b o e n hb hx => ?_, fun b o e n hb hx => ?_, fun b o e n hx => ?_, fun b o e hx => ?_, fun b xs e => tups b xs (I.base.tups b xs e), fun b o xs e => frzs b o xs (I.base.frzs b o xs e), fun b ps e => ?_⟩, ?_, fun x c e => ?_, ?_, fun x c e => ?_, fun p hp => ?_, hok, I.len⟩
  · exact keep b o (neL b o e) hb (neC b o e hx) (I.base.keep b o e n hb hx) (I.base.free b o e n hx)
  · obtain ⟨sl, e1⟩ := I.base.slot b o e n hb hx
    obtain ⟨sl', e2⟩ := slot b _ (neL b o e) hb (neC b o e hx) e1 (I.base.free b o e n hx)
    exact ⟨sl', e2⟩
  · obtain ⟨o', e1⟩ := I.base.there b o e hx
    exact free b o' (neC b o e hx) e1 (I.base.free b o e n hx)
  · obtain ⟨o', e1⟩ := I.base.there b o e hx
    exact there b o' (neC b o e hx) e1
  · obtain ⟨m1, e1⟩ := I.base.tbls b ps e
    obtain ⟨m2, e2⟩ := tbls b _ e1
    exact ⟨m1 ++ m2, by rw [e2, Array.append_assoc]⟩
  · obtain ⟨m, hn, hl⟩ := I.loc
    refine ⟨m, ns m hn, fun i x v e1 e2 e3 => ?_⟩
    obtain ⟨u, r, l⟩ := hl i x v e1 e2 e3
    refine ⟨u, r, ?_⟩
    rcases l with l | ⟨k, c, e, z⟩
    · exact .inl l
    · exact .inr ⟨k, c, e, cellK x c e _ z⟩
  · obtain ⟨v, z⟩ := I.cell x c e
    exact ⟨v, cellK x c e v z⟩
  · obtain ⟨m, ⟨o, _, _, ho, _⟩, _⟩ := I.loc
    exact free _ o (fun z => (hch _ z).2.1 rfl) ho I.free
  · obtain ⟨v, o, ho, hd⟩ := I.cell x c e
    exact free c o (fun z => (hch c z).2.2.1 x c e rfl) ho (I.freeC x c e)
  · obtain ⟨e, n, ne, nf, d⟩ := I.pin p hp
    have nch : p.1 ∉ ch := fun z => (hch p.1 z).2.2.2 p hp rfl
    exact ⟨keep p.1 p.2 ne nf nch e n, free p.1 p.2 nch e n, ne, nf, d⟩
/-- .. where the frame's own object is kept too -/
theorem Inv.un {t' : Nat} (I : Inv X pins σ H s) (u : Un X.fs [] H H' s.heap h') (hok : HOk X.prog X.w H' h') : Inv X pins σ H' { s with heap := h', toks := t' } := by
  obtain ⟨m, ⟨o, es, ep, ho, r⟩, _⟩ := id I.loc
  obtain ⟨sl, hL⟩ := u.any ho I.free (by simp)
  exact I.step (g' := s.gens) (d' := s.drawn) (ch := []) (fun _ z => nomatch z) (fun b o _ hb _ e n => u.keep b o e n hb (by simp)) (fun b o _ hb _ e n => u.slot b o e n hb (by simp)) (fun b o _ e n => u.free b o e n (by simp)) (fun b o _ e => u.there b o e (by simp)) u.tups u.frzs u.tbls (fun m' hm => by
    obtain ⟨o', es', ep', ho', r'⟩ := hm
    rw [ho] at ho'; cases ho'
    exact ⟨_, es', ep', hL, r'⟩) hok I.bare
/-- behind a call (or a comprehension's block): the slots of this frame may have changed too, the records at ch may have turned -/
theorem Inv.call {g' : Array GenState} {t' : Nat} {d' : Drawn} {ch : List Addr} (I : Inv X pins σ H s) (u : Un (frs X.stack) ch H H' s.heap h') (hok : HOk X.prog X.w H' h') (hg : AllBare g')
    (hch : ∀ b ∈ ch, (b ∈ X.ex ∨ X.s0.heap.objs.size ≤ b) ∧ b ≠ X.env.locals ∧ (∀ x c, X.env.cells.lookup x = some c → c ≠ b) ∧ ∀ p ∈ X.pn ++ pins, p.1 ≠ b) :
    Inv X pins σ H' { s with heap := h', gens := g', drawn := d', toks := t' } := by
  obtain ⟨m, ⟨o, es, ep, ho, r⟩, _⟩ := id I.loc
  obtain ⟨sl, hL⟩ := u.any ho I.free fun z => (hch _ z).2.1 rfl
  exact I.step (ch := ch) hch (fun b o hL hb hc e n => u.keep b o e n (fun z => (List.mem_cons.mp (I.stkSub b z)).elim hL hb) hc) (fun b o _ _ hc e n => u.any e n hc) (fun b o hc e n => u.free b o e n hc) (fun b o hc e => u.there b o e hc) u.tups u.frzs u.tbls (fun m' hm => by
    obtain ⟨o', es', ep', ho', r'⟩ := hm
    rw [ho] at ho'; cases ho'
    exact ⟨_, es', ep', hL, r'⟩) hok hg
/-- an untracked record of ours (an iterator) has turned -/
theorem Inv.turned {t' : Nat} {it : Addr} (I : Inv X pins σ H s) (k : ∀ b o, b ≠ it → s.heap.get? b = some o → h'.get? b = some o) (hn : H it = none) (hL : it ≠ X.env.locals)
    (h1 : it ∈ X.ex ∨ X.s0.heap.objs.size ≤ it) (h2 : ∀ x c, X.env.cells.lookup x = some c → c ≠ it) (h3 : ∀ p ∈ X.pn ++ pins, p.1 ≠ it) : Inv X pins σ H { s with heap := h', toks := t' } := by
  have nit : ∀ b u, H b = some u → b ≠ it := fun b u e z => by rw [z, hn] at e; cases e
  refine I.step (g' := s.gens) (d' := s.drawn) (ch := [it]) (fun b hb => ?_) (fun b o _ _ hc e _ => k b o (fun z => hc (by simp [z])) e) (fun b o _ _ hc e _ => ⟨o.slots, k b o (fun z => hc (by simp [z])) e⟩) (fun _ _ _ _ n => n)
    (fun b o hc e => ⟨o, k b o (fun z => hc (by simp [z])) e⟩) (fun _ _ e => e) (fun _ _ _ e => e) (fun b ps e => ⟨#[], by rw [e]; simp⟩) (fun m hm => ?_) (fun b u e => ?_) I.bare
  · have e : b = it := by simpa using hb
    subst e
    exact ⟨h1, hL, h2, h3⟩
  · obtain ⟨o, es, ep, ho, r⟩ := hm
    exact ⟨o, es, ep, k _ o (Ne.symm hL) ho, r⟩
  · refine (I.hok b u e).stay (fun c v hc q => k c v ?_ q) (fun _ q => q) fun _ _ q => q
    rcases hc with z | z
    · rw [z]; exact nit b u e
    · exact nit c _ z
theorem Inv.tok (I : Inv X pins σ H s) (t : Nat) : Inv X pins σ H { s with toks := t } := I.un (h' := s.heap) (t' := t) Un.refl I.hok
/-- all objects kept -/
theorem Inv.kept {t' : Nat} (I : Inv X pins σ H s) (k : ∀ b u, s.heap.get? b = some u → h'.get? b = some u) : Inv X pins σ H { s with heap := h', toks := t' } := I.un (Un.kept k) (I.hok.kept k)
/-- a new object laid and tracked -/
theorem Inv.laid {a : Addr} {o : HO} {t' : Nat} (I : Inv X pins σ H s) (k : ∀ b u, s.heap.get? b = some u → h'.get? b = some u) (hp : s.heap.objs.size ≤ a) (new : ObjOk X.prog X.w (upd H a o) h' a o) :
    Inv X pins σ (upd H a o) { s with heap := h', toks := t' } := I.un (Un.laid k hp (I.hok.fresh hp)) (I.hok.laid k hp new)
/-- an object written -/
theorem Inv.write {x e : Addr} {o : HO} {t' : Nat} (I : Inv X pins σ H s) (mu : Mut (H x)) (he : e = x ∨ H e = some (.own x)) (k : ∀ b u, b ≠ e → s.heap.get? b = some u → h'.get? b = some u) (heo : ∃ u, h'.get? e = some u)
    (new : ObjOk X.prog X.w (upd H x o) h' x o) : Inv X pins σ (upd H x o) { s with heap := h', toks := t' } := I.un (Un.write mu he k heo) (I.hok.write mu he k heo new)
theorem Inv.pins_of {pins' : List (Addr × Obj)} (I : Inv X pins σ H s) (h : ∀ p ∈ pins', s.heap.get? p.1 = some p.2 ∧ H p.1 = none ∧ p.1 ≠ X.env.locals ∧ p.1 ∉ X.fs ∧ ∀ v, p.2.data ≠ .cell v) : Inv X pins' σ H s :=
  ⟨I.ok, I.os, I.bare, I.base, I.loc, I.cell, I.free, I.freeC, fun p hp => (List.mem_append.mp hp).elim (fun z => I.pin p (List.mem_append_left _ z)) (h p), I.hok, I.len⟩

theorem nodup_ix {N : List Str} (hN : N.Nodup) {i j : Nat} {x : Str} (a : N[i]? = some x) (b : N[j]? = some x) : i = j := by
  obtain ⟨h1, e1⟩ := List.getElem?_eq_some_iff.mp a
  obtain ⟨h2, e2⟩ := List.getElem?_eq_some_iff.mp b
  exact (List.getElem_inj hN).mp (e1.trans e2.symm)

/-- a name is stored; what changed -/
theorem store_ok2 {M : Model} {A : Around} {E : Value → Shared → Prop} {i : Nat} {x : Str} {v : V} {u : Value} {Q : Unit → Shared → Prop} (I : Inv X pins σ H s) (hN : X.N.Nodup) (hi : X.N[i]? = some x) (hx : Loc X.env.scope x) (r : RelV v u)
    (h : ∀ s', Inv X pins (σ.set i (some v)) H s' → (∃ a, Heap.SameBut a s.heap s'.heap ∧ (a = X.env.locals ∨ X.env.cells.lookup x = some a)) → Q () s') (hf : X.fn x = true ∨ X.env.scope.names.lookup x = some .local := by first | exact .inl rfl | exact .inr rfl | assumption) : wpAny M A (storeName X.env x u) Q E s := by
  obtain ⟨m, hn, hl⟩ := id I.loc
  have hcls : (X.env.scope.kind == .class || (X.env.scope.kind == .module && X.env.locals != X.env.globals)) = false := by rw [I.ok.kind]; rfl
  have hiσ : i < σ.length := by rw [I.len]; exact (List.getElem?_eq_some_iff.mp hi).1
  have cne := I.cne
  have tracked : ∀ {a : Addr} {h' : Heap}, (∃ o, s.heap.get? a = some o ∧ H a = none) → Heap.SameBut a s.heap h' → HOk X.prog X.w H h' := fun {a h'} ha hs b ob e => by
    obtain ⟨_, _, hfree⟩ := ha
    refine (I.hok b ob e).stay (fun c w' hc q => (hs.2 c ?_).trans q) (fun _ q => q) fun _ _ q => q
    rintro rfl
    rcases hc with rfl | hc
    · rw [hfree] at e; cases e
    · rw [hfree] at hc; cases hc
  rcases hx with hk | hk
  · refine wpAny_storeName_local hk hn (fun h' hn' hs => ?_) hcls
    obtain ⟨oL, _, _, hoL, _⟩ := id hn
    refine h _ ⟨I.ok, I.os, I.bare, ⟨fun b o e n hb hx => ?_, fun b o e n hb hx => ?_, I.base.free, fun b o e hx => ?_, I.base.tups, I.base.frzs, I.base.tbls⟩, ⟨_, hn', fun j y v' e1 e2 e3 => ?_⟩, fun y c e => ?_, I.free, I.freeC, fun p hp => ?_, tracked ⟨oL, hoL, I.free⟩ hs, by simpa using I.len⟩ ⟨_, hs, .inl rfl⟩
    · exact (hs.2 b (Nat.ne_of_lt (Nat.lt_of_lt_of_le (Heap.lt_size e) I.ok.above))).trans (I.base.keep b o e n hb hx)
    · obtain ⟨sl, e1⟩ := I.base.slot b o e n hb hx
      exact ⟨sl, (hs.2 b (Nat.ne_of_lt (Nat.lt_of_lt_of_le (Heap.lt_size e) I.ok.above))).trans e1⟩
    · obtain ⟨o', e1⟩ := I.base.there b o e hx
      exact ⟨o', (hs.2 b (Nat.ne_of_lt (Nat.lt_of_lt_of_le (Heap.lt_size e) I.ok.above))).trans e1⟩
    · by_cases hj : j = i
      · subst hj
        rw [hi] at e1; cases e1
        rw [List.getElem?_set_self hiσ] at e2
        cases e2
        exact ⟨u, r, .inl ⟨hk, by simp⟩⟩
      · rw [List.getElem?_set_ne (Ne.symm hj)] at e2
        obtain ⟨u', r', q⟩ := hl j y v' e1 e2 e3
        refine ⟨u', r', ?_⟩
        rcases q with ⟨k, e⟩ | ⟨k, c, e, z⟩
        · refine .inl ⟨k, ?_⟩
          have : y ≠ x := fun e => hj (nodup_ix hN e1 (e ▸ hi))
          simp [this, e]
        · exact .inr ⟨k, c, e, z.sameBut hs (cne y c e)⟩
    · obtain ⟨w', z⟩ := I.cell y c e
      exact ⟨w', z.sameBut hs (cne y c e)⟩
    · obtain ⟨e, n, ne, nf, d⟩ := I.pin p hp
      exact ⟨(hs.2 p.1 ne).trans e, n, ne, nf, d⟩
  · have hfn : X.fn x = true := by
      rcases hf with z | z
      · exact z
      · rw [z] at hk; cases hk
    obtain ⟨c, hc⟩ := I.ok.has x (.inl hk)
    obtain ⟨w', z⟩ := I.cell x c hc
    refine wpAny_storeName_cell I.ok.kind hk hc z (fun h' hc' hs => ?_)
    obtain ⟨oc, hoc, hocd⟩ := id z
    refine h { s with heap := h' } ⟨I.ok, I.os, I.bare, ⟨fun b o e n hb hx => ?_, fun b o e n hb hx => ?_, I.base.free, fun b o e hx => ?_, I.base.tups, I.base.frzs, I.base.tbls⟩, ⟨m, hn.sameBut hs (Ne.symm (cne x c hc)), fun j y v' e1 e2 e3 => ?_⟩, fun y c' e => ?_, I.free, I.freeC, fun p hp => ?_, tracked ⟨oc, hoc, I.freeC x c hc⟩ hs, by simpa using I.len⟩ ⟨c, hs, .inr hc⟩
    · exact (hs.2 b (Nat.ne_of_lt (Nat.lt_of_lt_of_le (Heap.lt_size e) (I.ok.cab x c hfn hc)))).trans (I.base.keep b o e n hb hx)
    · obtain ⟨sl, e1⟩ := I.base.slot b o e n hb hx
      exact ⟨sl, (hs.2 b (Nat.ne_of_lt (Nat.lt_of_lt_of_le (Heap.lt_size e) (I.ok.cab x c hfn hc)))).trans e1⟩
    · obtain ⟨o', e1⟩ := I.base.there b o e hx
      exact ⟨o', (hs.2 b (Nat.ne_of_lt (Nat.lt_of_lt_of_le (Heap.lt_size e) (I.ok.cab x c hfn hc)))).trans e1⟩
    · by_cases hj : j = i
      · subst hj
        rw [hi] at e1; cases e1
        rw [List.getElem?_set_self hiσ] at e2
        cases e2
        exact ⟨u, r, .inr ⟨.inl hk, c, hc, hc'⟩⟩
      · rw [List.getElem?_set_ne (Ne.symm hj)] at e2
        obtain ⟨u', r', q⟩ := hl j y v' e1 e2 e3
        refine ⟨u', r', ?_⟩
        rcases q with q | ⟨k, c', e, z'⟩
        · exact .inl q
        · refine .inr ⟨k, c', e, z'.sameBut hs ?_⟩
          rintro rfl
          exact hj (nodup_ix hN e1 (I.ok.inj _ _ _ e hc ▸ hi))
    · by_cases hcc : c' = c
      · subst hcc; exact ⟨_, hc'⟩
      · obtain ⟨w2, z2⟩ := I.cell y c' e
        exact ⟨w2, z2.sameBut hs hcc⟩
    · obtain ⟨e, n, ne, nf, d⟩ := I.pin p hp
      refine ⟨(hs.2 p.1 ?_).trans e, n, ne, nf, d⟩
      intro q
      rw [q, hoc] at e
      have q' : oc = p.2 := Option.some.inj e
      exact d w' (by rw [← q']; exact hocd)
theorem store_ok {M : Model} {A : Around} {E : Value → Shared → Prop} {i : Nat} {x : Str} {v : V} {u : Value} {Q : Unit → Shared → Prop} (I : Inv X pins σ H s) (hN : X.N.Nodup) (hi : X.N[i]? = some x) (hx : Loc X.env.scope x) (r : RelV v u)
    (h : ∀ s', Inv X pins (σ.set i (some v)) H s' → Q () s') (hf : X.fn x = true ∨ X.env.scope.names.lookup x = some .local := by first | exact .inl rfl | exact .inr rfl | assumption) : wpAny M A (storeName X.env x u) Q E s :=
  store_ok2 I hN hi hx r (fun s' I' _ => h s' I') hf
/-- behind a call or a block, the state as it is -/
theorem Inv.call' {s' : Shared} {ch : List Addr} (I : Inv X pins σ H s) (ho : s'.os = s.os) (u : Un (frs X.stack) ch H H' s.heap s'.heap) (hok : HOk X.prog X.w H' s'.heap) (hg : AllBare s'.gens)
    (hch : ∀ b ∈ ch, (b ∈ X.ex ∨ X.s0.heap.objs.size ≤ b) ∧ b ≠ X.env.locals ∧ (∀ x c, X.env.cells.lookup x = some c → c ≠ b) ∧ ∀ p ∈ X.pn ++ pins, p.1 ≠ b) : Inv X pins σ H' s' := by
  obtain ⟨h', g', d', t', o'⟩ := s'
  have e : o' = s.os := ho
  subst e
  exact I.call (g' := g') (t' := t') (d' := d') u hok hg hch
end

/-! ### the judgements -/
/-- an exception: its class, its own dict's address (where it has one), the abstract heap behind it -/
noncomputable abbrev XK := Value → Option Addr → Hp → Prop
noncomputable abbrev St := List (Option V)
noncomputable abbrev VK := V → Hp → Prop
/-- an expression's reading; a test's; an argument list's -/
noncomputable abbrev TE := St → Hp → VK → Prop
noncomputable abbrev TT := St → Hp → (Bool → Hp → Prop) → Prop
noncomputable abbrev TA := St → Hp → (List V → Hp → Prop) → Prop
/-- what is wanted behind a statement -/
structure Ends where
  nx : St → Hp → Prop
  rt : VK
  bk : St → Hp → Prop := fun _ _ => False
  ct : St → Hp → Prop := fun _ _ => False
noncomputable abbrev TS := Ends → St → Hp → Prop

noncomputable def EP (X : Cx) (pins : List (Addr × Obj)) (σ : St) (Q : VK) (u : Value) (s' : Shared) : Prop := ∃ v H', Inv X pins σ H' s' ∧ RelV v u ∧ Q v H'
noncomputable def TP (X : Cx) (pins : List (Addr × Obj)) (σ : St) (Q : Bool → Hp → Prop) (b : Bool) (s' : Shared) : Prop := ∃ H', Inv X pins σ H' s' ∧ Q b H'
noncomputable def AP (X : Cx) (pins : List (Addr × Obj)) (σ : St) (Q : List V → Hp → Prop) (us : List Value) (s' : Shared) : Prop := ∃ vs H', Inv X pins σ H' s' ∧ Vals vs us ∧ Q vs H'
noncomputable def SP (X : Cx) (pins : List (Addr × Obj)) (D : Ends) (f : Flow) (s' : Shared) : Prop :=
  match f with
  | .next => ∃ σ' H', Inv X pins σ' H' s' ∧ D.nx σ' H'
  | .brk => ∃ σ' H', Inv X pins σ' H' s' ∧ D.bk σ' H'
  | .cont => ∃ σ' H', Inv X pins σ' H' s' ∧ D.ct σ' H'
  | .ret u => ∃ v σ' H', Inv X pins σ' H' s' ∧ RelV v u ∧ D.rt v H'

noncomputable def PE (X : Cx) (e : Expr) (t : TE) : Prop :=
  ∀ (pins : List (Addr × Obj)) (s : Shared) (σ : St) (H : Hp) (Q : VK), Inv X pins σ H s → t σ H Q → wpAny (model X.prog X.w) X.A (eval e X.env) (EP X pins σ Q) X.xe s
noncomputable def PT (X : Cx) (e : Expr) (t : TT) : Prop :=
  ∀ (pins : List (Addr × Obj)) (s : Shared) (σ : St) (H : Hp) (Q : Bool → Hp → Prop), Inv X pins σ H s → t σ H Q → wpAny (model X.prog X.w) X.A (isTrue e X.env (eval e X.env)) (TP X pins σ Q) X.xe s
/-- a test whatever its 'whole' is (and, or) -/
noncomputable def PW (X : Cx) (e : Expr) (t : TT) : Prop :=
  ∀ (whole : Sem Value) (pins : List (Addr × Obj)) (s : Shared) (σ : St) (H : Hp) (Q : Bool → Hp → Prop), Inv X pins σ H s → t σ H Q → wpAny (model X.prog X.w) X.A (isTrue e X.env whole) (TP X pins σ Q) X.xe s
theorem PW.pt {X : Cx} {e : Expr} {t : TT} (h : PW X e t) : PT X e t := h _
/-- an argument list (no star), from the left -/
noncomputable def PA (X : Cx) (es : List Expr) (t : TA) : Prop :=
  ∀ (pos : Pos) (pins : List (Addr × Obj)) (s : Shared) (σ : St) (H : Hp) (Q : List V → Hp → Prop), Inv X pins σ H s → t σ H Q → wpAny (model X.prog X.w) X.A (spliced (backTo pos (starEach es X.env))) (AP X pins σ Q) X.xe s
noncomputable def PS (X : Cx) (st : Stmt) (t : TS) : Prop :=
  ∀ (pins : List (Addr × Obj)) (s : Shared) (σ : St) (H : Hp) (D : Ends), Inv X pins σ H s → t D σ H → wpAny (model X.prog X.w) X.A (exec st X.env) (SP X pins D) X.xe s
noncomputable def PSs (X : Cx) (st : List Stmt) (t : TS) : Prop :=
  ∀ (pins : List (Addr × Obj)) (s : Shared) (σ : St) (H : Hp) (D : Ends), Inv X pins σ H s → t D σ H → wpAny (model X.prog X.w) X.A (execs st X.env) (SP X pins D) X.xe s
/-- weaken the end -/
theorem thn {α : Type} {t : Sem α} {Q Q' : α → Shared → Prop} {M : Model} {A : Around} {E : Value → Shared → Prop} {s : Shared} (h : wpAny M A t Q E s) (hQ : ∀ a s, Q a s → Q' a s) : wpAny M A t Q' E s := wpAny_mono h hQ fun _ _ x => x
end L2

namespace L2
open PySem PySem.Spec PyProof.Rows
section
variable {X : Cx}

/-! ### names and constants -/
noncomputable def tVar (i : Nat) : TE := fun σ H Q => ∃ v, σ[i]? = some (some v) ∧ Q v H
noncomputable def tC (v : V) : TE := fun _ H Q => Q v H
theorem pe_var {i : Nat} {x : Str} {pos : Pos} (hN : X.N[i]? = some x) (hv : Vis X.env.scope x) (hd : (x == ("__debug__" : Str)) = false := by decide) (hcd : (x == ("__classdict__" : Str)) = false := by decide) : PE X (.Name x pos) (tVar i) := by
  intro pins s σ H Q I h
  obtain ⟨v, e, h⟩ := h
  obtain ⟨m, hn, hl⟩ := I.loc
  obtain ⟨u, r, l⟩ := hl i x v hN e hv
  have fin : EP X pins σ Q u s := ⟨v, H, I, r, h⟩
  rcases l with ⟨hk, hm⟩ | ⟨hk, c, hc, hcell⟩
  · exact wpAny_Name (wpAny_loadName_local I.ok.kind hk hn hm fin) hd
  · rcases hk with hk | hk
    · exact wpAny_Name (wpAny_loadName_cell I.ok.kind hk hc hcell fin) hd
    · exact wpAny_Name (wpAny_loadName_free I.ok.kind hk hc hcell fin hcd) hd
theorem pe_int {i j pos} : PE X (.Constant (.int i) j pos) (tC (.int i)) := fun _ _ _ H _ I h => wpAny_Constant_int ⟨.int i, H, I.tok _, ⟨_, rfl⟩, h⟩
theorem pe_bl {b j pos} : PE X (.Constant (.bool b) j pos) (tC (.bl b)) := fun _ _ _ H _ I h => Constant_bool ⟨.bl b, H, I, rfl, h⟩
theorem pe_non {j pos} : PE X (.Constant .none j pos) (tC .non) := fun _ _ _ H _ I h => Constant_none ⟨.non, H, I, rfl, h⟩
/-- a global name of the def -/
noncomputable def Gl (X : Cx) (x : Str) : Prop := X.env.kindOf x = some .globalImplicit
theorem ld_glob {E : Value → Shared → Prop} {pins : List (Addr × Obj)} {s : Shared} {σ : St} {H : Hp} {x : Str} {u : Value} {pos : Pos} {Q : Value → Shared → Prop} (I : Inv X pins σ H s) (hg : Gl X x) (hm : X.mg x = some u) (h : Q u s)
    (hd : (x == ("__debug__" : Str)) = false := by decide) : wpAny (model X.prog X.w) X.A (eval (.Name x pos) X.env) Q E s :=
  Calls.Name_function_global I.ok.kind hg (Calls.loadGlobal_global (by rw [I.ok.glob]; exact I.mod.glob.keeps I.bk) hm h) hd
theorem ld_blt {E : Value → Shared → Prop} {pins : List (Addr × Obj)} {s : Shared} {σ : St} {H : Hp} {x : Str} {u : Value} {pos : Pos} {Q : Value → Shared → Prop} (I : Inv X pins σ H s) (hg : Gl X x) (hm : X.mg x = none) (hv : bootBuiltins x = some u) (h : Q u s)
    (hn : x ≠ "__name__" := by decide) (hd : (x == ("__debug__" : Str)) = false := by decide) : wpAny (model X.prog X.w) X.A (eval (.Name x pos) X.env) Q E s := by
  obtain ⟨mb, h1, h2⟩ := I.mod.blt
  exact Calls.Name_function_global I.ok.kind hg (Calls.loadGlobal_builtin (by rw [I.ok.glob]; exact I.mod.glob.keeps I.bk) hm (by rw [I.ok.blt]; exact h1.keeps I.bk) ((h2 x hn).trans hv) h) hd
/-- a module's constant, a class, a function, as a value -/
theorem pe_glob {x : Str} {v : V} {u : Value} {pos : Pos} (hg : Gl X x) (hm : X.mg x = some u) (r : RelV v u) (hd : (x == ("__debug__" : Str)) = false := by decide) : PE X (.Name x pos) (tC v) :=
  fun _ _ _ H _ I h => ld_glob I hg hm ⟨v, H, I, r, h⟩ hd
theorem pe_bltn {x : Str} {v : V} {u : Value} {pos : Pos} (hg : Gl X x) (hm : X.mg x = none) (hv : bootBuiltins x = some u) (r : RelV v u) (hn : x ≠ "__name__" := by decide) (hd : (x == ("__debug__" : Str)) = false := by decide) : PE X (.Name x pos) (tC v) :=
  fun _ _ _ H _ I h => ld_blt I hg hm hv ⟨v, H, I, r, h⟩ hn hd

/-! ### arithmetic -/
/-- two ints -/
noncomputable def t2I (ta tb : TE) (k : Int → Int → Hp → Prop) : St → Hp → Prop := fun σ H => ta σ H fun x H1 => tb σ H1 fun y H2 => ∃ i j, x = .int i ∧ y = .int j ∧ k i j H2
noncomputable def tAdd (ta tb : TE) : TE := fun σ H Q => t2I ta tb (fun i j H2 => Q (.int (i + j)) H2) σ H
noncomputable def tSub (ta tb : TE) : TE := fun σ H Q => t2I ta tb (fun i j H2 => Q (.int (i - j)) H2) σ H
/-- the left factor below 2^64 -/
noncomputable def tMul (ta tb : TE) : TE := fun σ H Q => t2I ta tb (fun i j H2 => (-(2 ^ 64) < i ∧ i < 2 ^ 64) ∧ Q (.int (i * j)) H2) σ H
variable {a b : Expr} {ta tb : TE} {pos : Pos}
/-! ### comparisons -/
noncomputable def PC (X : Cx) (op : CmpOp) (a b : Expr) (t : TE) : Prop :=
  ∀ (pins : List (Addr × Obj)) (s : Shared) (σ : St) (H : Hp) (Q : VK), Inv X pins σ H s → t σ H Q →
    wpAny (model X.prog X.w) X.A (eval a X.env) (fun v s₁ => wpAny (model X.prog X.w) X.A (eval b X.env) (fun u s₂ => wpAny (model X.prog X.w) X.A (compareOp op v u) (EP X pins σ Q) X.xe s₂) X.xe s₁) X.xe s
theorem nobehind (b : Expr) {op : CmpOp} (h : op ≠ .In) (h2 : op ≠ .NotIn) : behindInMarks op b = false := by
  have e1 : (op == CmpOp.In) = false := by cases op <;> first | rfl | exact absurd rfl h
  have e2 : (op == CmpOp.NotIn) = false := by cases op <;> first | rfl | exact absurd rfl h2
  cases b <;> simp [behindInMarks, e1, e2]
noncomputable def tCmp (p : Int → Int → Bool) (ta tb : TE) : TE := fun σ H Q => t2I ta tb (fun i j H2 => Q (.bl (p i j)) H2) σ H
noncomputable abbrev tLt : TE → TE → TE := tCmp fun i j => decide (i < j)
noncomputable abbrev tLe : TE → TE → TE := tCmp fun i j => decide (i ≤ j)
noncomputable abbrev tGt : TE → TE → TE := tCmp fun i j => decide (j < i)
noncomputable abbrev tGe : TE → TE → TE := tCmp fun i j => decide (j ≤ i)
noncomputable abbrev tEqI : TE → TE → TE := tCmp fun i j => decide (i = j)
noncomputable abbrev tNeI : TE → TE → TE := tCmp fun i j => !decide (i = j)
/-- is None -/
noncomputable def tIsN (ta : TE) : TE := fun σ H Q => ta σ H fun x H1 => Q (.bl (decide (x = .non))) H1
noncomputable def tNotN (ta : TE) : TE := fun σ H Q => ta σ H fun x H1 => Q (.bl (!decide (x = .non))) H1
/-- a comparison as a value, as a test -/
noncomputable def tB (t : TE) : TT := fun σ H Q => t σ H fun x H1 => ∃ c, x = .bl c ∧ Q c H1
/-- an expression whose value is a bool, as a test -/
theorem pt_val {e : Expr} {t : TE} (h : PE X e t) (he : ∀ whole, isTrue e X.env whole = (do let v ← whole; standAt e.pos; holding [v] (truthy v)) := by intro _; rfl) : PT X e (tB t) := by
  intro pins s σ H Q I hw
  refine isTrue_plain (thn (h pins s σ H _ I hw) fun v s1 ⟨x, H1, I1, r1, q1⟩ => ?_) (he _)
  obtain ⟨d, rfl, q⟩ := q1
  cases r1
  exact wpAny_truthy_bool ⟨H1, I1, q⟩

/-! ### and, or, not -/
variable {tA tB' : TT} {rest : List Expr}
noncomputable def tAnd (t u : TT) : TT := fun σ H Q => t σ H fun c H1 => if c = true then u σ H1 Q else Q false H1
noncomputable def tOr (t u : TT) : TT := fun σ H Q => t σ H fun c H1 => if c = true then Q true H1 else u σ H1 Q
noncomputable def tNot (t : TT) : TT := fun σ H Q => t σ H fun c H1 => Q (!c) H1
theorem pw_and1 (ha : PT X a tA) : PW X (.BoolOp .And [a] pos) tA := by
  intro wh pins s σ H Q I h
  refine isTrue_and (thn (ha pins s σ H Q I h) fun c s1 e => ?_)
  cases c with
  | true => exact isTrue_and_nil e
  | false => exact e
theorem pw_or1 (ha : PT X a tA) : PW X (.BoolOp .Or [a] pos) tA := by
  intro wh pins s σ H Q I h
  refine isTrue_or (thn (ha pins s σ H Q I h) fun c s1 e => ?_)
  cases c with
  | false => exact isTrue_or_nil e
  | true => exact e
theorem pw_and (ha : PT X a tA) (hb : PW X (.BoolOp .And (b :: rest) pos) tB') : PW X (.BoolOp .And (a :: b :: rest) pos) (tAnd tA tB') := by
  intro wh pins s σ H Q I h
  refine isTrue_and (thn (ha pins s σ H _ I h) fun c s1 ⟨H1, I1, q1⟩ => ?_)
  cases c with
  | true => exact hb wh pins s1 σ H1 Q I1 q1
  | false => exact ⟨H1, I1, q1⟩
theorem pw_or (ha : PT X a tA) (hb : PW X (.BoolOp .Or (b :: rest) pos) tB') : PW X (.BoolOp .Or (a :: b :: rest) pos) (tOr tA tB') := by
  intro wh pins s σ H Q I h
  refine isTrue_or (thn (ha pins s σ H _ I h) fun c s1 ⟨H1, I1, q1⟩ => ?_)
  cases c with
  | true => exact ⟨H1, I1, q1⟩
  | false => exact hb wh pins s1 σ H1 Q I1 q1
theorem pt_not (ha : PT X a tA) : PT X (.UnaryOp .Not a pos) (tNot tA) := by
  intro pins s σ H Q I h
  exact isTrue_not (ha pins s σ H (fun c H1 => Q (!c) H1) I h)
/-- .. as values (bools) -/
noncomputable def tAndV (ta tb : TE) : TE := fun σ H Q => ta σ H fun x H1 => ∃ c, x = .bl c ∧ if c = true then tb σ H1 Q else Q (.bl false) H1
noncomputable def tOrV (ta tb : TE) : TE := fun σ H Q => ta σ H fun x H1 => ∃ c, x = .bl c ∧ if c = true then Q (.bl true) H1 else tb σ H1 Q
noncomputable def tNotV (ta : TE) : TE := fun σ H Q => ta σ H fun x H1 => ∃ c, x = .bl c ∧ Q (.bl (!c)) H1
theorem pe_one {op} {t : TE} (h : PE X a t) : PE X (.BoolOp op [a] pos) t := fun pins s σ H Q I hw => BoolOp_one (h pins s σ H Q I hw)
theorem pe_and (ha : PE X a ta) (hb : PE X (.BoolOp .And (b :: rest) pos) tb) : PE X (.BoolOp .And (a :: b :: rest) pos) (tAndV ta tb) := by
  intro pins s σ H Q I h
  refine BoolOp_and (thn (ha pins s σ H _ I h) fun v s1 ⟨x, H1, I1, r1, q1⟩ => ?_)
  obtain ⟨c, rfl, q1⟩ := q1
  cases r1
  refine wpAny_truthy_bool ?_
  cases c with
  | true => exact hb pins s1 σ H1 Q I1 q1
  | false => exact ⟨.bl false, H1, I1, rfl, q1⟩
theorem pe_not (ha : PE X a ta) : PE X (.UnaryOp .Not a pos) (tNotV ta) := by
  intro pins s σ H Q I h
  refine UnaryOp_ (thn (ha pins s σ H _ I h) fun v s1 ⟨x, H1, I1, r1, q1⟩ => ?_)
  obtain ⟨c, rfl, q1⟩ := q1
  cases r1
  exact not_of (wpAny_truthy_bool ⟨.bl (!c), H1, I1, rfl, q1⟩)
/-- a if t else b -/
noncomputable def tIf (t : TT) (ta tb : TE) : TE := fun σ H Q => t σ H fun c H1 => if c = true then ta σ H1 Q else tb σ H1 Q
theorem pe_ifExp {c : Expr} (hc : PT X c tA) (ha : PE X a ta) (hb : PE X b tb) : PE X (.IfExp c a b pos) (tIf tA ta tb) := by
  intro pins s σ H Q I h
  refine wpAny_IfExp (thn (hc pins s σ H _ I h) fun d s1 ⟨H1, I1, q1⟩ => ?_)
  cases d with
  | true => exact ha pins s1 σ H1 Q I1 q1
  | false => exact hb pins s1 σ H1 Q I1 q1
end
end L2

namespace L2
open PySem PySem.Spec PyProof.Rows

/-! ### a list, a tuple that is read: tracked, frozen, or an object of the module -/
noncomputable def SqL (K : PySem.W.Frag) (H : Hp) (a : Addr) (xs : List V) : Prop :=
  Rd H a (.lst xs) ∨
    ∃ (o : Obj) (its : Array Value) (n : Nat), K.lookup a = some o ∧ o.cls = .type "list" ∧ o.dict = none ∧ o.data = .seq its n ∧ its.size ≤ sizeLine ∧ Vals xs its.toList
noncomputable def SqT (K : PySem.W.Frag) (H : Hp) (a : Addr) (xs : List V) : Prop :=
  Rd H a (.tup xs) ∨
    ∃ (o : Obj) (its : Array Value) (n : Nat), K.lookup a = some o ∧ (o.cls = .type "tuple" ∧ o.dict = none) ∧ o.data = .seq its n ∧ its.size ≤ sizeLine ∧ Vals xs its.toList
noncomputable def absV : Value → Option V
  | .none => some .non
  | .bool b => some (.bl b)
  | .int i _ => some (.int i)
  | .str x _ => some (.str x)
  | .bytes b _ => some (.byt b)
  | .float b _ => some (.flt b)
  | .ref a => some (.ref a)
  | .type n => some (.ty n)
  | _ => none
theorem RelV.abs {x : V} {u : Value} (r : RelV x u) : absV u = some x := by
  cases x with
  | non => cases r; rfl
  | bl _ => cases r; rfl
  | int _ => obtain ⟨t, rfl⟩ := r; rfl
  | str _ => obtain ⟨t, rfl⟩ := r; rfl
  | byt _ => obtain ⟨t, rfl⟩ := r; rfl
  | flt _ => obtain ⟨t, rfl⟩ := r; rfl
  | ref _ => cases r; rfl
  | ty _ => cases r; rfl
theorem RelV.inj {x y : V} {u : Value} (r : RelV x u) (q : RelV y u) : x = y := Option.some.inj (r.abs.symm.trans q.abs)
theorem Vals.inj : ∀ {xs ys : List V} {us : List Value}, Vals xs us → Vals ys us → xs = ys
  | _, _, _, .nil, .nil => rfl
  | _, _, _, .cons r t, .cons r' t' => by rw [r.inj r', Vals.inj t t']
section
variable {X : Cx} {pins : List (Addr × Obj)} {σ : St} {H : Hp} {s : Shared} {a : Addr} {xs ys : List V}
theorem SqL.of {K : PySem.W.Frag} (h : H a = some (.lst xs)) : SqL K H a xs := .inl (.inl h)
theorem SqT.of {K : PySem.W.Frag} (h : H a = some (.tup xs)) : SqT K H a xs := .inl (.inl h)
theorem Inv.list (I : Inv X pins σ H s) (h : SqL X.K H a xs) : ∃ its : List Value, Vals xs its ∧ PlainL s.heap a its.toArray ∧ xs.length ≤ sizeLine := by
  rcases h with h | ⟨o, its, n, hk, hc, hd, hs, hz, r⟩
  · obtain ⟨z, its, n, r, e⟩ := h.ok I.hok
    exact ⟨its, r, ⟨_, n, e, rfl, rfl, rfl⟩, z⟩
  · refine ⟨its.toList, r, ⟨o, n, I.kIn a o hk, hc, hd, by simpa using hs⟩, ?_⟩
    have e := r.length
    simp only [Array.length_toList] at e
    omega
theorem Inv.tuple (I : Inv X pins σ H s) (h : SqT X.K H a xs) : ∃ its : List Value, Vals xs its ∧ IsTup s.heap a its.toArray ∧ xs.length ≤ sizeLine := by
  rcases h with h | ⟨o, its, n, hk, hc, hs, hz, r⟩
  · obtain ⟨z, its, r, p⟩ := h.ok I.hok
    exact ⟨its, r, p.tup, z⟩
  · refine ⟨its.toList, r, ⟨o, I.kIn a o hk, hc.1, n, by simpa using hs⟩, ?_⟩
    have e := r.length
    simp only [Array.length_toList] at e
    omega
theorem Inv.list_inj (I : Inv X pins σ H s) (h : SqL X.K H a xs) (h' : SqL X.K H a ys) : xs = ys := by
  obtain ⟨its, r, ⟨o, n, e, _, _, d⟩, _⟩ := I.list h
  obtain ⟨its', r', ⟨o', n', e', _, _, d'⟩, _⟩ := I.list h'
  rw [e] at e'; cases e'
  rw [d] at d'
  injection d' with d1 _
  have : its = its' := by simpa using congrArg Array.toList d1
  subst this
  exact r.inj r'
theorem Inv.tupleN (I : Inv X pins σ H s) (h : SqT X.K H a xs) : ∃ ob, s.heap.get? a = some ob ∧ ob.dict = none := by
  rcases h with h | ⟨o, its, n, hk, hc, hs, hz, r⟩
  · obtain ⟨z, its, r, o, e, c, _⟩ := h.ok I.hok
    exact ⟨o, e, c.2⟩
  · exact ⟨o, I.kIn a o hk, hc.2⟩
theorem Inv.tuple_inj (I : Inv X pins σ H s) (h : SqT X.K H a xs) (h' : SqT X.K H a ys) : xs = ys := by
  obtain ⟨its, r, ⟨o, e, _, n, d⟩, _⟩ := I.tuple h
  obtain ⟨its', r', ⟨o', e', _, n', d'⟩, _⟩ := I.tuple h'
  rw [e] at e'; cases e'
  rw [d] at d'
  injection d' with d1 _
  have : its = its' := by simpa using congrArg Array.toList d1
  subst this
  exact r.inj r'
end

/-! ### another wish about exceptions -/
noncomputable abbrev Cx.wish (X : Cx) (E : Value → Shared → Prop) : Cx := { X with xe := E }
/-- no exception leaves -/
noncomputable abbrev Cx.nox (X : Cx) : Cx := X.wish fun _ _ => False
theorem Cx.Ok.wish {X : Cx} (ok : X.Ok) (E : Value → Shared → Prop) : (X.wish E).Ok :=
  ⟨ok.mod, ok.kind, ok.glob, ok.blt, ok.above, ok.inj, ok.has, ok.cab, ok.hd, ok.frames, ok.stk, ok.exf, ok.bs, ok.bsz, ok.noex, ok.exfs, ok.funs, ok.frf⟩
theorem Cx.Ok.unwish {X : Cx} {E : Value → Shared → Prop} (ok : (X.wish E).Ok) : X.Ok :=
  ⟨ok.mod, ok.kind, ok.glob, ok.blt, ok.above, ok.inj, ok.has, ok.cab, ok.hd, ok.frames, ok.stk, ok.exf, ok.bs, ok.bsz, ok.noex, ok.exfs, ok.funs, ok.frf⟩
section
variable {X : Cx} {pins : List (Addr × Obj)} {σ : St} {H : Hp} {s : Shared} {E : Value → Shared → Prop}
theorem Inv.wish (I : Inv X pins σ H s) (E : Value → Shared → Prop) : Inv (X.wish E) pins σ H s := ⟨I.ok.wish E, I.os, I.bare, I.base, I.loc, I.cell, I.free, I.freeC, I.pin, I.hok, I.len⟩
theorem Inv.unwish (I : Inv (X.wish E) pins σ H s) : Inv X pins σ H s := ⟨I.ok.unwish, I.os, I.bare, I.base, I.loc, I.cell, I.free, I.freeC, I.pin, I.hok, I.len⟩
theorem SP.unwish {D : Ends} {f : Flow} {s' : Shared} (h : SP (X.wish E) pins D f s') : SP X pins D f s' := by
  cases f with
  | next => obtain ⟨σ', H', I, q⟩ := h; exact ⟨σ', H', I.unwish, q⟩
  | brk => obtain ⟨σ', H', I, q⟩ := h; exact ⟨σ', H', I.unwish, q⟩
  | cont => obtain ⟨σ', H', I, q⟩ := h; exact ⟨σ', H', I.unwish, q⟩
  | ret u => obtain ⟨v, σ', H', I, r, q⟩ := h; exact ⟨v, σ', H', I.unwish, r, q⟩
theorem PSs.nox {st : List Stmt} {t : TS} (h : PSs X.nox st t) : PSs X st t := fun pins s σ H D I hw =>
  wpAny_mono (h pins s σ H D (I.wish _) hw) (fun _ _ q => q.unwish) fun _ _ z => False.elim z
end

/-! ### blocks and small statements -/
section
variable {X : Cx} {st : Stmt} {rest : List Stmt} {t u : TS} {e : Expr} {te : TE} {pos : Pos}
noncomputable def tNext : TS := fun D σ H => D.nx σ H
noncomputable def tSeq (t u : TS) : TS := fun D σ H => t { D with nx := u D } σ H
theorem pss_nil : PSs X [] tNext := fun _ _ σ H _ I h => wpAny_execs_nil ⟨σ, H, I, h⟩
theorem pss_cons (h1 : PS X st t) (h2 : PSs X rest u) : PSs X (st :: rest) (tSeq t u) := by
  intro pins s σ H D I h
  refine wpAny_execs_cons (thn (h1 pins s σ H { D with nx := u D } I h) fun f s1 q => ?_)
  cases f with
  | next =>
    obtain ⟨σ', H', I', q⟩ := q
    exact h2 pins s1 σ' H' D I' q
  | ret v => exact q
  | brk => exact q
  | cont => exact q
noncomputable def tBreak : TS := fun D σ H => D.bk σ H
noncomputable def tCont : TS := fun D σ H => D.ct σ H
/-- in a def's body nothing is shown -/
theorem Inv.quiet {pins : List (Addr × Obj)} {σ : St} {H : Hp} {s : Shared} (I : Inv X pins σ H s) : interactive X.env = false := by simp [interactive, I.ok.kind]
/-- an expression whose value is dropped -/
noncomputable def tDrop (te : TE) : TS := fun D σ H => te σ H fun _ H1 => D.nx σ H1
theorem ps_expr (he : PE X e te) (hs : swapsWith e none pos.line X.env = pure false := by rfl) : PS X (.Expr e pos) (tDrop te) := by
  intro pins s σ H D I h
  exact wpAny_Expr_any (thn (he pins s σ H _ I h) fun v s1 ⟨x, H1, I1, r1, q1⟩ => ⟨σ, H1, I1, q1⟩) I.quiet hs
noncomputable def tRet (te : TE) : TS := fun D σ H => te σ H D.rt
theorem ps_ret (he : PE X e te) : PS X (.Return (some e) pos) (tRet te) := by
  intro pins s σ H D I h
  exact wpAny_Return_some (thn (he pins s σ H _ I h) fun v s1 ⟨x, H1, I1, r1, q1⟩ => ⟨x, σ, H1, I1, r1, q1⟩)
noncomputable def tRetN : TS := fun D _ H => D.rt .non H
noncomputable def tIfS (c : TT) (t u : TS) : TS := fun D σ H => c σ H fun b H1 => if b = true then t D σ H1 else u D σ H1
theorem ps_if {c : Expr} {a b : List Stmt} {tc : TT} (hc : PT X c tc) (ha : PSs X a t) (hb : PSs X b u) : PS X (.If c a b pos) (tIfS tc t u) := by
  intro pins s σ H D I h
  refine wpAny_If (thn (hc pins s σ H _ I h) fun d s1 ⟨H1, I1, q1⟩ => ?_)
  cases d with
  | true => exact ha pins s1 σ H1 D I1 q1
  | false => exact hb pins s1 σ H1 D I1 q1
/-- code that the proof never comes to -/
noncomputable def tNever : TS := fun _ _ _ => False
end

/-! ### targets -/
noncomputable abbrev TG := V → St → Hp → (St → Hp → Prop) → Prop
noncomputable abbrev TGs := List V → St → Hp → (St → Hp → Prop) → Prop
noncomputable def PG (X : Cx) (target : Expr) (t : TG) : Prop :=
  ∀ (pins : List (Addr × Obj)) (s : Shared) (σ : St) (H : Hp) (v : V) (u : Value) (Q : St → Hp → Prop), Inv X pins σ H s → RelV v u → t v σ H Q →
    wpAny (model X.prog X.w) X.A (assign target X.env u) (fun _ s' => ∃ σ' H', Inv X pins σ' H' s' ∧ Q σ' H') X.xe s
/-- several targets, one after another -/
noncomputable def PGs (X : Cx) (ts : List Expr) (t : TGs) : Prop :=
  ∀ (pins : List (Addr × Obj)) (s : Shared) (σ : St) (H : Hp) (vs : List V) (us : List Value) (Q : St → Hp → Prop), Inv X pins σ H s → Vals vs us → t vs σ H Q →
    wpAny (model X.prog X.w) X.A (assignInOrder ((assignEach ts X.env).map (·.2)) us) (fun _ s' => ∃ σ' H', Inv X pins σ' H' s' ∧ Q σ' H') X.xe s
/-- o[i] = v, by values -/
noncomputable abbrev TSet := V → V → V → Hp → (Hp → Prop) → Prop
noncomputable def PSet (X : Cx) (t : TSet) : Prop :=
  ∀ (pins : List (Addr × Obj)) (s : Shared) (σ : St) (H : Hp) (o i v : V) (ov iv u : Value) (Q : Hp → Prop), Inv X pins σ H s → RelV o ov → RelV i iv → RelV v u → t o i v H Q →
    wpAny (model X.prog X.w) X.A (setItem ov iv u) (fun _ s' => ∃ H', Inv X pins σ H' s' ∧ Q H') X.xe s
/-- a op= b, by values -/
noncomputable abbrev TIp := V → V → Hp → VK → Prop
noncomputable def PIp (X : Cx) (op : Operator) (t : TIp) : Prop :=
  ∀ (pins : List (Addr × Obj)) (s : Shared) (σ : St) (H : Hp) (x y : V) (v u : Value) (Q : VK), Inv X pins σ H s → RelV x v → RelV y u → t x y H Q →
    wpAny (model X.prog X.w) X.A (inplaceOp op v u) (EP X pins σ Q) X.xe s
section
variable {X : Cx} {pos : Pos}
noncomputable def gName (i : Nat) : TG := fun v σ H Q => Q (σ.set i (some v)) H
theorem pg_name {i : Nat} {x : Str} (hN : X.N.Nodup) (hi : X.N[i]? = some x) (hx : Loc X.env.scope x) (hf : X.fn x = true ∨ X.env.scope.names.lookup x = some .local := by first | exact .inl rfl | exact .inr rfl | assumption) : PG X (.Name x pos) (gName i) := by
  intro pins s σ H v u Q I r h
  exact wpAny_assign_Name (store_ok I hN hi hx r (fun s' I' => ⟨_, H, I', h⟩) hf)
noncomputable def gNil : TGs := fun vs σ H Q => vs = [] ∧ Q σ H
noncomputable def gCons (t : TG) (u : TGs) : TGs := fun vs σ H Q => ∃ v r, vs = v :: r ∧ t v σ H fun σ' H' => u r σ' H' Q
theorem pgs_nil : PGs X [] gNil := by
  intro pins s σ H vs us Q I r h
  obtain ⟨e, h⟩ := h
  subst e
  cases r
  exact assignInOrder_nil ⟨σ, H, I, h⟩
theorem pgs_cons {e : Expr} {es : List Expr} {t : TG} {u : TGs} (h1 : PG X e t) (h2 : PGs X es u)
    (hs : (assignEach (e :: es) X.env).map (·.2) = assign e X.env :: (assignEach es X.env).map (·.2) := by rfl) : PGs X (e :: es) (gCons t u) := by
  intro pins s σ H vs us Q I r h
  obtain ⟨v, vr, e1, h⟩ := h
  subst e1
  cases r with
  | cons r rr =>
    rw [hs]
    refine assignInOrder_cons (thn (h1 pins s σ H _ _ _ I r h) fun _ s1 ⟨σ1, H1, I1, q1⟩ => ?_)
    exact h2 pins s1 σ1 H1 _ _ Q I1 rr q1
/-- (a, b, ..) = a tuple of that length -/
noncomputable def gTup (K : PySem.W.Frag) (n : Nat) (t : TGs) : TG := fun v σ H Q => ∃ a xs, v = .ref a ∧ SqT K H a xs ∧ xs.length = n ∧ t xs σ H Q
theorem pg_tup {es : List Expr} {k : Nat} {t : TGs} {n : Nat} (hc : X.calm = true) (h : PGs X es t)
    (hn : (assignEach es X.env).length = n := by rfl) (hst : (assignEach es X.env).findIdx? (·.1) = none := by rfl) : PG X (.Tuple es k pos) (gTup X.K n t) := by
  intro pins s σ H v u Q I r hw
  obtain ⟨a, xs, e1, hq, hl, hw⟩ := hw
  subst e1
  cases r
  obtain ⟨its, rv, ht, hz⟩ := I.tuple hq
  refine assign_Tuple_tuple (I.ok.hd hc) ht (by simp [hn, ← hl, rv.length]) hst fun h' hx => ?_
  have I1 : Inv X pins σ H { s with heap := h' } := I.kept (t' := s.toks) fun b o e => hx b o (Nat.ne_of_lt (Heap.lt_size e)) e
  exact h pins _ σ H xs _ Q I1 (by simpa using rv) hw
/-- o[i] = .. -/
noncomputable def gSub (to ti : TE) (t : TSet) : TG := fun v σ H Q => to σ H fun o H1 => ti σ H1 fun i H2 => t o i v H2 fun H3 => Q σ H3
/-- target = value -/
noncomputable def tAsg (te : TE) (g : TG) : TS := fun D σ H => te σ H fun x H1 => g x σ H1 D.nx
/-- name = value -/
theorem ps_set {i : Nat} {x : Str} {e : Expr} {te : TE} {pos' : Pos} (hN : X.N.Nodup) (hi : X.N[i]? = some x) (hx : Loc X.env.scope x) (he : PE X e te) (hs : swapsWith e (some (.Name x pos')) pos.line X.env = pure false := by rfl) (hf : X.fn x = true ∨ X.env.scope.names.lookup x = some .local := by first | exact .inl rfl | exact .inr rfl | assumption) :
    PS X (.Assign [.Name x pos'] e pos) (tAsg te (gName i)) := by
  intro pins s σ H D I h
  refine wpAny_Assign_Name (thn (he pins s σ H _ I h) fun v s1 ⟨y, H1, I1, r1, q1⟩ => ?_) hs
  exact store_ok I1 hN hi hx r1 (fun s2 I2 => ⟨_, H1, I2, q1⟩) hf
/-- a, b = x, y with plain local names: stored from the right; the pair itself is not tracked (the opening rows as in PyProof/Rows/TupAssign.lean:23) -/
noncomputable def tPar (i j : Nat) (ta : TA) : TS := fun D σ H => ta σ H fun vs H1 => ∃ v w, vs = [v, w] ∧ D.nx ((σ.set i (some v)).set j (some w)) H1
/-- name op= e -/
noncomputable def tAug (i : Nat) (te : TE) (ti : TIp) : TS := fun D σ H => ∃ x, σ[i]? = some (some x) ∧ te σ H fun y H1 => ti x y H1 fun z H2 => D.nx (σ.set i (some z)) H2
theorem ps_aug {i : Nat} {x : Str} {e : Expr} {te : TE} {op : Operator} {ti : TIp} {pos' : Pos} (hN : X.N.Nodup) (hi : X.N[i]? = some x) (hx : Loc X.env.scope x) (he : PE X e te) (ho : PIp X op ti) (hf : X.fn x = true ∨ X.env.scope.names.lookup x = some .local := by first | exact .inl rfl | exact .inr rfl | assumption) :
    PS X (.AugAssign (.Name x pos') op e pos) (tAug i te ti) := by
  intro pins s σ H D I h
  obtain ⟨v, e1, h⟩ := h
  obtain ⟨m, hn, hl⟩ := I.loc
  have vis : Vis X.env.scope x := by rcases hx with k | k; exact .inl k; exact .inr (.inl k)
  obtain ⟨u, r, l⟩ := hl i x v hi e1 vis
  refine wpAny_AugAssign_Name ?_
  have go : wpAny (model X.prog X.w) X.A (eval e X.env) (fun w s₂ => wpAny (model X.prog X.w) X.A (inplaceOp op u w) (fun r s₃ => wpAny (model X.prog X.w) X.A (storeName X.env x r) (fun _ => SP X pins D .next) X.xe s₃) X.xe s₂) X.xe s := by
    refine thn (he pins s σ H _ I h) fun w s1 ⟨y, H1, I1, r1, q1⟩ => ?_
    refine thn (ho pins s1 σ H1 v y u w _ I1 r r1 q1) fun z s2 ⟨zv, H2, I2, r2, q2⟩ => ?_
    exact store_ok I2 hN hi hx r2 (fun s3 I3 => ⟨_, H2, I3, q2⟩) hf
  rcases l with ⟨hk, hm⟩ | ⟨hk, c, hc, hcell⟩
  · exact wpAny_loadName_local I.ok.kind hk hn hm go
  · rcases hk with hk | hk
    · exact wpAny_loadName_cell I.ok.kind hk hc hcell go
    · rcases hx with k | k
      · have : X.env.scope.names.lookup x = some .free := hk
        rw [k] at this; cases this
      · have : X.env.scope.names.lookup x = some .free := hk
        rw [k] at this; cases this
/-- o[i] op= e -/
noncomputable def tAugS (to ti te : TE) (tget : V → V → Hp → VK → Prop) (tip : TIp) (tset : TSet) : TS := fun D σ H => to σ H fun o H1 => ti σ H1 fun i H2 => tget o i H2 fun x H3 => te σ H3 fun y H4 => tip x y H4 fun z H5 => tset o i z H5 fun H6 => D.nx σ H6
/-- o[i], by values -/
noncomputable def PGet (X : Cx) (t : V → V → Hp → VK → Prop) : Prop :=
  ∀ (pins : List (Addr × Obj)) (s : Shared) (σ : St) (H : Hp) (o i : V) (ov iv : Value) (Q : VK), Inv X pins σ H s → RelV o ov → RelV i iv → t o i H Q →
    wpAny (model X.prog X.w) X.A (getItem ov iv) (EP X pins σ Q) X.xe s
theorem ps_augS {o i e : Expr} {to ti te : TE} {tget : V → V → Hp → VK → Prop} {tip : TIp} {tset : TSet} {op : Operator} {tpos : Pos} (ho : PE X o to) (hi : PE X i ti) (hg : PGet X tget) (he : PE X e te) (hp : PIp X op tip) (hs : PSet X tset)
    (ha : ∀ ov iv new, augStore i ov iv new = (do holding [new, ov, iv] (setItem ov iv new); release [new, ov, iv] []; pure .next) := by intros; rfl) : PS X (.AugAssign (.Subscript o i tpos) op e pos) (tAugS to ti te tget tip tset) := by
  intro pins s σ H D I h
  refine wpAny_AugAssign_SubscriptAny (thn (ho pins s σ H _ I h) fun ov s1 ⟨x1, H1, I1, r1, q1⟩ => ?_) ha
  refine thn (hi pins s1 σ H1 _ I1 q1) fun iv s2 ⟨x2, H2, I2, r2, q2⟩ => ?_
  refine thn (hg pins s2 σ H2 x1 x2 ov iv _ I2 r1 r2 q2) fun old s3 ⟨x3, H3, I3, r3, q3⟩ => ?_
  refine thn (he pins s3 σ H3 _ I3 q3) fun v s4 ⟨x4, H4, I4, r4, q4⟩ => ?_
  refine thn (hp pins s4 σ H4 x3 x4 old v _ I4 r3 r4 q4) fun new s5 ⟨x5, H5, I5, r5, q5⟩ => ?_
  exact thn (hs pins s5 σ H5 x1 x2 x5 ov iv new _ I5 r1 r2 r5 q5) fun _ s6 ⟨H6, I6, q6⟩ => ⟨σ, H6, I6, q6⟩
/-- ints -/
noncomputable def ipI (f : Int → Int → Int) : TIp := fun x y H Q => ∃ i j, x = .int i ∧ y = .int j ∧ Q (.int (f i j)) H
theorem ip_add : PIp X .Add (ipI fun i j => i + j) := by
  intro pins s σ H x y v u Q I r1 r2 h
  obtain ⟨i, j, e1, e2, q⟩ := h
  subst e1; subst e2
  obtain ⟨t, rfl⟩ := r1
  obtain ⟨t', rfl⟩ := r2
  exact iadd_int ⟨.int _, H, I.tok _, ⟨_, rfl⟩, q⟩
end

/-! ### while -/
section
variable {X : Cx} {pos : Pos}
/-- the invariant W with its measure -/
noncomputable def tWhile (c : TT) (tb : TS) : TS := fun D σ H => ∃ W : Nat → St → Hp → Prop, (∃ m, W m σ H) ∧ ∀ m σ H, W m σ H →
  c σ H fun b H1 => if b = true then ∃ N : St → Hp → Prop, (∀ σ' H', N σ' H' → ∃ m', m' < m ∧ W m' σ' H') ∧ tb { D with nx := N, ct := N, bk := D.nx } σ H1 else D.nx σ H1
end

/-! ### what a loop or a comprehension walks -/
/-- at turn i: it yields x (the heap may grow), or it stops -/
structure It where
  go : Nat → Hp → Prop
  yld : Nat → Hp → V → Hp → Prop
  stop : Nat → Hp → Prop
/-- the iterator's own objects may turn: they are not the frame's, not pinned, younger than the entry (or a comprehension's own) -/
noncomputable def FpOk (X : Cx) (pins : List (Addr × Obj)) (H : Hp) (b : Addr) : Prop :=
  H b = none ∧ b ≠ X.env.locals ∧ b ∉ X.fs ∧ (b ∈ X.ex ∨ X.s0.heap.objs.size ≤ b) ∧ (∀ x c, X.env.cells.lookup x = some c → c ≠ b) ∧ ∀ p ∈ X.pn ++ pins, p.1 ≠ b
theorem Inv.fpOk {X : Cx} {pins : List (Addr × Obj)} {σ : St} {H H' : Hp} {s : Shared} {b : Addr} (I : Inv X pins σ H s) (hb : s.heap.objs.size ≤ b) (hn : H' b = none) : FpOk X pins H' b := by
  refine ⟨hn, Nat.ne_of_gt (Nat.lt_of_lt_of_le I.lt hb), I.nofs hb, .inr (Nat.le_trans I.sz hb), fun x c e z => ?_, fun p hp z => ?_⟩
  · obtain ⟨v, q⟩ := I.cell x c e
    exact absurd (Nat.lt_of_lt_of_le q.lt (by rw [z]; exact hb)) (Nat.lt_irrefl _)
  · exact absurd (Nat.lt_of_lt_of_le (Heap.lt_size (I.pin p hp).1) (by rw [z]; exact hb)) (Nat.lt_irrefl _)
structure Turn (P : Program) (w : World) (K : PySem.W.Frag) (tg : Expr) (J : It) (fp : List Addr) (it : Addr) (tn : Nat → Heap → Prop) : Prop where
  mem : it ∈ fp
  obj : ∀ i h, tn i h → ∀ b ∈ fp, ∃ o, h.get? b = some o ∧ ∀ v, o.data ≠ .cell v
  keep : ∀ i h h', tn i h → (∀ b ∈ fp, ∀ o, h.get? b = some o → h'.get? b = some o) → tn i h'
  item : ∀ (X : Cx), X.prog = P → X.w = w → X.K = K → X.calm = true → ∀ (i : Nat) (pins : List (Addr × Obj)) (s : Shared) (σ : St) (H : Hp) (E : Value → Shared → Prop), Inv X pins σ H s → (∀ b ∈ fp, FpOk X pins H b) → tn i s.heap → J.go i H →
    wpAny (model P w) X.A (pyNext (.ref it)) (fun r s1 => ∃ u, r = some u ∧
      wpAny (model P w) X.A (letOwnedTupleGo tg (.ref it) u) (fun _ s2 => ∃ x H', Inv X pins σ H' s2 ∧ RelV x u ∧ J.yld i H x H' ∧ tn (i + 1) s2.heap ∧ ∀ b ∈ fp, H' b = none) E s1) E s
  done : ∀ (X : Cx), X.prog = P → X.w = w → X.K = K → X.calm = true → ∀ (i : Nat) (pins : List (Addr × Obj)) (s : Shared) (σ : St) (H : Hp) (E : Value → Shared → Prop), Inv X pins σ H s → (∀ b ∈ fp, FpOk X pins H b) → tn i s.heap → J.stop i H →
    wpAny (model P w) X.A (pyNext (.ref it)) (fun r s1 => r = none ∧ Inv X pins σ H s1) E s
  self : ∀ (A : Around) (i : Nat) (s : Shared) (Q : Value → Shared → Prop) (E : Value → Shared → Prop), tn i s.heap → Q (.ref it) s → wpAny (model P w) A (pyIter (.ref it)) Q E s
noncomputable abbrev TI := St → Hp → (It → Hp → Prop) → Prop
/-- an iterator has come -/
noncomputable def PIE (X : Cx) (pins : List (Addr × Obj)) (σ : St) (tg : Expr) (R : It → Hp → Prop) (itv : Value) (s2 : Shared) : Prop :=
  ∃ (it : Addr) (fp : List Addr) (tn : Nat → Heap → Prop) (J : It) (H' : Hp), itv = .ref it ∧ Inv X pins σ H' s2 ∧ Turn X.prog X.w X.K tg J fp it tn ∧ tn 0 s2.heap ∧ (∀ b ∈ fp, FpOk X pins H' b) ∧ R J H'
noncomputable def PI (X : Cx) (tg iter : Expr) (wi : TI) : Prop :=
  ∀ (pins : List (Addr × Obj)) (s : Shared) (σ : St) (H : Hp) (R : It → Hp → Prop), Inv X pins σ H s → wi σ H R →
    wpAny (model X.prog X.w) X.A (eval iter X.env) (fun v s1 => wpAny (model X.prog X.w) X.A (pyIter v) (PIE X pins σ tg R) X.xe s1) X.xe s

/-- the step ahead of the store is nothing for an iterator that keeps no tuple -/
theorem go_of {M : Model} {A : Around} {E : Value → Shared → Prop} {s : Shared} {tg : Expr} {it : Addr} {u : Value} {o : Obj} {n : String} {vs : Array Value} {Q : Unit → Shared → Prop} (ho : s.heap.get? it = some o) (hc : o.cls = .type n) (hd : o.data = .fields vs)
    (hn : ["enumerate", "zip", "dict_itemiterator", "dict_reverseitemiterator", "odict_iterator", "itertools.zip_longest", "itertools.pairwise"].contains n = false) (hQ : Q () s) : wpAny M A (letOwnedTupleGo tg (.ref it) u) Q E s := by
  unfold letOwnedTupleGo
  cases tg <;> first
    | exact wpAny_pure hQ
    | (cases u <;> first
        | exact wpAny_pure hQ
        | (refine wpAny_bind (wpAny_load ho ?_)
           rw [hc, hd]
           show wpAny M A (if (["enumerate", "zip", "dict_itemiterator", "dict_reverseitemiterator", "odict_iterator", "itertools.zip_longest", "itertools.pairwise"].contains n && vs[0]? == some (rawInt _)) = true then _ else _) Q E s
           rw [if_neg (by intro h; rw [hn, Bool.false_and] at h; cases h)]
           exact wpAny_pure hQ))

/-- the list at a, as it stands at each turn (a loop may append to it) -/
noncomputable def Itl (K : PySem.W.Frag) (a : Addr) : It :=
  ⟨fun i H => ∃ xs x, SqL K H a xs ∧ xs[i]? = some x, fun i H x H' => H' = H ∧ ∀ xs, SqL K H a xs → xs[i]? = some x, fun i H => ∃ xs, SqL K H a xs ∧ xs.length ≤ i⟩
noncomputable def Itt (K : PySem.W.Frag) (a : Addr) : It :=
  ⟨fun i H => ∃ xs x, SqT K H a xs ∧ xs[i]? = some x, fun i H x H' => H' = H ∧ ∀ xs, SqT K H a xs → xs[i]? = some x, fun i H => ∃ xs, SqT K H a xs ∧ xs.length ≤ i⟩
/-- lo, lo + 1, .. (n of them) -/
noncomputable def Itr (lo : Int) (n : Nat) : It := ⟨fun i _ => i < n, fun i H x H' => H' = H ∧ x = .int (lo + i), fun i _ => n ≤ i⟩
theorem turn_list {P : Program} {w : World} {K : PySem.W.Frag} {tg : Expr} (a it : Addr) : Turn P w K tg (Itl K a) [it] it (fun i h => h.IsListIter it a i) where
  mem := by simp
  obj := fun i h st b hb => by
    have e : b = it := by simpa using hb
    subst e
    obtain ⟨o, e, c, d⟩ := st
    exact ⟨o, e, fun v z => by rw [d] at z; cases z⟩
  keep := fun i h h' st k => st.at fun o e => k it (by simp) o e
  item := by
    intro X hP hw hK hc i pins s σ H E I hf st hg
    subst hP hw hK
    obtain ⟨xs, x, hq, hx⟩ := hg
    obtain ⟨its, rv, p, hz⟩ := I.list hq
    obtain ⟨u, hu, ru⟩ := rv.get hx
    obtain ⟨f0, f1, f2, f3, f4, f5⟩ := hf it (by simp)
    refine wpAny_pyNext_list_item st p.isList (x := u) (by simpa using hu) fun h' st' sb => ?_
    have I1 : Inv X pins σ H { s with heap := h' } := I.turned (t' := s.toks) (fun b o hb e => (sb.2 b hb).trans e) f0 f1 f3 f4 f5
    obtain ⟨o, e, c, d⟩ := id st'
    exact ⟨u, rfl, go_of (s := { s with heap := h' }) e c d (by decide) ⟨x, H, I1, ru, ⟨rfl, fun ys hy => by rw [I.list_inj hy hq]; exact hx⟩, st', fun b hb => (hf b hb).1⟩⟩
  done := by
    intro X hP hw hK hc i pins s σ H E I hf st hg
    subst hP hw hK
    obtain ⟨xs, hq, hx⟩ := hg
    obtain ⟨its, rv, p, hz⟩ := I.list hq
    obtain ⟨f0, f1, f2, f3, f4, f5⟩ := hf it (by simp)
    have hl := rv.length
    exact wpAny_pyNext_list_end (I.ok.hd hc) st p.isList (by simp; omega) fun h' eb => ⟨rfl, I.turned (t' := s.toks) (fun b o hb e => eb b o hb e) f0 f1 f3 f4 f5⟩
  self := fun _ _ _ _ _ st h => wpAny_pyIter_listiter st h
theorem turn_tuple {P : Program} {w : World} {K : PySem.W.Frag} {tg : Expr} (a it : Addr) : Turn P w K tg (Itt K a) [it] it (fun i h => h.IsTupleIter it a i) where
  mem := by simp
  obj := fun i h st b hb => by
    have e : b = it := by simpa using hb
    subst e
    obtain ⟨o, e, c, d⟩ := st
    exact ⟨o, e, fun v z => by rw [d] at z; cases z⟩
  keep := fun i h h' st k => st.at fun o e => k it (by simp) o e
  item := by
    intro X hP hw hK hc i pins s σ H E I hf st hg
    subst hP hw hK
    obtain ⟨xs, x, hq, hx⟩ := hg
    obtain ⟨its, rv, p, hz⟩ := I.tuple hq
    obtain ⟨u, hu, ru⟩ := rv.get hx
    obtain ⟨f0, f1, f2, f3, f4, f5⟩ := hf it (by simp)
    refine wpAny_pyNext_tuple_item st (show s.heap.IsTuple a its.toArray from p) (x := u) (by simpa using hu) fun h' st' sb => ?_
    have I1 : Inv X pins σ H { s with heap := h' } := I.turned (t' := s.toks) (fun b o hb e => (sb.2 b hb).trans e) f0 f1 f3 f4 f5
    obtain ⟨o, e, c, d⟩ := id st'
    exact ⟨u, rfl, go_of (s := { s with heap := h' }) e c d (by decide) ⟨x, H, I1, ru, ⟨rfl, fun ys hy => by rw [I.tuple_inj hy hq]; exact hx⟩, st', fun b hb => (hf b hb).1⟩⟩
  done := by
    intro X hP hw hK hc i pins s σ H E I hf st hg
    subst hP hw hK
    obtain ⟨xs, hq, hx⟩ := hg
    obtain ⟨its, rv, p, hz⟩ := I.tuple hq
    obtain ⟨f0, f1, f2, f3, f4, f5⟩ := hf it (by simp)
    have hl := rv.length
    exact wpAny_pyNext_tuple_end (I.ok.hd hc) st (show s.heap.IsTuple a its.toArray from p) (by simp; omega) fun h' eb => ⟨rfl, I.turned (t' := s.toks) (fun b o hb e => eb b o hb e) f0 f1 f3 f4 f5⟩
  self := fun _ _ _ _ _ st h => wpAny_pyIter_tupleiter st h
theorem turn_range {P : Program} {w : World} {K : PySem.W.Frag} {tg : Expr} (it : Addr) (lo : Int) (n : Nat) : Turn P w K tg (Itr lo n) [it] it (fun i h => IsRangeIter h it (lo + (i : Nat) * 1) ((n : Int) - (i : Nat)) 1) where
  mem := by simp
  obj := fun i h st b hb => by
    have e : b = it := by simpa using hb
    subst e
    exact ⟨_, st, fun v z => by
      have z' : Data.fields _ = Data.cell v := z
      cases z'⟩
  keep := fun i h h' st k => k it (by simp) _ st
  item := by
    intro X hP hw hK hc i pins s σ H E I hf st hg
    subst hP hw hK
    obtain ⟨f0, f1, f2, f3, f4, f5⟩ := hf it (by simp)
    have W := Walks.range (prog := X.prog) (w := X.w) (I.ok.hd hc) it lo 1 n
    refine W.item i s _ _ hg st fun v h' tk hv st' kk => ?_
    obtain ⟨t, rfl⟩ := hv
    have I1 : Inv X pins σ H { s with heap := h', toks := tk } := I.turned (fun b o hb e => kk b o (by simpa using hb) e) f0 f1 f3 f4 f5
    refine ⟨_, rfl, go_of (s := { s with heap := h', toks := tk }) (n := "range_iterator") st' rfl rfl (by decide) ⟨.int (lo + i), H, I1, ⟨t, ?_⟩, ⟨rfl, rfl⟩, st', fun b hb => (hf b hb).1⟩⟩
    rw [Int.mul_one]
  done := by
    intro X hP hw hK hc i pins s σ H E I hf st hg
    subst hP hw hK
    obtain ⟨f0, f1, f2, f3, f4, f5⟩ := hf it (by simp)
    exact wpAny_pyNext_range_end (I.ok.hd hc) st (by have : n ≤ i := hg; omega) fun h' eb => ⟨rfl, I.turned (t' := s.toks) (fun b o hb e => eb b o hb e) f0 f1 f3 f4 f5⟩
  self := fun _ _ _ _ _ st h => wpAny_pyIter_rangeiter st h
end L2

namespace L2
open PySem PySem.Spec PyProof.Rows
section
variable {X : Cx} {tg : Expr}
noncomputable def iList (K : PySem.W.Frag) (tl : TE) : TI := fun σ H R => tl σ H fun x H1 => ∃ a, x = .ref a ∧ (∃ xs, SqL K H1 a xs) ∧ R (Itl K a) H1
noncomputable def iTup (K : PySem.W.Frag) (tl : TE) : TI := fun σ H R => tl σ H fun x H1 => ∃ a, x = .ref a ∧ (∃ xs, SqT K H1 a xs) ∧ R (Itt K a) H1
/-- a range object just made, walked -/
theorem range_it {pins : List (Addr × Obj)} {σ : St} {H : Hp} {s : Shared} {R : It → Hp → Prop} {E : Value → Shared → Prop} {lo hi : Int} {t u v : Tok} {tk : Nat} (I : Inv X pins σ H s) (h1 : -(2 ^ 62) ≤ lo) (h2 : lo < 2 ^ 62) (h3 : -(2 ^ 62) ≤ hi) (h4 : hi < 2 ^ 62)
    (q : R (Itr lo (hi - lo).toNat) H) : wpAny (model X.prog X.w) X.A (pyIter (.ref s.heap.objs.size)) (PIE X pins σ tg R) E { s with heap := s.heap.push { cls := .type "range", data := .fields #[.int lo t, .int hi u, .int 1 v] }, toks := tk } := by
  refine wpAny_pyIter_range (IsRange.new ..) (small_one h1 h2 h3 h4) ?_
  have I1 : Inv X pins σ H { s with heap := s.heap.push { cls := .type "range", data := .fields #[.int lo t, .int hi u, .int 1 v] }, toks := tk } := I.kept fun b o e => Heap.get?_push_of_some _ e
  refine ⟨(s.heap.push { cls := .type "range", data := .fields #[.int lo t, .int hi u, .int 1 v] }).objs.size, [(s.heap.push { cls := .type "range", data := .fields #[.int lo t, .int hi u, .int 1 v] }).objs.size], _, _, H, rfl,
    I1.kept (t' := tk) fun b o e => Heap.get?_push_of_some _ e, turn_range _ lo (hi - lo).toNat, ?_, fun b hb => ?_, q⟩
  · have e1 : lo + ((0 : Nat) : Int) * 1 = lo := by simp
    have e2 : (((hi - lo).toNat : Nat) : Int) - ((0 : Nat) : Int) = Builtin.Range.rangeSize lo hi 1 := by rw [rangeSize_one]; split <;> omega
    show IsRangeIter _ _ (lo + ((0 : Nat) : Int) * 1) ((((hi - lo).toNat : Nat) : Int) - ((0 : Nat) : Int)) 1
    rw [e1, e2]
    exact Heap.get?_push_size _ rfl
  · have e : b = (s.heap.push { cls := .type "range", data := .fields #[.int lo t, .int hi u, .int 1 v] }).objs.size := by simpa using hb
    subst e
    exact I1.fpOk (Nat.le_refl _) (I1.hok.fresh (Nat.le_refl _))
noncomputable def iRng1 (ta : TA) : TI := fun σ H R => ta σ H fun vs H1 => ∃ j : Int, vs = [.int j] ∧ -(2 ^ 62) ≤ j ∧ j < 2 ^ 62 ∧ R (Itr 0 j.toNat) H1
noncomputable def iRng2 (ta : TA) : TI := fun σ H R => ta σ H fun vs H1 => ∃ i j : Int, vs = [.int i, .int j] ∧ (-(2 ^ 62) ≤ i ∧ i < 2 ^ 62 ∧ -(2 ^ 62) ≤ j ∧ j < 2 ^ 62) ∧ R (Itr i (j - i).toNat) H1
theorem pi_range1 {a : Expr} {ta : TA} {p pos : Pos} (hg : Gl X "range") (hm : X.mg "range" = none) (ha : PA X [a] ta) (hs : starEach [a] X.env = [(false, eval a X.env)] := by rfl) : PI X tg (.Call (.Name "range" p) [a] [] pos) (iRng1 ta) := by
  intro pins s σ H R I h
  refine Call_ (ld_blt I hg hm boot_range (PyProof.Rows.callWith_type1 (thn (ha pos pins s σ H _ I h) fun us s1 ⟨vs, H1, I1, r1, q1⟩ => ?_) hs rfl))
  obtain ⟨j, e, q1, q2, q⟩ := q1
  subst e
  cases r1 with
  | cons r rr =>
    cases rr
    obtain ⟨t, rfl⟩ := r
    exact call_range_1 (range_it I1 (by omega) (by omega) q1 q2 (by simpa using q))
theorem pi_range2 {a b : Expr} {ta : TA} {p pos : Pos} (hg : Gl X "range") (hm : X.mg "range" = none) (ha : PA X [a, b] ta) (hs : starEach [a, b] X.env = [(false, eval a X.env), (false, eval b X.env)] := by rfl) (hs2 : starEach [b] X.env = [(false, eval b X.env)] := by rfl) :
    PI X tg (.Call (.Name "range" p) [a, b] [] pos) (iRng2 ta) := by
  intro pins s σ H R I h
  refine Call_ (ld_blt I hg hm boot_range (PyProof.Rows.callWith_type1 (thn (ha pos pins s σ H _ I h) fun us s1 ⟨vs, H1, I1, r1, q1⟩ => ?_) (by rw [hs, hs2]) (by rw [hs2]; rfl)))
  obtain ⟨i, j, e, ⟨q1, q2, q3, q4⟩, q⟩ := q1
  subst e
  cases r1 with
  | cons r rr =>
    cases rr with
    | cons r' rr =>
      cases rr
      obtain ⟨t, rfl⟩ := r
      obtain ⟨t', rfl⟩ := r'
      exact call_range_2 (range_it I1 q1 q2 q3 q4 q)

/-! ### for -/
/-- W: the invariant by the turn and a measure; N: what the body is to reach -/
noncomputable def tFor (wi : TI) (g : TG) (tb : TS) : TS := fun D σ H => wi σ H fun J H1 => ∃ W : Nat → Nat → St → Hp → Prop, (∃ m, W 0 m σ H1) ∧ ∀ i m σ H, W i m σ H →
  (J.stop i H ∧ D.nx σ H) ∨ (J.go i H ∧ ∃ N : St → Hp → Prop, (∀ σ' H', N σ' H' → ∃ m', m' < m ∧ W (i + 1) m' σ' H') ∧ ∀ x H', J.yld i H x H' → g x σ H' fun σ2 H2 => tb { D with nx := N, ct := N, bk := D.nx } σ2 H2)
/-- the records at fp as they stand -/
noncomputable def pinsAt (fp : List Addr) (h : Heap) : List (Addr × Obj) := fp.filterMap fun b => (h.get? b).map fun o => (b, o)
theorem mem_pinsAt {fp : List Addr} {h : Heap} {b : Addr} {o : Obj} (hb : b ∈ fp) (e : h.get? b = some o) : (b, o) ∈ pinsAt fp h := List.mem_filterMap.mpr ⟨b, hb, by rw [e]; rfl⟩
theorem of_pinsAt {fp : List Addr} {h : Heap} {p : Addr × Obj} (hp : p ∈ pinsAt fp h) : p.1 ∈ fp ∧ h.get? p.1 = some p.2 := by
  obtain ⟨b, hb, e⟩ := List.mem_filterMap.mp hp
  cases q : h.get? b with
  | none => rw [q] at e; cases e
  | some o =>
    rw [q] at e
    have e' : (b, o) = p := Option.some.inj e
    subst e'
    exact ⟨hb, q⟩
theorem Inv.pinned {pins : List (Addr × Obj)} {σ : St} {H : Hp} {s : Shared} {fp : List Addr} (I : Inv X pins σ H s) (hf : ∀ b ∈ fp, FpOk X pins H b) (ho : ∀ b ∈ fp, ∃ o, s.heap.get? b = some o ∧ ∀ v, o.data ≠ .cell v) : Inv X (pins ++ pinsAt fp s.heap) σ H s :=
  I.pins_of fun p hp => (List.mem_append.mp hp).elim (fun z => I.pin p (List.mem_append_right _ z)) fun z => by
    obtain ⟨hb, e⟩ := of_pinsAt z
    obtain ⟨f0, f1, f2, _⟩ := hf p.1 hb
    obtain ⟨o, e', d⟩ := ho p.1 hb
    rw [e] at e'; cases e'
    exact ⟨e, f0, f1, f2, d⟩
theorem Inv.unpinned {pins pl : List (Addr × Obj)} {σ : St} {H : Hp} {s : Shared} (I : Inv X (pins ++ pl) σ H s) : Inv X pins σ H s := I.pins_of fun p hp => I.pin p (List.mem_append_right _ (List.mem_append_left _ hp))
theorem ps_for {iter : Expr} {body : List Stmt} {wi : TI} {g : TG} {tb : TS} {pos : Pos} (hp : PassesOwn (model X.prog X.w) X.A X.env X.xe) (hc : X.calm = true) (hi : PI X tg iter wi) (hg : PG X tg g) (hb : PSs X body tb)
    (hs : ∀ x, foldedSetIterable iter X.env x = pure x := by intro _; rfl) : PS X (.For tg iter body [] pos) (tFor wi g tb) := by
  intro pins s σ H D I h
  refine wpAny_For (thn (hi pins s σ H _ I h) fun v s1 h1 => thn h1 fun itv s2 h2 => ?_) hs
  obtain ⟨it, fp, tn, J, H2, e, I2, T, st2, f2, W, ⟨m0, w0⟩, turn⟩ := h2
  subst e
  -- what stays true of the iterator's objects through the loop
  have stat : ∀ {H' : Hp}, (∀ b ∈ fp, H' b = none) → ∀ b ∈ fp, FpOk X pins H' b := fun hn b hb => ⟨hn b hb, (f2 b hb).2⟩
  refine codeAny_forLoop_any (fun n s' => ∃ i σ' H', Inv X pins σ' H' s' ∧ tn i s'.heap ∧ (∀ b ∈ fp, H' b = none) ∧ W i n σ' H') ?_ m0 ⟨0, σ, H2, I2, st2, fun b hb => (f2 b hb).1, w0⟩
  rintro n s3 ⟨i, σ3, H3, I3, st3, fr3, w3⟩
  rcases turn i n σ3 H3 w3 with ⟨stop, qn⟩ | ⟨go, N, hN, step⟩
  · refine wpAny_passesOwn hp (thn (T.done X rfl rfl rfl hc i pins s3 σ3 H3 X.xe I3 (stat fr3) st3 stop) fun r s4 ⟨hr, I4⟩ => ?_)
    subst hr
    exact wpAny_execs_nil ⟨σ3, H3, I4, qn⟩
  · refine wpAny_passesOwn hp (thn (T.item X rfl rfl rfl hc i pins s3 σ3 H3 X.xe I3 (stat fr3) st3 go) fun r s4 ⟨u, hr, h4⟩ => ?_)
    subst hr
    refine wpAny_passesOwn hp (thn h4 fun _ s5 ⟨x, H5, I5, r5, y5, st5, fr5⟩ => ?_)
    have I5' := I5.pinned (stat fr5) (T.obj _ _ st5)
    refine wpAny_passesOwn hp (thn (hg _ s5 σ3 H5 x u _ I5' r5 (step x H5 y5)) fun _ s6 ⟨σ6, H6, I6, q6⟩ => ?_)
    refine wpAny_passesOwn hp (thn (hb _ s6 σ6 H6 _ I6 q6) fun f s7 q7 => ?_)
    have again : ∀ {σ7 : St} {H7 : Hp}, Inv X (pins ++ pinsAt fp s5.heap) σ7 H7 s7 → N σ7 H7 → ∃ m, m < n ∧ ∃ i σ' H', Inv X pins σ' H' s7 ∧ tn i s7.heap ∧ (∀ b ∈ fp, H' b = none) ∧ W i m σ' H' := fun {σ7 H7} I7 n7 => by
      obtain ⟨m', hm, w7⟩ := hN σ7 H7 n7
      refine ⟨m', hm, i + 1, σ7, H7, I7.unpinned, T.keep _ _ _ st5 fun b hb o e => (I7.pin (b, o) (List.mem_append_right _ (List.mem_append_right _ (mem_pinsAt hb e)))).1, fun b hb => ?_, w7⟩
      obtain ⟨o, e, d⟩ := T.obj _ _ st5 b hb
      exact (I7.pin (b, o) (List.mem_append_right _ (List.mem_append_right _ (mem_pinsAt hb e)))).2.1
    cases f with
    | next => obtain ⟨σ7, H7, I7, n7⟩ := q7; exact again I7 n7
    | cont => obtain ⟨σ7, H7, I7, n7⟩ := q7; exact again I7 n7
    | brk => obtain ⟨σ7, H7, I7, q7⟩ := q7; exact ⟨σ7, H7, I7.unpinned, q7⟩
    | ret v => obtain ⟨x7, σ7, H7, I7, r7, q7⟩ := q7; exact ⟨x7, σ7, H7, I7.unpinned, r7, q7⟩
end

/-! ### the forms one uses -/
end L2

namespace L2
open PySem PySem.Spec PyProof.Rows

noncomputable abbrev R2 := V → V → Hp → VK → Prop
/-- a two-place operation on values: f is binaryOp op, inplaceOp op or compareOp op -/
noncomputable def OpR (X : Cx) (f : Value → Value → Sem Value) (r : R2) : Prop :=
  ∀ (pins : List (Addr × Obj)) (s : Shared) (σ : St) (H : Hp) (x y : V) (v u : Value) (Q : VK), Inv X pins σ H s → RelV x v → RelV y u → r x y H Q →
    wpAny (model X.prog X.w) X.A (f v u) (EP X pins σ Q) X.xe s
/-- a one-place operation -/
noncomputable def UnR (X : Cx) (f : Value → Sem Value) (r : V → Hp → VK → Prop) : Prop :=
  ∀ (pins : List (Addr × Obj)) (s : Shared) (σ : St) (H : Hp) (x : V) (v : Value) (Q : VK), Inv X pins σ H s → RelV x v → r x H Q →
    wpAny (model X.prog X.w) X.A (f v) (EP X pins σ Q) X.xe s
/-- a call of a value that is known (a builtin, a type) with values -/
noncomputable def CallR (X : Cx) (f : Value) (r : List V → Hp → VK → Prop) : Prop :=
  ∀ (pins : List (Addr × Obj)) (s : Shared) (σ : St) (H : Hp) (xs : List V) (us : List Value) (Q : VK), Inv X pins σ H s → Vals xs us → r xs H Q →
    wpAny (model X.prog X.w) X.A (call f us) (EP X pins σ Q) X.xe s
/-- a value's truth -/
noncomputable def TruR (X : Cx) (r : V → Hp → (Bool → Hp → Prop) → Prop) : Prop :=
  ∀ (pins : List (Addr × Obj)) (s : Shared) (σ : St) (H : Hp) (x : V) (v : Value) (Q : Bool → Hp → Prop), Inv X pins σ H s → RelV x v → r x H Q →
    wpAny (model X.prog X.w) X.A (truthy v) (TP X pins σ Q) X.xe s

noncomputable def tOp (r : R2) (ta tb : TE) : TE := fun σ H Q => ta σ H fun x H1 => tb σ H1 fun y H2 => r x y H2 Q
noncomputable def tUn (r : V → Hp → VK → Prop) (ta : TE) : TE := fun σ H Q => ta σ H fun x H1 => r x H1 Q
/-- ints in, under C, and a value out -/
noncomputable def rI (C : Int → Int → Prop) (g : Int → Int → V) : R2 := fun x y H Q => ∃ i j, x = .int i ∧ y = .int j ∧ C i j ∧ Q (g i j) H
noncomputable def rI0 (g : Int → Int → V) : R2 := fun x y H Q => ∃ i j, x = .int i ∧ y = .int j ∧ Q (g i j) H
noncomputable def rU (g : Int → V) : V → Hp → VK → Prop := fun x H Q => ∃ i, x = .int i ∧ Q (g i) H

section
variable {X : Cx} {a b c : Expr} {ta tb tc : TE} {pos : Pos}

theorem binT (ha : PE X a ta) (hb : PE X b tb) {pins : List (Addr × Obj)} {s : Shared} {σ : St} {H : Hp} {R : V → V → Hp → Prop} (I : Inv X pins σ H s)
    (h : ta σ H fun x H1 => tb σ H1 fun y H2 => R x y H2) {Q : Value → Shared → Prop} {f : Value → Value → Sem Value}
    (hf : ∀ v u s2 x y H2, Inv X pins σ H2 s2 → RelV x v → RelV y u → R x y H2 → wpAny (model X.prog X.w) X.A (f v u) Q X.xe s2) :
    wpAny (model X.prog X.w) X.A (eval a X.env) (fun v s₁ => wpAny (model X.prog X.w) X.A (eval b X.env) (fun u s₂ => wpAny (model X.prog X.w) X.A (f v u) Q X.xe s₂) X.xe s₁) X.xe s := by
  refine thn (ha pins s σ H _ I h) fun v s1 ⟨x, H1, I1, r1, q1⟩ => ?_
  refine thn (hb pins s1 σ H1 _ I1 q1) fun u s2 ⟨y, H2, I2, r2, q2⟩ => ?_
  exact hf v u s2 x y H2 I2 r1 r2 q2

theorem pe_op {op : Operator} {r : R2} (ho : OpR X (binaryOp op) r) (ha : PE X a ta) (hb : PE X b tb) : PE X (.BinOp a op b pos) (tOp r ta tb) := by
  intro pins s σ H Q I h
  exact wpAny_BinOp (binT ha hb I h fun v u s2 x y H2 I2 rx ry q => ho pins s2 σ H2 x y v u Q I2 rx ry q)
theorem pe_un {op : UnaryOp} {r : V → Hp → VK → Prop} (ho : UnR X (unaryOp op) r) (ha : PE X a ta) : PE X (.UnaryOp op a pos) (tUn r ta) := by
  intro pins s σ H Q I h
  exact UnaryOp_ (thn (ha pins s σ H _ I h) fun v s1 ⟨x, H1, I1, r1, q1⟩ => ho pins s1 σ H1 x v Q I1 r1 q1)
/-! ### ints -/
theorem opI {f : Value → Value → Sem Value} {C : Int → Int → Prop} {g : Int → Int → Int}
    (rule : ∀ (i j : Int) (t u : Tok) (s : Shared) (Q : Value → Shared → Prop) (E : Value → Shared → Prop), C i j → Q (.int (g i j) s.toks) { s with toks := s.toks + 1 } → wpAny (model X.prog X.w) X.A (f (.int i t) (.int j u)) Q E s) :
    OpR X f (rI C fun i j => .int (g i j)) := by
  intro pins s σ H x y v u Q I rx ry h
  obtain ⟨i, j, rfl, rfl, hc, q⟩ := h
  obtain ⟨t, rfl⟩ := rx
  obtain ⟨t', rfl⟩ := ry
  exact rule i j t t' s _ _ hc ⟨.int (g i j), H, I.tok _, ⟨_, rfl⟩, q⟩
theorem opI0 {f : Value → Value → Sem Value} {g : Int → Int → Int}
    (rule : ∀ (i j : Int) (t u : Tok) (s : Shared) (Q : Value → Shared → Prop) (E : Value → Shared → Prop), Q (.int (g i j) s.toks) { s with toks := s.toks + 1 } → wpAny (model X.prog X.w) X.A (f (.int i t) (.int j u)) Q E s) :
    OpR X f (rI0 fun i j => .int (g i j)) := by
  intro pins s σ H x y v u Q I rx ry h
  obtain ⟨i, j, rfl, rfl, q⟩ := h
  obtain ⟨t, rfl⟩ := rx
  obtain ⟨t', rfl⟩ := ry
  exact rule i j t t' s _ _ ⟨.int (g i j), H, I.tok _, ⟨_, rfl⟩, q⟩
theorem opB0 {f : Value → Value → Sem Value} {g : Int → Int → Bool}
    (rule : ∀ (i j : Int) (t u : Tok) (s : Shared) (Q : Value → Shared → Prop) (E : Value → Shared → Prop), Q (.bool (g i j)) s → wpAny (model X.prog X.w) X.A (f (.int i t) (.int j u)) Q E s) :
    OpR X f (rI0 fun i j => .bl (g i j)) := by
  intro pins s σ H x y v u Q I rx ry h
  obtain ⟨i, j, rfl, rfl, q⟩ := h
  obtain ⟨t, rfl⟩ := rx
  obtain ⟨t', rfl⟩ := ry
  exact rule i j t t' s _ _ ⟨.bl (g i j), H, I, rfl, q⟩

noncomputable def CDiv (i j : Int) : Prop := 0 < j ∧ j < 1073741824
noncomputable def CDivN (i j : Int) : Prop := j ≠ 0 ∧ j.natAbs < 1073741824
noncomputable def CPow (i j : Int) : Prop := 0 ≤ j ∧ j ≤ 1000000 ∧ i.natAbs < 2 ^ 64
noncomputable def CMul (i j : Int) : Prop := (-(2 ^ 64) < i ∧ i < 2 ^ 64) ∨ (-(2 ^ 64) < j ∧ j < 2 ^ 64)
theorem CMul.ok {i j : Int} (h : CMul i j) : IntMulOk i j := by
  rcases h with ⟨h1, h2⟩ | ⟨h1, h2⟩
  · exact .of_left (intBits_le_64 h1 h2)
  · exact .of_right (intBits_le_64 h1 h2)
theorem op_add : OpR X (binaryOp .Add) (rI0 fun i j => .int (i + j)) := opI0 fun _ _ _ _ _ _ _ q => add_int q
theorem op_sub : OpR X (binaryOp .Sub) (rI0 fun i j => .int (i - j)) := opI0 fun _ _ _ _ _ _ _ q => sub_int q
theorem op_mul : OpR X (binaryOp .Mult) (rI CMul fun i j => .int (i * j)) := opI fun _ _ _ _ _ _ _ hc q => mul_int q hc.ok
/-- // by a positive divisor -/
theorem op_fdiv : OpR X (binaryOp .FloorDiv) (rI CDiv fun i j => .int (i / j)) := opI fun i j _ _ _ _ _ hc q => by
  have h1 : (0 : Int) < j := hc.1
  have h2 : j < 1073741824 := hc.2
  exact floordiv_int (by omega) (by rw [Int.fdiv_eq_ediv_of_nonneg i (by omega)]; exact q) (.inl (PyProof.noPylong_small (by omega)))
/-- % by a positive divisor of any size -/
theorem op_mod : OpR X (binaryOp .Mod) (rI (fun _ j => 0 < j) fun i j => .int (i % j)) := opI fun i j _ _ _ _ _ hc q => by
  have h1 : (0 : Int) < j := hc
  exact mod_int' (by omega) (by rw [Int.fmod_eq_emod_of_nonneg i (by omega)]; exact q)
theorem unI {f : Value → Sem Value} {g : Int → Int}
    (rule : ∀ (i : Int) (t : Tok) (s : Shared) (Q : Value → Shared → Prop) (E : Value → Shared → Prop), Q (.int (g i) s.toks) { s with toks := s.toks + 1 } → wpAny (model X.prog X.w) X.A (f (.int i t)) Q E s) :
    UnR X f (rU fun i => .int (g i)) := by
  intro pins s σ H x v Q I rx h
  obtain ⟨i, rfl, q⟩ := h
  obtain ⟨t, rfl⟩ := rx
  exact rule i t s _ _ ⟨.int (g i), H, I.tok _, ⟨_, rfl⟩, q⟩
theorem un_neg : UnR X (unaryOp .USub) (rU fun i => .int (-i)) := unI fun _ _ _ _ _ q => neg_int q
/-! ### bools among ints: n += (a < b) -/
end

/-! ### comparisons -/
/-- the scalars that == tells apart as data does -/
noncomputable def scal : V → V → Bool
  | .non, .non => true | .non, .int _ => true | .int _, .non => true | .non, .bl _ => true | .bl _, .non => true | .non, .str _ => true | .str _, .non => true
  | .int _, .int _ => true | .bl _, .bl _ => true | .str _, .str _ => true | .byt _, .byt _ => true
  | .int _, .str _ => true | .str _, .int _ => true | .bl _, .str _ => true | .str _, .bl _ => true
  | _, _ => false
noncomputable def rEq : R2 := fun x y H Q => scal x y = true ∧ Q (.bl (decide (x = y))) H
noncomputable def rNe : R2 := fun x y H Q => scal x y = true ∧ Q (.bl (!decide (x = y))) H

section
variable {X : Cx} {a b c : Expr} {ta tb tc : TE} {pos : Pos}
theorem fin_bl {pins : List (Addr × Obj)} {σ : St} {H : Hp} {s : Shared} {Q : VK} {k k' : Bool} (I : Inv X pins σ H s) (q : Q (.bl k) H) (e : k = k') : EP X pins σ Q (.bool k') s := by
  subst e
  exact ⟨.bl k, H, I, rfl, q⟩
theorem op_lt : OpR X (compareOp .Lt) (rI0 fun i j => .bl (decide (i < j))) := opB0 fun _ _ _ _ _ _ _ q => lt_int q
theorem op_le : OpR X (compareOp .LtE) (rI0 fun i j => .bl (decide (i ≤ j))) := opB0 fun _ _ _ _ _ _ _ q => le_int q
theorem op_gt : OpR X (compareOp .Gt) (rI0 fun i j => .bl (decide (j < i))) := opB0 fun _ _ _ _ _ _ _ q => gt_int q
theorem op_ge : OpR X (compareOp .GtE) (rI0 fun i j => .bl (decide (j ≤ i))) := opB0 fun _ _ _ _ _ _ _ q => ge_int q
/-- is None, is not None: the right side a value none -/
theorem op_isN : OpR X (compareOp .Is) (fun x y H Q => y = .non ∧ Q (.bl (decide (x = .non))) H) := by
  intro pins s σ H x y v u Q I rx ry h
  obtain ⟨rfl, q⟩ := h
  cases ry
  refine is_none_gen (fin_bl I q ?_)
  cases x <;> first
    | (cases rx; rfl)
    | (obtain ⟨t, rfl⟩ := rx; rfl)
theorem op_notN : OpR X (compareOp .IsNot) (fun x y H Q => y = .non ∧ Q (.bl (!decide (x = .non))) H) := by
  intro pins s σ H x y v u Q I rx ry h
  obtain ⟨rfl, q⟩ := h
  cases ry
  refine isnot_none_gen (fin_bl I q ?_)
  cases x <;> first
    | (cases rx; rfl)
    | (obtain ⟨t, rfl⟩ := rx; rfl)

/-- is, is not of two objects that are tracked lists or instances -/
noncomputable def isObj : HO → Bool
  | .lst _ => true
  | .ins _ _ _ => true
  | _ => false
/-- two rules for one operation: by cases -/
theorem OpR.or {f : Value → Value → Sem Value} {r r' : R2} (h : OpR X f r) (h' : OpR X f r') : OpR X f (fun x y H Q => r x y H Q ∨ r' x y H Q) := by
  intro pins s σ H x y v u Q I rx ry q
  rcases q with q | q
  · exact h pins s σ H x y v u Q I rx ry q
  · exact h' pins s σ H x y v u Q I rx ry q

/-- a comparison as a value; hm: nomark b, or (for in, not in) by with_unfolding_all rfl -/
theorem pe_cmpR {op : CmpOp} {r : R2} (ho : OpR X (compareOp op) r) (ha : PE X a ta) (hb : PE X b tb) (hm : behindInMarks op b = false) : PE X (.Compare a [op] [b] pos) (tOp r ta tb) := by
  intro pins s σ H Q I h
  exact wpAny_Compare1 (binT ha hb I h fun v u s2 x y H2 I2 rx ry q => ho pins s2 σ H2 x y v u Q I2 rx ry q) hm
/-- a reading of a value as a test -/
noncomputable def tTest (t : TE) : TT := fun σ H Q => t σ H fun x H' => ∃ k, x = .bl k ∧ Q k H'
theorem pt_cmpR {op : CmpOp} {r : R2} (ho : OpR X (compareOp op) r) (ha : PE X a ta) (hb : PE X b tb) (hm : behindInMarks op b = false) : PT X (.Compare a [op] [b] pos) (tTest (tOp r ta tb)) := by
  intro pins s σ H Q I h
  refine wpAny_isTrue_Compare1 (thn (ha pins s σ H _ I h) fun v s1 ⟨x, H1, I1, r1, q1⟩ => thn (hb pins s1 σ H1 _ I1 q1) fun u s2 ⟨y, H2, I2, r2, q2⟩ =>
    thn (ho pins s2 σ H2 x y v u _ I2 r1 r2 q2) fun c s3 ⟨z, H3, I3, r3, k, e, q3⟩ => ?_) hm
  subst e
  cases r3
  exact wpAny_truthy_bool ⟨H3, I3, q3⟩
/-- a op1 b op2 c -/
noncomputable def tChain (r r' : R2) (ta tb tc : TE) : TE := fun σ H Q => ta σ H fun x H1 => tb σ H1 fun y H2 => r x y H2 fun z H3 => ∃ k, z = .bl k ∧
  (if k = true then tc σ H3 fun w' H4 => r' y w' H4 Q else Q (.bl false) H3)
theorem pe_chain {op op' : CmpOp} {r r' : R2} (ho : OpR X (compareOp op) r) (ho' : OpR X (compareOp op') r') (ha : PE X a ta) (hb : PE X b tb) (hc : PE X c tc)
    (hm : lastMarks [op, op'] [b, c] = false := by with_unfolding_all rfl) : PE X (.Compare a [op, op'] [b, c] pos) (tChain r r' ta tb tc) := by
  intro pins s σ H Q I h
  refine Compare_chain (thn (ha pins s σ H _ I h) fun v s1 ⟨x, H1, I1, r1, q1⟩ => chain_link (thn (hb pins s1 σ H1 _ I1 q1) fun u s2 ⟨y, H2, I2, r2, q2⟩ =>
    thn (ho pins s2 σ H2 x y v u _ I2 r1 r2 q2) fun d s3 ⟨z, H3, I3, r3, k, e, q3⟩ => ?_)) hm
  subst e
  cases r3
  refine wpAny_truthy_bool ?_
  cases k with
  | false => exact ite_ff ⟨.bl false, H3, I3, rfl, q3⟩
  | true => exact ite_tt (chain_last (thn (hc pins s3 σ H3 _ I3 q3) fun w' s4 ⟨z', H4, I4, r4, q4⟩ => ho' pins s4 σ H4 y z' u w' Q I4 r2 r4 q4))
theorem pt_chain {op op' : CmpOp} {r r' : R2} (ho : OpR X (compareOp op) r) (ho' : OpR X (compareOp op') r') (ha : PE X a ta) (hb : PE X b tb) (hc : PE X c tc)
    (hm : lastMarks [op, op'] [b, c] = false := by with_unfolding_all rfl) : PT X (.Compare a [op, op'] [b, c] pos) (tTest (tChain r r' ta tb tc)) := by
  intro pins s σ H Q I h
  refine isTrue_chain (thn (ha pins s σ H _ I h) fun v s1 ⟨x, H1, I1, r1, q1⟩ => test_link (thn (hb pins s1 σ H1 _ I1 q1) fun u s2 ⟨y, H2, I2, r2, q2⟩ =>
    thn (ho pins s2 σ H2 x y v u _ I2 r1 r2 q2) fun d s3 ⟨z, H3, I3, r3, k, e, q3⟩ => ?_)) hm
  subst e
  cases r3
  refine wpAny_truthy_bool ?_
  cases k with
  | false =>
    obtain ⟨k', e', q'⟩ := q3
    cases e'
    exact ite_ff ⟨H3, I3, q'⟩
  | true =>
    refine ite_tt (test_last (thn (hc pins s3 σ H3 _ I3 q3) fun w' s4 ⟨z', H4, I4, r4, q4⟩ => thn (ho' pins s4 σ H4 y z' u w' _ I4 r2 r4 q4) fun d' s5 ⟨z2, H5, I5, r5, k2, e2, q5⟩ => ?_))
    subst e2
    cases r5
    exact wpAny_truthy_bool ⟨H5, I5, q5⟩

/-! ### truth -/
/-- a value's truth by the abstract heap -/
noncomputable def TruV (K : PySem.W.Frag) (x : V) (H : Hp) (k : Bool) : Prop :=
  match x with
  | .non => k = false
  | .bl b => k = b
  | .int i => k = (i != 0)
  | .str y => y.length ≤ sizeLine ∧ k = ((y.length : Int) != 0)
  | .byt y => y.size ≤ sizeLine ∧ k = ((y.size : Int) != 0)
  | .ref p => (∃ xs, SqL K H p xs ∧ k = !xs.isEmpty) ∨ (∃ xs, SqT K H p xs ∧ k = !xs.isEmpty) ∨ ∃ kvs, H p = some (.dK kvs) ∧ k = !kvs.isEmpty
  | _ => False
theorem line63 : (sizeLine : Nat) < 2 ^ 63 := by rw [sizeLine_eq]; decide
/-! ### strs and bytes -/
noncomputable def PlainIxT (b : Expr) : Prop := ∀ o i, subscripted b false o i = operate [o, i] (getItem o i)
/-! ### scalar builtins, by CallR -/
theorem vals1 {x : V} {us : List Value} (r : Vals [x] us) : ∃ u, us = [u] ∧ RelV x u := by
  cases r with
  | cons r1 r2 => cases r2; exact ⟨_, rfl, r1⟩
theorem vals2 {x y : V} {us : List Value} (r : Vals [x, y] us) : ∃ u w', us = [u, w'] ∧ RelV x u ∧ RelV y w' := by
  cases r with
  | cons r1 r2 =>
    cases r2 with
    | cons r3 r4 => cases r4; exact ⟨_, _, rfl, r1, r3⟩
theorem call_min2 (hc : X.calm = true) : CallR X (.builtin "min") (fun xs H Q => ∃ i j, xs = [.int i, .int j] ∧ Q (.int (if j < i then j else i)) H) := by
  intro pins s σ H xs us Q I r h
  obtain ⟨i, j, rfl, q⟩ := h
  obtain ⟨u, w', rfl, ⟨t, rfl⟩, ⟨t', rfl⟩⟩ := vals2 r
  refine min_two_ints (I.ok.hd hc) fun h' tk k => ⟨_, H, I.kept k, ?_, q⟩
  by_cases hj : j < i
  · rw [if_pos hj, if_pos hj]; exact ⟨_, rfl⟩
  · rw [if_neg hj, if_neg hj]; exact ⟨_, rfl⟩
/-- len of a str, a bytes, a list, a tuple -/
noncomputable def LenV (K : PySem.W.Frag) (x : V) (H : Hp) (n : Nat) : Prop :=
  match x with
  | .str y => y.length ≤ sizeLine ∧ n = y.length
  | .byt y => y.size ≤ sizeLine ∧ n = y.size
  | .ref p => (∃ xs, SqL K H p xs ∧ n = xs.length) ∨ ∃ xs, SqT K H p xs ∧ n = xs.length
  | _ => False
end
end L2

namespace L2
open PySem PySem.Spec PyProof.Rows

/-! ### an instance, its attributes a map -/
structure ObjM (h : Heap) (x dx C : Addr) (mA : Str → Option Value) : Prop where
  obj : h.get? x = some (PySem.W.instObj C dx)
  ns : h.Ns1 dx mA
  ne : dx ≠ x

theorem lookIn_ns {h : Heap} {dx : Addr} {mA : Str → Option Value} (n : h.Ns1 dx mA) : ∃ od, h.get? dx = some od ∧ ∀ name, PySem.W.lookIn name od = some (mA name) := by
  obtain ⟨o, es, ep, ho, hd, hk, _, hm⟩ := n
  refine ⟨o, ho, fun name => ?_⟩
  have e := hm name
  unfold nsFind findBy at e
  rw [← Array.find?_toList] at e
  unfold PySem.W.lookIn
  rw [hd]
  dsimp only
  split
  · rename_i y q
    rw [q] at e
    exact congrArg some e
  · rename_i q
    rw [q] at e
    have a : es.toList.any (·.refKey) = false := by
      rw [List.any_eq_false]
      intro y hy
      obtain ⟨z, t, hkey⟩ := hk y (Array.mem_toList_iff.mp hy)
      simp [DictEntry.refKey, hkey]
    have a' : ¬ es.toList.any (·.refKey) = true := by rw [a]; exact Bool.false_ne_true
    rw [if_neg a']
    exact congrArg some e

theorem ObjM.look {h : Heap} {x dx C : Addr} {mA : Str → Option Value} (I : ObjM h x dx C mA) : ∃ od, PySem.W.InstAt h x (PySem.W.instObj C dx) C (some od) ∧ ∀ name, PySem.W.lookIn name od = some (mA name) :=
  let ⟨od, ho, hl⟩ := lookIn_ns I.ns
  ⟨od, ⟨I.obj, rfl, rfl, ho⟩, hl⟩

section
variable {prog : Program} {w : World} {A : Around} {E : Value → Shared → Prop} {s : Shared} {K : PySem.W.Frag} {x dx C f : Addr} {mA : Str → Option Value} {name : Str} {v : Value}

end

/-! ### the attributes as a list of pairs -/
noncomputable def putF (f : Str) (v : V) : List (Str × V) → List (Str × V)
  | [] => [(f, v)]
  | (g, x) :: r => if g = f then (g, v) :: r else (g, x) :: putF f v r
theorem RelO.some_of {v : V} {o : Option Value} (r : RelO (some v) o) : ∃ u, o = some u ∧ RelV v u := by
  cases o with
  | none => exact (show False from r).elim
  | some u => exact ⟨u, rfl, r⟩
section
variable {P : Program} {w : World} {H H' : Hp} {h h' : Heap} {a C dx : Addr} {fs fs' : List (Str × V)}
theorem ins_get (hok : HOk P w H h) (e : H a = some (.ins C dx fs)) : ∃ mA, ObjM h a dx C mA ∧ (∀ f, RelO (fs.lookup f) (mA f)) ∧ PySem.Within mA (fs.map (·.1)) ∧ fs.length ≤ 1000 ∧ H dx = some (.own a) := by
  obtain ⟨d, z, ne, ob, mA, n, r, q⟩ := (show ObjOk P w H h a (.ins C dx fs) from hok a _ e)
  exact ⟨mA, ⟨ob, n, ne⟩, r, q, z, d⟩
end

/-! ### what of the text a class must have -/
structure Cls (K : PySem.W.Frag) (C : Addr) : Prop where
  pg : PySem.W.plainGet K C Str.empty = true
  hd : PySem.W.hasDictIn K C = true
  po : PySem.W.plainOver K C = true
  sa : PySem.W.findIn K (.ref C) "__setattr__" = some (some (.builtin "object.__setattr__"))
theorem Cls.get {K : PySem.W.Frag} {C : Addr} (c : Cls K C) (f : Str) : PySem.W.plainGet K C f = true := c.pg
/-- no class of it has the name -/
noncomputable def NoAttr (K : PySem.W.Frag) (C : Addr) (f : Str) : Prop := PySem.W.findIn K (.ref C) f = some none
/-- a constant of the class -/
structure Con (K : PySem.W.Frag) (C : Addr) (f : Str) (v : V) (u : Value) : Prop where
  at_ : PySem.W.findIn K (.ref C) f = some (some u)
  rel : RelV v u
  get : PySem.W.specialIn K u "__get__" = some none
  cp : PySem.W.copiedNames.contains f = false
/-- a method: a plain def of the class or of one above it -/
structure Meth (K : PySem.W.Frag) (C : Addr) (m : Str) (f : Addr) : Prop where
  at_ : PySem.W.findIn K (.ref C) m = some (some (.ref f))
  fn : PySem.W.isFn K (.ref f) = true
  kp : PySem.W.keepIn K (.ref f) = true

section
variable {X : Cx} {pins : List (Addr × Obj)} {σ : St} {H : Hp} {s : Shared} {a C dx : Addr} {fs : List (Str × V)} {f : Str} {v : V} {A : Around} {E : Value → Shared → Prop}

end

/-! ### readings and rules -/
/-- e.f, an attribute of the instance -/
noncomputable def tFld (K : PySem.W.Frag) (ta : TE) (f : Str) : TE := fun σ H Q => ta σ H fun x H1 => ∃ a C dx fs v, x = .ref a ∧ H1 a = some (.ins C dx fs) ∧ Cls K C ∧ NoAttr K C f ∧ fs.lookup f = some v ∧ Q v H1
/-- e.f, a constant of the class -/
noncomputable def tCon (K : PySem.W.Frag) (ta : TE) (f : Str) : TE := fun σ H Q => ta σ H fun x H1 => ∃ a C dx fs v u, x = .ref a ∧ H1 a = some (.ins C dx fs) ∧ Cls K C ∧ Con K C f v u ∧ fs.lookup f = none ∧ Q v H1
/-- e.f = value -/
noncomputable def sFld (K : PySem.W.Frag) (ta tv : TE) (f : Str) : TS := fun D σ H => tv σ H fun y H1 => ta σ H1 fun x H2 => ∃ a C dx fs, x = .ref a ∧ H2 a = some (.ins C dx fs) ∧ Cls K C ∧ NoAttr K C f ∧ fs.length < 1000 ∧
  D.nx σ (upd H2 a (.ins C dx (putF f y fs)))
/-- an augmented operator on two values -/
noncomputable def InOp (X : Cx) (op : Operator) (rd : V → V → Hp → VK → Prop) : Prop :=
  ∀ (pins : List (Addr × Obj)) (s : Shared) (σ : St) (H : Hp) (x y : V) (u v : Value) (Q : VK), Inv X pins σ H s → RelV x u → RelV y v → rd x y H Q → wpAny (model X.prog X.w) X.A (inplaceOp op u v) (EP X pins σ Q) X.xe s
/-- e.f op= value -/
noncomputable def sFldAug (K : PySem.W.Frag) (ta tv : TE) (rd : V → V → Hp → VK → Prop) (f : Str) : TS := fun D σ H => ta σ H fun x H1 => ∃ a C dx fs v, x = .ref a ∧ H1 a = some (.ins C dx fs) ∧ Cls K C ∧ NoAttr K C f ∧ fs.lookup f = some v ∧
  tv σ H1 fun y H2 => rd v y H2 fun z H3 => ∃ dx' fs', H3 a = some (.ins C dx' fs') ∧ fs'.length < 1000 ∧ D.nx σ (upd H3 a (.ins C dx' (putF f z fs')))

section
variable {X : Cx} {o e value : Expr} {f : Str} {pos pos' tpos : Pos} {ta tv : TE}
noncomputable def rAdd : V → V → Hp → VK → Prop := fun x y H Q => ∃ i j, x = .int i ∧ y = .int j ∧ Q (.int (i + j)) H
noncomputable def rSub : V → V → Hp → VK → Prop := fun x y H Q => ∃ i j, x = .int i ∧ y = .int j ∧ Q (.int (i - j)) H
end

/-! ### isinstance -/
section
variable {X : Cx} {pins : List (Addr × Obj)} {σ : St} {H : Hp} {s : Shared} {A : Around} {E : Value → Shared → Prop} {Q : Value → Shared → Prop} {c : Value} {b : Bool}
/-- the type of a value, as the fragment's deciders take it; for an instance its class -/
inductive TyOf (K : PySem.W.Frag) (H : Hp) : V → Value → Prop where
  | non : TyOf K H .non (.type "NoneType")
  | bl (x : Bool) : TyOf K H (.bl x) (.type "bool")
  | int (i : Int) : TyOf K H (.int i) (.type "int")
  | str (x : Str) : TyOf K H (.str x) (.type "str")
  | flt (x : UInt64) : TyOf K H (.flt x) (.type "float")
  | lst {a : Addr} {xs : List V} (e : H a = some (.lst xs)) : TyOf K H (.ref a) (.type "list")
  | frz {a : Addr} {o : Obj} {xs : List V} (e : H a = some (.frz o (.lst xs))) : TyOf K H (.ref a) (.type "list")
  | tup {a : Addr} {xs : List V} (e : H a = some (.tup xs)) : TyOf K H (.ref a) (.type "tuple")
  | dK {a : Addr} {kvs : List (Key × V)} (e : H a = some (.dK kvs)) : TyOf K H (.ref a) (.type "dict")
  | dT {a : Addr} {kvs : List (List Key × V)} (e : H a = some (.dT kvs)) : TyOf K H (.ref a) (.type "dict")
  | ins {a C dx : Addr} {fs : List (Str × V)} (e : H a = some (.ins C dx fs)) (cl : Cls K C) (ha : PySem.W.findIn K (.ref C) "__class__" = some (some (.builtin "object.__class__")))
      (hn : PySem.W.specialIn K (.builtin "object.__class__") "__get__" = some (some (.builtin "getset_descriptor.__get__"))) (htk : PySem.W.takesIn K (.builtin "object.__class__") = some true)
      (hm : PySem.W.mroIn K C (.type "object") = some true) : TyOf K H (.ref a) (.ref C)
/-- isinstance(x, c) for one class c, a built-in or an own one: kitOne's answer -/
theorem isinst_ok {x : V} {u t : Value} (I : Inv X pins σ H s) (rx : RelV x u) (ty : TyOf X.K H x t) (e : PySem.W.kitOne X.K t c = some b) (h : ∀ tk, Q (.bool b) { s with toks := tk }) :
    wpAny (model X.prog X.w) A (call (.builtin "isinstance") [u, c]) Q E s := by
  cases ty with
  | non => cases (show u = Value.none from rx); exact PySem.W.kia_one PySem.W.kitx_none I.kIn True.intro e (fun z => nomatch z) h
  | bl y => cases (show u = Value.bool y from rx); exact PySem.W.kia_one PySem.W.kitx_bool I.kIn True.intro e (fun z => nomatch z) h
  | int i => obtain ⟨t, q⟩ := (show ∃ t, u = Value.int i t from rx); cases q; exact PySem.W.kia_one PySem.W.kitx_int I.kIn True.intro e (fun z => nomatch z) h
  | str y => obtain ⟨t, q⟩ := (show ∃ t, u = Value.str y t from rx); cases q; exact PySem.W.kia_one PySem.W.kitx_str I.kIn True.intro e (fun z => nomatch z) h
  | flt y => obtain ⟨t, q⟩ := (show ∃ t, u = Value.float y t from rx); cases q; exact PySem.W.kia_one PySem.W.kitx_float I.kIn True.intro e (fun z => nomatch z) h
  | @lst a xs ea =>
    cases (show u = Value.ref a from rx)
    obtain ⟨_, _, n, _, h1⟩ := (show ObjOk X.prog X.w H s.heap a (.lst xs) from I.hok a _ ea)
    exact PySem.W.kia_one PySem.W.kitx_list I.kIn ⟨_, h1, rfl⟩ e (fun z => nomatch z) h
  | @frz a ob xs ea =>
    cases (show u = Value.ref a from rx)
    obtain ⟨_, _, _, n, _, h1⟩ := (show ObjOk X.prog X.w H s.heap a (.frz ob (.lst xs)) from I.hok a _ ea)
    exact PySem.W.kia_one PySem.W.kitx_list I.kIn ⟨_, h1, rfl⟩ e (fun z => nomatch z) h
  | @tup a xs ea =>
    cases (show u = Value.ref a from rx)
    obtain ⟨_, _, _, p⟩ := (show ObjOk X.prog X.w H s.heap a (.tup xs) from I.hok a _ ea)
    obtain ⟨o, h1, h2, _⟩ := p
    exact PySem.W.kia_one PySem.W.kitx_tuple I.kIn ⟨o, h1, h2.1⟩ e (fun z => nomatch z) h
  | @dK a kvs ea =>
    cases (show u = Value.ref a from rx)
    obtain ⟨_, _, vs, _, p⟩ := (show ObjOk X.prog X.w H s.heap a (.dK kvs) from I.hok a _ ea)
    obtain ⟨o, es, ep, h1, h2, _⟩ := p
    exact PySem.W.kia_one PySem.W.kitx_dict I.kIn ⟨o, h1, h2.1⟩ e (fun z => nomatch z) h
  | @dT a kvs ea =>
    cases (show u = Value.ref a from rx)
    obtain ⟨_, _, xs, _, o, es, ep, h1, h2, _⟩ := (show ObjOk X.prog X.w H s.heap a (.dT kvs) from I.hok a _ ea)
    exact PySem.W.kia_one PySem.W.kitx_dict I.kIn ⟨o, h1, h2.1⟩ e (fun z => nomatch z) h
  | @ins a C dx fs ea cl ha hn htk hm =>
    cases (show u = Value.ref a from rx)
    obtain ⟨mA, O, _⟩ := ins_get I.hok ea
    obtain ⟨od, J, _⟩ := O.look
    exact PySem.W.kia_one (PySem.W.kitx_own (cl.get _) cl.hd ha hn htk hm) I.kIn J e (fun z => nomatch z) h
end
end L2

namespace L2
open PySem PySem.Spec PyProof.Rows

/-! ### room -/
structure Room (k : Nat) (A : Around) : Prop where
  hd : A.handled = none
  dp : A.depth + 3 * k + 5 < recursionLimit
  un : A.units + 16 * k + 200 < cLine
theorem Room.mono {j k : Nat} {A : Around} (r : Room k A) (h : j ≤ k) : Room j A := ⟨r.hd, by have := r.dp; omega, by have := r.un; omega⟩
theorem Room.deeper {k : Nat} {A : Around} (r : Room (k + 1) A) (env : Env) : Room k (A.deeper env) :=
  ⟨r.hd, by have := r.dp; show A.depth + 1 + 3 * k + 5 < _; omega, by have := r.un; show A.units + 3 + 16 * k + 200 < _; omega⟩
theorem Room.depth {k : Nat} {A : Around} (r : Room k A) : A.depth < recursionLimit := by have := r.dp; omega
theorem Room.units {k : Nat} {A : Around} (r : Room k A) : A.units + 64 < cLine := by have := r.un; omega
/-! ### argument lists and displays -/
noncomputable def tNil : TA := fun _ H Q => Q [] H
noncomputable def tCons (ta : TE) (tr : TA) : TA := fun σ H Q => ta σ H fun x H1 => tr σ H1 fun xs H2 => Q (x :: xs) H2
section
variable {X : Cx} {e : Expr} {es : List Expr} {te : TE} {t : TA} {pos : Pos}
theorem pa_nil : PA X [] tNil := fun _ _ _ _ H Q I h => Calls.spliced_nil ⟨[], H, I, .nil, h⟩
theorem pa_cons (ha : PE X e te) (hr : PA X es t) (hs : starEach (e :: es) X.env = (false, eval e X.env) :: starEach es X.env := by rfl) : PA X (e :: es) (tCons te t) := by
  intro pos pins s σ H Q I h
  rw [hs]
  show wpAny _ _ (spliced ((false, eval e X.env) :: backTo pos (starEach es X.env))) _ _ s
  refine Calls.spliced_cons (thn (ha pins s σ H _ I h) fun u s1 ⟨x, H1, I1, r1, q1⟩ => ?_)
  exact thn (hr pos pins s1 σ H1 _ I1 q1) fun us s2 ⟨xs, H2, I2, r2, q2⟩ => ⟨x :: xs, H2, I2, .cons r1 r2, q2⟩

/-- a tuple, a list of written items -/
noncomputable def tTup (t : TA) : TE := fun σ H Q => t σ H fun xs H1 => xs.length ≤ sizeLine ∧ ∀ p, H1 p = none → Q (.ref p) (upd H1 p (.tup xs))
noncomputable def tLst (t : TA) : TE := fun σ H Q => t σ H fun xs H1 => xs.length ≤ sizeLine ∧ ∀ p, H1 p = none → Q (.ref p) (upd H1 p (.lst xs))
theorem pe_tup {x1} (h : PA X es t) : PE X (.Tuple es x1 pos) (tTup t) := by
  intro pins s σ H Q I hq
  refine wpAny_Tuple_spliced (thn (h pos pins s σ H _ I hq) fun us s1 ⟨xs, H1, I1, r, z, q⟩ => ⟨by rw [← r.length]; exact z, ?_⟩)
  have hf : H1 s1.heap.objs.size = none := I1.hok.fresh (Nat.le_refl _)
  refine ⟨.ref s1.heap.objs.size, upd H1 s1.heap.objs.size (.tup xs), I1.laid (t' := s1.toks) (fun b u e => Heap.get?_push_of_some _ e) (Nat.le_refl _) ?_, rfl, q _ hf⟩
  exact ⟨z, us, r, ⟨_, Heap.get?_push_size _ rfl, ⟨rfl, rfl⟩, _, rfl⟩⟩
theorem pe_lst (h : PA X es t) : PE X (.List es pos) (tLst t) := by
  intro pins s σ H Q I hq
  refine wpAny_List_spliced (thn (h pos pins s σ H _ I hq) fun us s1 ⟨xs, H1, I1, r, z, q⟩ => ⟨by rw [← r.length]; exact z, ?_⟩)
  have hf : H1 s1.heap.objs.size = none := I1.hok.fresh (Nat.le_refl _)
  refine ⟨.ref s1.heap.objs.size, upd H1 s1.heap.objs.size (.lst xs), I1.laid (t' := s1.toks) (fun b u e => Heap.get?_push_of_some _ e) (Nat.le_refl _) ?_, rfl, q _ hf⟩
  exact ⟨z, us, 0, r, Heap.get?_push_size _ rfl⟩
end

/-! ### what a def promises -/
/-- a def's promise: the bound arguments in the parameters' order, the heap, the wanted end, the wanted exception -/
noncomputable abbrev Sp := List V → Hp → VK → XK → Prop
/-- how an exception lies behind a call (file 08 gives it): the callers' frames, abstract heap and state ahead of the call, the wish, the exception, the state -/
noncomputable abbrev CXT := List Env → Hp → Shared → XK → Value → Shared → Prop

/-- the state at a call -/
structure Env0 (P : Program) (w : World) (K : PySem.W.Frag) (mg : Str → Option Value) (base : Heap) (A : Around) (outer : List Env) (s : Shared) (H : Hp) : Prop where
  frames : A.frames = some outer
  mod : Mod K mg base
  bs : ∀ b o, base.get? b = some o → s.heap.get? b = some o ∧ H b = none
  bsz : base.objs.size ≤ s.heap.objs.size
  funs : s.heap.FunFrames base outer
  frf : ∀ b ∈ frs outer, H b = none
  hok : HOk P w H s.heap
  bare : AllBare s.gens
/-- a call's end -/
noncomputable def CE (outer : List Env) (P : Program) (w : World) (H : Hp) (s : Shared) (Q : VK) (u : Value) (s' : Shared) : Prop :=
  ∃ v H', s'.os = s.os ∧ AllBare s'.gens ∧ Un (frs outer) [] H H' s.heap s'.heap ∧ HOk P w H' s'.heap ∧ RelV v u ∧ Q v H'
noncomputable def CR (CX : CXT) (outer : List Env) (P : Program) (w : World) (H : Hp) (s : Shared) (Q : VK) (E : XK) (r : Result) (s' : Shared) : Prop :=
  match r with
  | .ok (.ret u) => CE outer P w H s Q u s'
  | .ok _ => False
  | .error e => CX outer H s E e s'
structure FnOk (P : Program) (w : World) (K : PySem.W.Frag) (mg : Str → Option Value) (base : Heap) (CX : CXT) (k : Nat) (f : Addr) (fd : FuncData) (ps : List Str) (sp : Sp) : Prop where
  len : ∀ vs H Q E, sp vs H Q E → vs.length = ps.length
  run : ∀ (A : Around) (outer : List Env) (s : Shared) (H : Hp) (args : Args) (us : List Value) (vs : List V) (Q : VK) (E : XK), Room k A → Env0 P w K mg base A outer s H → BindsTo s fd args (ps.zip us) → Vals vs us → sp vs H Q E →
    codeAny (model P w) A (.call (.ref f) args) (CR CX outer P w H s Q E) s
theorem FnOk.mono {P : Program} {w : World} {K : PySem.W.Frag} {mg : Str → Option Value} {base : Heap} {CX : CXT} {j k : Nat} {f : Addr} {fd : FuncData} {ps : List Str} {sp : Sp} (F : FnOk P w K mg base CX j f fd ps sp) (h : j ≤ k) :
    FnOk P w K mg base CX k f fd ps sp := ⟨F.len, fun A outer s H args us vs Q E hr => F.run A outer s H args us vs Q E (hr.mono h)⟩
/-- a weaker promise -/
theorem FnOk.imp {P : Program} {w : World} {K : PySem.W.Frag} {mg : Str → Option Value} {base : Heap} {CX : CXT} {k : Nat} {f : Addr} {fd : FuncData} {ps : List Str} {sp sp' : Sp} (F : FnOk P w K mg base CX k f fd ps sp)
    (h : ∀ vs H Q E, sp' vs H Q E → sp vs H Q E) : FnOk P w K mg base CX k f fd ps sp' :=
  ⟨fun vs H Q E q => F.len vs H Q E (h _ _ _ _ q), fun A outer s H args us vs Q E hr he hb hv hs => F.run A outer s H args us vs Q E hr he hb hv (h _ _ _ _ hs)⟩

section
variable {X : Cx} {pins : List (Addr × Obj)} {σ : St} {H : Hp} {s s' : Shared}
/-- from a body: what a callee wants -/
theorem Inv.env0 (I : Inv X pins σ H s) : Env0 X.prog X.w X.K X.mg X.base X.A X.stack s H :=
  ⟨I.ok.frames, I.ok.mod, I.bs, Nat.le_trans I.ok.bsz I.sz, I.stack, I.stkFree, I.hok, I.bare⟩
/-- behind a call -/
theorem Inv.after {Q : VK} {u : Value} (I : Inv X pins σ H s) (h : CE X.stack X.prog X.w H s Q u s') : EP X pins σ Q u s' := by
  obtain ⟨v, H', os, bare, un, hok, r, q⟩ := h
  obtain ⟨hh, g, d, t, os'⟩ := s'
  obtain rfl : os' = s.os := os
  exact ⟨v, H', I.call (h' := hh) (g' := g) (d' := d) (t' := t) (ch := []) un hok bare (fun b z => absurd z (by simp)), r, q⟩
end

/-! ### calls -/
/-- f(..): the written arguments, then the defaults dvs; E: what is wanted of an exception -/
noncomputable def tCall (sp : Sp) (dvs : List V) (E : XK) (t : TA) : TE := fun σ H Q => t σ H fun vs H1 => sp (vs ++ dvs) H1 Q E
/-- o.m(..) of an instance of the class at C -/
noncomputable def tMeth (C : Addr) (m : Str) (sp : Sp) (dvs : List V) (E : XK) (ta : TE) (t : TA) : TE := fun σ H Q => ta σ H fun x H1 => ∃ a dx fs, x = .ref a ∧ H1 a = some (.ins C dx fs) ∧ fs.lookup m = none ∧
  t σ H1 fun vs H2 => sp (x :: (vs ++ dvs)) H2 Q E
/-- C(..): a new instance and its dict, then __init__ -/
noncomputable def tMake (C : Addr) (sp : Sp) (dvs : List V) (E : XK) (t : TA) : TE := fun σ H Q => t σ H fun vs H1 => ∀ x dx, H1 x = none → H1 dx = none → dx ≠ x →
  sp (.ref x :: (vs ++ dvs)) (upd (upd H1 dx (.own x)) x (.ins C dx [])) (fun v H2 => v = .non ∧ Q (.ref x) H2) E

/-- how the parameters are bound: us the positional arguments, kw the keywords' values by name, ds the defaults that fill up -/
noncomputable def Binds (K : PySem.W.Frag) (fd : FuncData) (ps : List Str) (ds : List Value) : Prop :=
  ∀ (s : Shared) (us : List Value), K.In s.heap → (us ++ ds).length = ps.length → BindsTo s fd ⟨us, []⟩ (ps.zip (us ++ ds))
/-- every parameter is given -/
theorem Binds.all {K : PySem.W.Frag} {fd : FuncData} {ps : List Str} (h : ∀ us : List Value, us.length = ps.length → bindArgs fd ⟨us, []⟩ = pure (ps.zip us)) : Binds K fd ps [] := fun s us _ hl => by
  rw [List.append_nil] at hl ⊢
  exact .of_eq (h us hl)

/-- an exception of a callee reaches what this body wants of exceptions -/
noncomputable def Passes (CX : CXT) (X : Cx) (E : XK) : Prop := ∀ (pins : List (Addr × Obj)) (σ : St) (H : Hp) (s : Shared) (e : Value) (s' : Shared), Inv X pins σ H s → CX X.stack H s E e s' → X.xe e s'

section
variable {X : Cx} {CX : CXT} {k : Nat} {f C : Addr} {fd : FuncData} {ps : List Str} {sp : Sp} {dvs : List V} {ds : List Value} {E : XK} {x m : Str} {p pos apos : Pos} {e o : Expr} {es : List Expr} {ta : TE} {t : TA}

/-- the callee runs -/
theorem run_fn {pins : List (Addr × Obj)} {σ : St} {H : Hp} {s : Shared} {Q : VK} {us : List Value} {vs : List V} (F : FnOk X.prog X.w X.K X.mg X.base CX k f fd ps sp) (hr : Room k X.A) (hb : Binds X.K fd ps ds) (hd : Vals dvs ds) (hx : Passes CX X E)
    (I : Inv X pins σ H s) (r : Vals vs us) (h : sp (vs ++ dvs) H Q E) : wpAny (model X.prog X.w) X.A (call (.ref f) us) (EP X pins σ Q) X.xe s := by
  have r2 : Vals (vs ++ dvs) (us ++ ds) := r.append hd
  have hl : (us ++ ds).length = ps.length := by rw [← r2.length]; exact F.len _ _ _ _ h
  refine wpAny_call (codeAny_mono (F.run X.A X.stack s H ⟨us, []⟩ (us ++ ds) (vs ++ dvs) Q E hr I.env0 (hb s us I.kIn hl) r2 h) fun r s' hq => ?_)
  cases r with
  | error e => exact hx pins σ H s e s' I hq
  | ok fl =>
    cases fl with
    | ret u => exact I.after hq
    | next => exact False.elim hq
    | brk => exact False.elim hq
    | cont => exact False.elim hq

theorem pe_call (F : FnOk X.prog X.w X.K X.mg X.base CX k f fd ps sp) (hr : Room k X.A) (hg : Gl X x) (hm : X.mg x = some (.ref f)) (hk : PySem.W.keepIn X.K (.ref f) = true) (hb : Binds X.K fd ps ds) (hd : Vals dvs ds) (hx : Passes CX X E)
    (ha : PA X (e :: es) t) (hdb : (x == ("__debug__" : Str)) = false := by decide) (he : starEach (e :: es) X.env = (false, eval e X.env) :: starEach es X.env := by rfl) (hpl : (backTo pos (starEach es X.env)).any (·.1) = false := by rfl) :
    PE X (.Call (.Name x p) (e :: es) [] pos) (tCall sp dvs E t) := by
  intro pins s σ H Q I h
  refine wpAny_Call_Name_kw (ld_glob I hg hm ?_ hdb)
  refine PySem.W.callWith_K (h₀ := X.base) I.ok.mod.kin hk (thn (ha pos pins s σ H _ I h) fun us s1 ⟨vs, H1, I1, r, q⟩ => ⟨I1.kIn, ?_⟩) he hpl
  exact run_fn F hr hb hd hx I1 r q
/-- what a class must have to be made -/
structure Mk (K : PySem.W.Frag) (C f : Addr) : Prop where
  makes : PySem.W.makesIn K C = true
  init : PySem.W.findIn K (.ref C) "__init__" = some (some (.ref f))
  fn : PySem.W.isFn K (.ref f) = true
  kp : PySem.W.keepIn K (.ref C) = true

end

/-! ### keywords -/
/-- the values of the keywords, from the left -/
noncomputable def PK (X : Cx) (kws : List Keyword) (t : TA) : Prop :=
  ∀ (pos : Pos) (pins : List (Addr × Obj)) (s : Shared) (σ : St) (H : Hp) (Q : List V → Hp → Prop), Inv X pins σ H s → t σ H Q → wpAny (model X.prog X.w) X.A (evalAll ((backToKw pos (keywordEach kws X.env)).map (·.2))) (AP X pins σ Q) X.xe s
section
variable {X : Cx} {CX : CXT} {k : Nat} {f C : Addr} {fd : FuncData} {ps ks : List Str} {sp : Sp} {E : XK} {x m : Str} {p pos apos kpos : Pos} {e o : Expr} {es : List Expr} {kws : List Keyword} {te ta : TE} {t tk : TA} {nm : Option Str}
/-- how a call with keywords binds: g puts the positional values us and the keywords' values ws (names ks) in the parameters' order, defaults among them -/
structure KBinds (K : PySem.W.Frag) (fd : FuncData) (ps ks : List Str) (g : List Value → List Value → List Value) (gV : List V → List V → List V) : Prop where
  to : ∀ (s : Shared) (us ws : List Value), K.In s.heap → (g us ws).length = ps.length → BindsTo s fd ⟨us, ks.zip ws⟩ (ps.zip (g us ws))
  rel : ∀ {vs : List V} {us : List Value} {zs : List V} {ws : List Value}, Vals vs us → Vals zs ws → Vals (gV vs zs) (g us ws)
noncomputable def tCallK (sp : Sp) (gV : List V → List V → List V) (E : XK) (t tk : TA) : TE := fun σ H Q => t σ H fun vs H1 => tk σ H1 fun zs H2 => sp (gV vs zs) H2 Q E
variable {g : List Value → List Value → List Value} {gV : List V → List V → List V}
end

/-! ### a def's body keeps its promise -/
/-- names: the parameters first -/
structure FnScope (N P : List Str) (sc : Scope) : Prop where
  kind : sc.kind = .function
  co : sc.isCoroutine = false
  gen : sc.isGenerator = false
  nd : N.Nodup
  pre : N.take P.length = P
  par : ∀ x ∈ P, sc.names.lookup x = some .local ∨ sc.names.lookup x = some .cell
  nofree : ∀ y ∈ sc.names, y.2 ≠ .free

theorem bindL_out {kindOf : Str → Option NameKind} {x : Str} : ∀ {binds : List (Str × Value)} {m : Str → Option Value}, (∀ v, (x, v) ∉ binds) → bindL kindOf binds m x = m x
  | [], _, _ => rfl
  | (n, v) :: r, m, h => by
    unfold bindL
    rw [bindL_out fun w hw => h w (List.mem_cons_of_mem _ hw)]
    split
    · have : x ≠ n := by rintro rfl; exact h v List.mem_cons_self
      simp [this]
    · rfl
theorem bindC_out {kindOf : Str → Option NameKind} {x : Str} : ∀ {binds : List (Str × Value)} {m : Str → Option Value}, (∀ v, (x, v) ∉ binds) → bindC kindOf binds m x = m x
  | [], _, _ => rfl
  | (n, v) :: r, m, h => by
    unfold bindC
    rw [bindC_out fun w hw => h w (List.mem_cons_of_mem _ hw)]
    split
    · rfl
    · have : x ≠ n := by rintro rfl; exact h v List.mem_cons_self
      simp [this]
theorem bindL_get {kindOf : Str → Option NameKind} {x : Str} {v : Value} : ∀ {P : List Str} {vs : List Value} {i : Nat} {m : Str → Option Value}, P.Nodup → P[i]? = some x → vs[i]? = some v → kindOf x = some .local →
    bindL kindOf (P.zip vs) m x = some v
  | [], _, _, _, _, h, _, _ => by simp at h
  | _ :: _, [], _, _, _, _, h, _ => by simp at h
  | p :: P, w :: vs, 0, m, nd, h1, h2, hk => by
    simp at h1 h2; subst h1; subst h2
    show bindL kindOf ((p, w) :: P.zip vs) m p = _
    unfold bindL
    rw [bindL_out fun v hv => (List.nodup_cons.mp nd).1 (List.of_mem_zip hv).1, if_pos hk]
    simp
  | p :: P, w :: vs, i + 1, m, nd, h1, h2, hk => by
    show bindL kindOf ((p, w) :: P.zip vs) m x = _
    unfold bindL
    exact bindL_get (i := i) (List.nodup_cons.mp nd).2 (by simpa using h1) (by simpa using h2) hk
theorem bindC_get {kindOf : Str → Option NameKind} {x : Str} {v : Value} : ∀ {P : List Str} {vs : List Value} {i : Nat} {m : Str → Option Value}, P.Nodup → P[i]? = some x → vs[i]? = some v → kindOf x ≠ some .local →
    bindC kindOf (P.zip vs) m x = some v
  | [], _, _, _, _, h, _, _ => by simp at h
  | _ :: _, [], _, _, _, _, h, _ => by simp at h
  | p :: P, w :: vs, 0, m, nd, h1, h2, hk => by
    simp at h1 h2; subst h1; subst h2
    show bindC kindOf ((p, w) :: P.zip vs) m p = _
    unfold bindC
    rw [bindC_out fun v hv => (List.nodup_cons.mp nd).1 (List.of_mem_zip hv).1, if_neg hk]
    simp
  | p :: P, w :: vs, i + 1, m, nd, h1, h2, hk => by
    show bindC kindOf ((p, w) :: P.zip vs) m x = _
    unfold bindC
    exact bindC_get (i := i) (List.nodup_cons.mp nd).2 (by simpa using h1) (by simpa using h2) hk

/-- the names' values at the entry -/
noncomputable def start (N : List Str) (vs : List V) : St := vs.map some ++ List.replicate (N.length - vs.length) none

/-- the context of a def's body, at its entry; an exception leaves the frame, then lies as CX says -/
noncomputable def cxOf (CX : CXT) (P : Program) (w : World) (K : PySem.W.Frag) (mg : Str → Option Value) (base : Heap) (N : List Str) (qual : Str) (scope : Scope) (f : Addr) (cd : Value) (A : Around) (outer : List Env) (s : Shared) (H : Hp) (E : XK) : Cx where
  prog := P
  w := w
  K := K
  mg := mg
  base := base
  A := A.deeper (envOfC qual scope s.heap.objs.size f cd)
  N := N
  s0 := s
  H0 := H
  env := envOfC qual scope s.heap.objs.size f cd
  outer := outer
  stack := envOfC qual scope s.heap.objs.size f cd :: outer
  ex := []
  calm := true
  fn := fun _ => true
  pn := []
  xe := fun e s' => wpAny (model P w) (A.deeper (envOfC qual scope s.heap.objs.size f cd)) (leaving (envOfC qual scope s.heap.objs.size f cd) e) (fun _ s'' => CX outer H s E e s'') (fun e' s'' => CX outer H s E e' s'') s'

theorem cell_has {sc : Scope} {n : Nat} {x : Str} (h : sc.names.lookup x = some .cell) : ∃ c, (cellsFrom n sc.names []).lookup x = some c := by
  have q := PySem.W.cellsFrom_some sc.names n [] (.inl h)
  exact Option.isSome_iff_exists.mp q

theorem inv_start {CX : CXT} {P : Program} {w : World} {K : PySem.W.Frag} {mg : Str → Option Value} {base : Heap} {N ps : List Str} {qual : Str} {scope : Scope} {f : Addr} {cd : Value} {A : Around} {outer : List Env} {s s1 : Shared} {H : Hp} {E : XK} {us : List Value} {vs : List V}
    (S : FnScope N ps scope) (hd : A.handled = none) (e0 : Env0 P w K mg base A outer s H) (hl : vs.length = ps.length) (r : Vals vs us)
    (x : InCallC s s.heap.objs.size (bindL (envOfC qual scope s.heap.objs.size f cd).kindOf (ps.zip us) fun _ => none) (cellsFrom (s.heap.objs.size + 1) scope.names []) (bindC (envOfC qual scope s.heap.objs.size f cd).kindOf (ps.zip us) fun _ => none) s1) :
    Inv (cxOf CX P w K mg base N qual scope f cd A outer s H E) [] (start N vs) H s1 := by
  have hpl : ps.length ≤ N.length := by have := congrArg List.length S.pre; rw [List.length_take] at this; omega
  obtain ⟨h1, tk, rfl, hk⟩ := x.done
  have noA : ∀ b : Addr, b ∉ (cxOf CX P w K mg base N qual scope f cd A outer s H E).ex := fun b z => absurd (show b ∈ ([] : List Addr) from z) (by simp)
  refine ⟨⟨e0.mod, S.kind, rfl, rfl, Nat.le_refl _, fun y z c h1 h2 => ?_, fun y hy => ?_, fun y c _ h => ?_, fun _ => hd, Around.frames_deeper e0.frames, .inr ⟨rfl, rfl⟩, fun b z => absurd z (noA b), e0.bs, e0.bsz, fun b _ _ => noA b, fun b z => absurd z (noA b), e0.funs, e0.frf⟩,
    rfl, e0.bare, Un.kept hk, ⟨_, x.toInCall.ns, fun i y v h1 h2 h3 => ?_⟩, fun y c h => ⟨_, x.cell y c h⟩, e0.hok.fresh (Nat.le_refl _), fun y c h => ?_, fun p hp => absurd (show p ∈ ([] : List (Addr × Obj)) from hp) (by simp), e0.hok.kept hk, ?_⟩
  · exact name_of_addr x.apart (PySem.mem_of_lookup h1) (PySem.mem_of_lookup h2)
  · have hy : scope.names.lookup y = some .cell ∨ scope.names.lookup y = some .free := hy
    rcases hy with hy | hy
    · exact cell_has hy
    · exact absurd rfl (S.nofree _ (PySem.mem_of_lookup hy))
  · exact Nat.le_of_lt (x.above y c (PySem.mem_of_lookup h))
  · have hi : i < vs.length := by
      unfold start at h2
      by_cases hi : i < vs.length
      · exact hi
      · rw [List.getElem?_append_right (by simpa using hi)] at h2
        rw [List.getElem?_replicate] at h2
        split at h2 <;> cases h2
    have ha : vs[i]? = some v := by
      unfold start at h2
      rw [List.getElem?_append_left (by simpa using hi), List.getElem?_map] at h2
      cases e : vs[i]? with
      | none => rw [e] at h2; cases h2
      | some a => rw [e] at h2; cases h2; rfl
    obtain ⟨u, hu, rv⟩ := r.get ha
    have hp : ps[i]? = some y := by
      rw [← S.pre, List.getElem?_take_of_lt (by omega)]; exact h1
    have ndP : ps.Nodup := by rw [← S.pre]; exact S.nd.sublist (List.take_sublist _ _)
    refine ⟨u, rv, ?_⟩
    rcases S.par y (List.mem_of_getElem? hp) with k | k
    · exact .inl ⟨k, bindL_get ndP hp hu k⟩
    · obtain ⟨c, e⟩ := cell_has (n := s.heap.objs.size + 1) k
      refine .inr ⟨.inl k, c, e, ?_⟩
      have q := x.cell y c e
      rw [bindC_get ndP hp hu (by show scope.names.lookup y ≠ _; rw [k]; decide)] at q
      exact q
  · exact e0.hok.fresh (Nat.le_of_lt (x.above y c (PySem.mem_of_lookup h)))
  · unfold start
    show _ = N.length
    rw [List.length_append, List.length_map, List.length_replicate]
    omega

/-- THE RULE: a def (or a method) of the text, by its body. The body's reading t is chosen for each entry; it is run at the parameters' values -/
theorem fn_of {CX : CXT} {P : Program} {w : World} {K : PySem.W.Frag} {mg : Str → Option Value} {base : Heap} {k : Nat} {f : Addr} {name qual : Str} {params : Arguments} {body : List Stmt} {scope : Scope} {dV kV doc pm cdv ct oc : Value} {an od : Option Addr}
    {osl : Array (Option Value)} {N ps : List Str} {sp : Sp} (lk : K.lookup f = some ⟨oc, od, .func (PySem.W.fnOf name qual params body scope dV kV doc pm an cdv ct), osl⟩) (hcd : PySem.W.codeIn K cdv qual = true) (S : FnScope N ps scope)
    (len : ∀ vs H Q E, sp vs H Q E → vs.length = ps.length)
    (hbody : ∀ (A : Around) (outer : List Env) (s : Shared) (H : Hp) (vs : List V) (Q : VK) (E : XK), Room k (A.deeper (envOfC qual scope s.heap.objs.size f cdv)) → sp vs H Q E →
      ∃ t, PSs (cxOf CX P w K mg base N qual scope f cdv A outer s H E) body t ∧ t { nx := fun _ H' => Q .non H', rt := Q } (start N vs) H) :
    FnOk P w K mg base CX (k + 1) f (PySem.W.fnOf name qual params body scope dV kV doc pm an cdv ct) ps sp := by
  refine ⟨len, fun A outer s H args us vs Q E hr e0 hb r hsp => ?_⟩
  have hl := len _ _ _ _ hsp
  have KX : K.In s.heap := e0.mod.kin.keeps fun b o e => (e0.bs b o e).1
  have lim : s.heap.NoLimit := e0.mod.nolimit.keeps fun b o e => (e0.bs b o e).1
  have hkind : ∀ y ∈ ps.zip us, scope.names.lookup y.1 = some .local ∨ (scope.names.lookup y.1 = some .cell ∧ ((cellsFrom (s.heap.objs.size + 1) scope.names []).lookup y.1).isSome = true) := fun ⟨n, v⟩ hy => by
    rcases S.par n (List.of_mem_zip hy).1 with q | q
    · exact .inl q
    · exact .inr ⟨q, PySem.W.cellsFrom_some _ _ _ (.inl q)⟩
  refine codeAny_call_function hr.depth (KX _ _ lk) rfl S.co S.gen rfl (PySem.W.codeRec_of KX hcd) (hb _ _ _ _ ?_)
  refine wpAny_newFunctionEnv_cells S.kind hkind fun env he s1 x => ?_
  subst he
  refine ⟨lim.keeps x.toInCall.keep, codeAny_func ?_⟩
  obtain ⟨t, ht, hq⟩ := hbody A outer s H vs Q E (hr.deeper _) hsp
  have I : Inv (cxOf CX P w K mg base N qual scope f cdv A outer s H E) [] (start N vs) H s1 := inv_start S hr.hd e0 hl r x
  refine wpAny_mono (ht [] s1 (start N vs) H _ I hq) (fun fl s' hs => ?_) fun e s' hs => hs
  have fin : ∀ {σ' : St} {H' : Hp} {v : V} {u : Value}, Inv (cxOf CX P w K mg base N qual scope f cdv A outer s H E) [] σ' H' s' → RelV v u → Q v H' → CE outer P w H s Q u s' :=
    fun {σ' H' v u} J rv q => ⟨v, H', J.os, J.bare, J.base, J.hok, rv, q⟩
  cases fl with
  | ret u =>
    obtain ⟨v, σ', H', J, rv, q⟩ := hs
    exact fin J rv q
  | next =>
    obtain ⟨σ', H', J, q⟩ := hs
    exact fin (v := V.non) (u := Value.none) J rfl q
  | brk =>
    obtain ⟨_, _, _, q⟩ := hs
    exact False.elim q
  | cont =>
    obtain ⟨_, _, _, q⟩ := hs
    exact False.elim q
end L2

namespace L2
open PySem PySem.Spec PyProof.Rows
section
variable {X : Cx} {x : Str} {p pos : Pos} {e : Expr} {es : List Expr} {t : TA} {id T : String} {r : List V → Hp → VK → Prop}

noncomputable def tCB (r : List V → Hp → VK → Prop) (t : TA) : TE := fun σ H Q => t σ H fun vs H1 => r vs H1 Q
/-- f(e, ..), f a built-in function -/
theorem pe_callB (hc : CallR X (.builtin id) r) (hg : Gl X x) (hm : X.mg x = none) (hv : bootBuiltins x = some (.builtin id)) (ha : PA X (e :: es) t) (hn : x ≠ "__name__" := by decide) (hdb : (x == ("__debug__" : Str)) = false := by decide)
    (he : starEach (e :: es) X.env = (false, eval e X.env) :: starEach es X.env := by rfl) (hpl : (backTo pos (starEach es X.env)).any (·.1) = false := by rfl) : PE X (.Call (.Name x p) (e :: es) [] pos) (tCB r t) := by
  intro pins s σ H Q I h
  refine wpAny_Call_Name_kw (ld_blt I hg hm hv ?_ hn hdb)
  exact PyProof.Rows.callWith_builtin1 (thn (ha pos pins s σ H _ I h) fun us s1 ⟨vs, H1, I1, r1, q1⟩ => hc pins s1 σ H1 vs us Q I1 r1 q1) he hpl
/-- T(e, ..), T a built-in type -/
theorem pe_callTy (hc : CallR X (.type T) r) (hg : Gl X x) (hm : X.mg x = none) (hv : bootBuiltins x = some (.type T)) (ha : PA X (e :: es) t) (hn : x ≠ "__name__" := by decide) (hdb : (x == ("__debug__" : Str)) = false := by decide)
    (he : starEach (e :: es) X.env = (false, eval e X.env) :: starEach es X.env := by rfl) (hpl : (backTo pos (starEach es X.env)).any (·.1) = false := by rfl) : PE X (.Call (.Name x p) (e :: es) [] pos) (tCB r t) := by
  intro pins s σ H Q I h
  refine wpAny_Call_Name_kw (ld_blt I hg hm hv ?_ hn hdb)
  exact PyProof.Rows.callWith_type1 (thn (ha pos pins s σ H _ I h) fun us s1 ⟨vs, H1, I1, r1, q1⟩ => hc pins s1 σ H1 vs us Q I1 r1 q1) he hpl
end
end L2

namespace HT
open PySem PyProof.Rows

/-- t < u of tuples of ints -/
noncomputable def lexLt : List Int → List Int → Bool
  | [], [] => false
  | [], _ :: _ => true
  | _ :: _, [] => false
  | x :: xs, y :: ys => if x = y then lexLt xs ys else decide (x < y)
section
open PySem.SeqAt
open PySem.AutoSeq1 (wpAny_loadPart')
open PySem.MeetsSeq PySem.MeetsSeq2 PySem.MeetsSeq3

end

section
variable {prog : Program} {w : World} {A : Around} {E : Value → Shared → Prop} {s : Shared}

/-- t + u, t not empty -/
theorem cat_tup {t b : Addr} {vs ws : List Value} {Q : Value → Shared → Prop} (ht : IsTup s.heap t vs.toArray) (hb : IsTup s.heap b ws.toArray) (hv : vs ≠ [])
    (h1 : ws = [] → Q (.ref t) s) (h2 : ws ≠ [] → Q (.ref s.heap.objs.size) { s with heap := s.heap.push { cls := .type "tuple", data := .seq (vs ++ ws).toArray } })
    (hsz : vs.length + ws.length ≤ sizeLine) : wpAny (model prog w) A (binaryOp .Add (.ref t) (.ref b)) Q E s := by
  obtain ⟨⟨cls, dd, data, sl⟩, ho, hc, n, hd⟩ := id ht
  obtain ⟨⟨cls2, dd2, data2, sl2⟩, ho2, hc2, n2, hd2⟩ := id hb
  simp only at hc hd hc2 hd2
  subst hc hd hc2 hd2
  have e : vs.toArray ++ ws.toArray = (vs ++ ws).toArray := by simp
  by_cases hw : ws = []
  · exact concat_meets ⟨_, ho, rfl⟩ ⟨_, ho2, rfl⟩ noFill_tuple_add seq_tuple_add PySem.F.slot_tuple_add PySem.F.entry_tuple_add (PySem.F.args_tuple_add_2 _ _)
      (tuple_addW1 t b vs.toArray ws.toArray n n2 dd dd2 sl sl2 (by simpa using hv) (by simp [hw])) ⟨ho, ho2, h1 hw⟩
  · refine concat_meets ⟨_, ho, rfl⟩ ⟨_, ho2, rfl⟩ noFill_tuple_add seq_tuple_add PySem.F.slot_tuple_add PySem.F.entry_tuple_add (PySem.F.args_tuple_add_2 _ _)
      (tuple_addW2 t b vs.toArray ws.toArray n n2 dd dd2 sl sl2 (by simpa using hv) (by simpa using hw) (by rw [List.size_toArray, List.size_toArray]; exact hsz)) ⟨ho, ho2, ?_⟩
    rw [e]
    exact h2 hw

/-! ### t[a:b], not the whole -/
/-- a slice's bound as a place among n (d where it is left out) -/
noncomputable def sIx (n d : Nat) : Option Int → Nat
  | none => d
  | some v => if v < 0 then (v + (n : Int)).toNat else min v.toNat n
end
end HT

namespace L2
open PySem PySem.Spec PyProof.Rows

/-! ### the parts of a slice -/
noncomputable abbrev TO := St → Hp → (Option Int → Hp → Prop) → Prop
/-- a slice's part (left out, or an int) -/
noncomputable def PO (X : Cx) (e : Option Expr) (t : TO) : Prop :=
  ∀ (pins : List (Addr × Obj)) (s : Shared) (σ : St) (H : Hp) (Q : Option Int → Hp → Prop), Inv X pins σ H s → t σ H Q →
    wpAny (model X.prog X.w) X.A (evalPart e X.env) (fun u s' => ∃ o H', Inv X pins σ H' s' ∧ IsPart u o ∧ Q o H') X.xe s
noncomputable def tNoPart : TO := fun _ H Q => Q none H
noncomputable def tPart (t : TE) : TO := fun σ H Q => t σ H fun x H1 => ∃ i, x = .int i ∧ Q (some i) H1

section
variable {X : Cx} {e : Expr} {te : TE} {lo hi : Option Expr} {tl th : TO} {pos p2 : Pos}

theorem po_none : PO X none tNoPart := by
  intro pins s σ H Q I h
  rw [evalPart_none]
  exact wpAny_pure ⟨none, H, I, .none, h⟩
theorem po_some (h : PE X e te) : PO X (some e) (tPart te) := by
  intro pins s σ H Q I hw
  rw [evalPart_some]
  refine thn (h pins s σ H _ I hw) fun u s1 ⟨x, H1, I1, r1, q1⟩ => ?_
  obtain ⟨i, rfl, q⟩ := q1
  obtain ⟨t, rfl⟩ := r1
  exact ⟨some i, H1, I1, .int i t, q⟩

/-- what a slice of a value is, by values: the slice object stands at sl -/
noncomputable def SlR (X : Cx) (r : V → Option Int → Option Int → Hp → VK → Prop) : Prop :=
  ∀ (pins : List (Addr × Obj)) (s : Shared) (σ : St) (H : Hp) (x : V) (v vl vu : Value) (lo hi : Option Int) (sl : Addr) (Q : VK), Inv X pins σ H s → RelV x v → s.heap.IsSliceOf sl vl vu .none → IsPart vl lo → IsPart vu hi → r x lo hi H Q →
    ∃ T id, typeLookup (.type T) "__getitem__" = pure (some (.builtin id)) ∧ s.TypeIs v T ∧ wpAny (model X.prog X.w) X.A (getItem v (.ref sl)) (EP X pins σ Q) X.xe s
noncomputable def tSl (r : V → Option Int → Option Int → Hp → VK → Prop) (te : TE) (tl th : TO) : TE := fun σ H Q => te σ H fun x H1 => tl σ H1 fun l H2 => th σ H2 fun u H3 => r x l u H3 Q
/-- a[lo:hi], any a -/
theorem pe_slice {r : V → Option Int → Option Int → Hp → VK → Prop} (hr : SlR X r) (he : PE X e te) (hl : PO X lo tl) (hu : PO X hi th) : PE X (.Subscript e (.Slice lo hi none p2) pos) (tSl r te tl th) := by
  intro pins s σ H Q I h
  refine Subscript_ (thn (he pins s σ H _ I h) fun v s1 ⟨x, H1, I1, r1, q1⟩ => ?_)
  refine wpAny_Slice (thn (hl pins s1 σ H1 _ I1 q1) fun vl s2 ⟨l, H2, I2, pl, q2⟩ => thn (hu pins s2 σ H2 _ I2 q2) fun vu s3 ⟨u, H3, I3, pu, q3⟩ => ?_)
  rw [evalPart_none]
  refine wpAny_pure ?_
  have I4 : Inv X pins σ H3 { s3 with heap := s3.heap.push { cls := .type "slice", data := .fields #[vl, vu, .none] } } := I3.kept (t' := s3.toks) fun b ob q => Heap.get?_push_of_some _ q
  obtain ⟨T, id, hT, ht, hg⟩ := hr pins { s3 with heap := s3.heap.push { cls := .type "slice", data := .fields #[vl, vu, .none] } } σ H3 x v vl vu l u s3.heap.objs.size Q I4 r1 (Heap.IsSliceOf.new ..) pl pu q3
  show wpAny (model X.prog X.w) X.A (subscriptTail e (.Slice lo hi none p2) v (.ref s3.heap.objs.size)) (EP X pins σ Q) X.xe { s3 with heap := s3.heap.push { cls := .type "slice", data := .fields #[vl, vu, .none] } }
  exact tail_any (ops := [.ref s3.heap.objs.size, v]) ht hT hg (by with_unfolding_all rfl)

/-- the items of xs[lo:hi] -/
noncomputable def cutV (xs : List V) (lo hi : Option Int) : List V := (xs.drop (HT.sIx xs.length 0 lo)).take (HT.sIx xs.length xs.length hi - HT.sIx xs.length 0 lo)
theorem cutV_length (xs : List V) (lo hi : Option Int) : (cutV xs lo hi).length ≤ xs.length := by
  unfold cutV
  rw [List.length_take, List.length_drop]
  omega
/-- t[lo:hi], not the whole of it (the whole would be t itself) -/
noncomputable def rSlT (K : PySem.W.Frag) : V → Option Int → Option Int → Hp → VK → Prop := fun x lo hi H Q => ∃ a xs, x = .ref a ∧ SqT K H a xs ∧
  ¬ (HT.sIx xs.length 0 lo = 0 ∧ HT.sIx xs.length xs.length hi = xs.length) ∧ ∀ p, H p = none → Q (.ref p) (upd H p (.tup (cutV xs lo hi)))
/-! ### t < u, t + u -/
noncomputable def rLtT (K : PySem.W.Frag) : R2 := fun x y H Q => ∃ a b ns ms, x = .ref a ∧ y = .ref b ∧ SqT K H a (ns.map V.int) ∧ SqT K H b (ms.map V.int) ∧ Q (.bl (HT.lexLt ns ms)) H
/-- t + u, t not empty: u empty gives t itself -/
noncomputable def rCatT (K : PySem.W.Frag) : R2 := fun x y H Q => ∃ a b xs ys, x = .ref a ∧ y = .ref b ∧ SqT K H a xs ∧ SqT K H b ys ∧ xs ≠ [] ∧ xs.length + ys.length ≤ sizeLine ∧
  (ys = [] → Q (.ref a) H) ∧ (ys ≠ [] → ∀ p, H p = none → Q (.ref p) (upd H p (.tup (xs ++ ys))))
theorem Vals.nil_iff {xs : List V} {us : List Value} (r : Vals xs us) : us = [] ↔ xs = [] := by
  cases r with
  | nil => simp
  | cons _ _ => simp
theorem op_catT : OpR X (binaryOp .Add) (rCatT X.K) := by
  intro pins s σ H x y v u Q I rx ry h
  obtain ⟨a, b, xs, ys, rfl, rfl, ha, hb, hx, hz, q1, q2⟩ := h
  cases rx
  cases ry
  obtain ⟨its, r1, p1, _⟩ := I.tuple ha
  obtain ⟨its2, r2, p2, _⟩ := I.tuple hb
  refine HT.cat_tup p1 p2 (fun z => hx (r1.nil_iff.mp z)) (fun z => ⟨.ref a, H, I, rfl, q1 (r2.nil_iff.mp z)⟩) (fun z => ?_) (by rw [← r1.length, ← r2.length]; exact hz)
  refine ⟨.ref s.heap.objs.size, _, I.laid (t' := s.toks) (o := .tup (xs ++ ys)) (fun b ob q => Heap.get?_push_of_some _ q) (Nat.le_refl _) ?_, rfl, q2 (fun w => z (r2.nil_iff.mpr w)) _ (I.hok.fresh (Nat.le_refl _))⟩
  exact ⟨by rw [List.length_append]; exact hz, _, r1.append r2, IsTupN.new _ _⟩
end
end L2

namespace L2
open PySem PySem.Spec PyProof.Rows

/-! ### places -/
/-- the place that an index of any sign means -/
noncomputable def ixN (n : Nat) (i : Int) : Option Nat := if 0 ≤ i then (if i < n then some i.toNat else none) else if -(n : Int) ≤ i then some (i + n).toNat else none
noncomputable def atI {α : Type} (xs : List α) (i : Int) : Option α := (ixN xs.length i).bind fun j => xs[j]?
theorem ixN_seq {n : Nat} {i : Int} {j : Nat} (h : ixN n i = some j) : seqIndex? i n = some j ∧ j < n ∧ -(n : Int) ≤ i ∧ i < n := by
  unfold ixN at h
  by_cases h0 : 0 ≤ i
  · rw [if_pos h0] at h
    by_cases h1 : i < n
    · rw [if_pos h1] at h
      have e : i.toNat = j := Option.some.inj h
      exact ⟨by rw [seqIndex_of h0 h1, e], by omega, by omega, h1⟩
    · rw [if_neg h1] at h; cases h
  · rw [if_neg h0] at h
    by_cases h1 : -(n : Int) ≤ i
    · rw [if_pos h1] at h
      have e : (i + n).toNat = j := Option.some.inj h
      exact ⟨by rw [seqIndex_neg (by omega) h1, e], by omega, h1, by omega⟩
    · rw [if_neg h1] at h; cases h
theorem atI_get {α : Type} {xs : List α} {i : Int} {v : α} (h : atI xs i = some v) : ∃ j, seqIndex? i xs.length = some j ∧ xs[j]? = some v ∧ j < xs.length ∧ -(xs.length : Int) ≤ i ∧ i < xs.length := by
  unfold atI at h
  cases e : ixN xs.length i with
  | none => rw [e] at h; cases h
  | some j =>
    rw [e] at h
    obtain ⟨h1, h2, h3, h4⟩ := ixN_seq e
    exact ⟨j, h1, h, h2, h3, h4⟩
/-! ### what may be subscripted -/
/-- what stands as an index of a plain subscript -/
noncomputable def PlainIx (b : Expr) : Prop := ∀ o i, subscripted b false o i = operate [o, i] (getItem o i)
/-- a subscript by values -/
noncomputable def IxR (X : Cx) (r : R2) : Prop :=
  ∀ (value slice : Expr) (pins : List (Addr × Obj)) (s : Shared) (σ : St) (H : Hp) (x y : V) (v u : Value) (Q : VK), Inv X pins σ H s → RelV x v → RelV y u → r x y H Q →
    subscripted slice false v u = operate [v, u] (getItem v u) → wpAny (model X.prog X.w) X.A (subscriptTail value slice v u) (EP X pins σ Q) X.xe s
/-- a call of a builtin's method by values: the receiver, the arguments -/
noncomputable def MtR (X : Cx) (id : String) (r : V → List V → Hp → VK → Prop) : Prop :=
  ∀ (pins : List (Addr × Obj)) (s : Shared) (σ : St) (H : Hp) (x : V) (xs : List V) (v : Value) (us : List Value) (Q : VK), Inv X pins σ H s → RelV x v → Vals xs us → r x xs H Q →
    wpAny (model X.prog X.w) X.A (call (.builtin id) (v :: us)) (EP X pins σ Q) X.xe s
section
variable {X : Cx} {a b : Expr} {ta tb : TE} {pos : Pos}
theorem IxR.or {r r' : R2} (h : IxR X r) (h' : IxR X r') : IxR X (fun x y H Q => r x y H Q ∨ r' x y H Q) := by
  intro value slice pins s σ H x y v u Q I rx ry q hs
  rcases q with q | q
  · exact h value slice pins s σ H x y v u Q I rx ry q hs
  · exact h' value slice pins s σ H x y v u Q I rx ry q hs
/-- a[b] -/
theorem pe_ix {r : R2} (hr : IxR X r) (ha : PE X a ta) (hb : PE X b tb) (hs : PlainIx b) : PE X (.Subscript a b pos) (tOp r ta tb) := by
  intro pins s σ H Q I h
  exact Subscript_ (binT ha hb I h fun v u s2 x y H2 I2 rx ry q => hr a b pins s2 σ H2 x y v u Q I2 rx ry q (hs _ _))

noncomputable def rIxL (K : PySem.W.Frag) : R2 := fun x y H Q => ∃ p xs i v, x = .ref p ∧ y = .int i ∧ SqL K H p xs ∧ atI xs i = some v ∧ Q v H
noncomputable def rIxT (K : PySem.W.Frag) : R2 := fun x y H Q => ∃ p xs i v, x = .ref p ∧ y = .int i ∧ SqT K H p xs ∧ atI xs i = some v ∧ Q v H
noncomputable def rIxS : R2 := fun x y H Q => ∃ z i c, x = .str z ∧ y = .int i ∧ z.length ≤ sizeLine ∧ atI z.cps.toList i = some c ∧ Q (.str ⟨#[c]⟩) H
theorem ix_list : IxR X (rIxL X.K) := by
  intro value slice pins s σ H x y v u Q I rx ry h hs
  obtain ⟨p, xs, i, z, rfl, rfl, hq, he, q⟩ := h
  cases rx
  obtain ⟨t, rfl⟩ := ry
  obtain ⟨its, r, pl, hz⟩ := I.list hq
  obtain ⟨j, h1, h2, h3, h4, h5⟩ := atI_get he
  obtain ⟨w, ew, rw'⟩ := r.get h2
  have hl := r.length
  have hn := line63
  have fin : EP X pins σ Q w s := ⟨z, H, I, rw', q⟩
  by_cases h0 : 0 ≤ i
  · have hj : i.toNat = j := by
      rw [seqIndex_of h0 h5] at h1
      exact Option.some.inj h1
    exact item_listR pl.isList h0 (by omega) (by rw [hj]; simpa using ew) fin hs
  · have hj : (i + (its.toArray.size : Int)).toNat = j := by
      rw [seqIndex_neg (by omega) h4] at h1
      rw [List.size_toArray, ← hl]
      exact Option.some.inj h1
    exact subscriptTail_builtinR (x := w) pl.isList.typeIs slot_list_getitem.lookup
      (wpAny_getItem_list_neg (Q := fun r s' => r = w ∧ EP X pins σ Q r s') pl.isList (by omega) (by rw [List.size_toArray] <;> omega) (by omega) (by rw [hj]; simpa using ew) ⟨rfl, fin⟩) hs
theorem ix_tup : IxR X (rIxT X.K) := by
  intro value slice pins s σ H x y v u Q I rx ry h hs
  obtain ⟨p, xs, i, z, rfl, rfl, hq, he, q⟩ := h
  cases rx
  obtain ⟨t, rfl⟩ := ry
  obtain ⟨its, r, pl, hz⟩ := I.tuple hq
  obtain ⟨j, h1, h2, h3, h4, h5⟩ := atI_get he
  obtain ⟨w, ew, rw'⟩ := r.get h2
  have hl := r.length
  have hn := line63
  have fin : EP X pins σ Q w s := ⟨z, H, I, rw', q⟩
  exact subscriptTail_builtinR (x := w) pl.typeIs slot_tuple_getitem.lookup
    (getItem_tuple (j := j) (Q := fun r s' => r = w ∧ EP X pins σ Q r s') pl (by omega) (by omega) (by rw [List.size_toArray, ← hl]; exact h1) (by simpa using ew) ⟨rfl, fin⟩) hs
theorem ix_str : IxR X rIxS := by
  intro value slice pins s σ H x y v u Q I rx ry h hs
  obtain ⟨z, i, c, rfl, rfl, hz, he, q⟩ := h
  obtain ⟨t, rfl⟩ := rx
  obtain ⟨t', rfl⟩ := ry
  obtain ⟨j, h1, h2, h3, h4, h5⟩ := atI_get he
  have hl : z.cps.toList.length = z.length := by simp [Str.length]
  rw [hl] at h1 h4 h5
  have hn := line63
  exact tail_any (typeIs_str s z t) slot_str_getitem.lookup (getItem_str (c := c) (by
    have e1 : decide (i < -(2 ^ 63 : Int)) = false := decide_eq_false (by omega)
    have e2 : decide (i ≥ 2 ^ 63) = false := decide_eq_false (by omega)
    rw [e1, e2, Bool.or_false]) (by rw [h1]; simpa using h2) ⟨.str ⟨#[c]⟩, H, I.tok _, ⟨_, rfl⟩, q⟩) hs
/-- list, tuple or str -/
noncomputable def rIx (K : PySem.W.Frag) : R2 := fun x y H Q => rIxL K x y H Q ∨ rIxT K x y H Q ∨ rIxS x y H Q
theorem ix_seq : IxR X (rIx X.K) := ix_list.or (ix_tup.or ix_str)

/-! ### xs[i] = v, any sign -/
/-- the list's object behind a store -/
theorem mapSeq_set (its : List Value) (n j : Nat) (u : Value) : Obj.mapSeq (·.setIfInBounds j u) { cls := .type "list", data := .seq its.toArray n } = { cls := .type "list", data := .seq (its.set j u).toArray n } := by
  simp [Obj.mapSeq]
theorem Inv.lst {pins : List (Addr × Obj)} {σ : St} {H : Hp} {s : Shared} {p : Addr} {xs : List V} (I : Inv X pins σ H s) (h : H p = some (.lst xs)) :
    ∃ (its : List Value) (n : Nat), Vals xs its ∧ s.heap.get? p = some { cls := .type "list", data := .seq its.toArray n } ∧ xs.length ≤ sizeLine := by
  obtain ⟨z, its, n, r, e⟩ := I.hok p _ h
  exact ⟨its, n, r, e, z⟩
/-- the list at p is written by an update of its object -/
theorem Inv.lstUpd {pins : List (Addr × Obj)} {σ : St} {H : Hp} {s : Shared} {p : Addr} {xs ys : List V} {its its' : List Value} {n n' : Nat} {f : Obj → Obj} (I : Inv X pins σ H s) (h : H p = some (.lst xs))
    (ho : s.heap.get? p = some { cls := .type "list", data := .seq its.toArray n }) (hf : f { cls := .type "list", data := .seq its.toArray n } = { cls := .type "list", data := .seq its'.toArray n' }) (r : Vals ys its') (hz : ys.length ≤ sizeLine) (t : Nat) :
    Inv X pins σ (upd H p (.lst ys)) { s with heap := s.heap.update p f, toks := t } := by
  have e : (s.heap.update p f).get? p = some { cls := .type "list", data := .seq its'.toArray n' } := by
    rw [Heap.get?_update_self f ho (by rw [hf] <;> rfl), hf]
  refine I.write (x := p) (e := p) (by rw [h]; trivial) (.inl rfl) (fun b u hb q => (Heap.get?_update_other _ _ (Ne.symm hb)).trans q) ⟨_, e⟩ ?_
  exact ⟨hz, its', n', r, e⟩
noncomputable def rSetL : V → V → V → Hp → (Hp → Prop) → Prop := fun o i v H Q => ∃ p xs k j, o = .ref p ∧ i = .int k ∧ H p = some (.lst xs) ∧ ixN xs.length k = some j ∧ Q (upd H p (.lst (xs.set j v)))
theorem set_list : PSet X rSetL := by
  intro pins s σ H o i v ov iv u Q I ro ri rv h
  obtain ⟨p, xs, k, j, rfl, rfl, hp, hj, q⟩ := h
  cases ro
  obtain ⟨t, rfl⟩ := ri
  obtain ⟨its, n, r, ho, hz⟩ := I.lst hp
  obtain ⟨h1, h2, h3, h4⟩ := ixN_seq hj
  have hl := r.length
  have hn := line63
  have I' : Inv X pins σ (upd H p (.lst (xs.set j v))) { s with heap := s.heap.update p (Obj.mapSeq (·.setIfInBounds j u)) } :=
    I.lstUpd hp ho (mapSeq_set its n j u) (r.set rv j) (by rw [List.length_set]; exact hz) s.toks
  by_cases h0 : 0 ≤ k
  · have hk : k.toNat = j := by
      rw [seqIndex_of h0 h4] at h1
      exact Option.some.inj h1
    exact PySem.W.ki_setAt ho h0 (by omega) (by rw [List.size_toArray, ← hl]; exact h4) (by rw [hk]; exact ⟨_, I', q⟩)
  · have hk : (k + (its.toArray.size : Int)).toNat = j := by
      rw [seqIndex_neg (by omega) h3] at h1
      rw [List.size_toArray, ← hl]
      exact Option.some.inj h1
    exact PySem.W.ki_setBack ho (by omega) (by rw [List.size_toArray, ← hl]; exact h3) (by omega) (by rw [hk]; exact ⟨_, I', q⟩)

/-! ### slices -/
theorem slice_bounds (lo hi : Option Int) (n : Nat) : (sliceBounds lo hi none n).1 = ((HT.sIx n 0 lo : Nat) : Int) ∧ (sliceBounds lo hi none n).2.1 = ((HT.sIx n n hi : Nat) : Int) ∧ (sliceBounds lo hi none n).2.2 = 1 := by
  refine ⟨?_, ?_, rfl⟩
  · cases lo with
    | none => simp [sliceBounds, HT.sIx]
    | some i =>
      simp only [sliceBounds, HT.sIx, Option.getD_none, show (1 : Int) > 0 by decide, if_true]
      by_cases h : i < 0
      · simp only [h, if_true] <;> omega
      · simp only [h, if_false] <;> omega
  · cases hi with
    | none => simp [sliceBounds, HT.sIx]
    | some i =>
      simp only [sliceBounds, HT.sIx, Option.getD_none, show (1 : Int) > 0 by decide, if_true]
      by_cases h : i < 0
      · simp only [h, if_true] <;> omega
      · simp only [h, if_false] <;> omega
theorem slicePick_cut (its : List Value) (lo hi : Option Int) : slicePick its.toArray lo hi none = ((its.drop (HT.sIx its.length 0 lo)).take (HT.sIx its.length its.length hi - HT.sIx its.length 0 lo)).toArray := by
  obtain ⟨h1, h2, h3⟩ := slice_bounds lo hi its.toArray.size
  unfold slicePick
  rw [h1, h2, h3]
  simp only [sliceRange_one, pick_run, List.size_toArray] <;> rfl
/-- xs[lo:hi] of a list: a new list -/
noncomputable def rSlL (K : PySem.W.Frag) : V → Option Int → Option Int → Hp → VK → Prop := fun x lo hi H Q => ∃ a xs, x = .ref a ∧ SqL K H a xs ∧ ∀ p, H p = none → Q (.ref p) (upd H p (.lst (cutV xs lo hi)))
theorem sl_list : SlR X (rSlL X.K) := by
  intro pins s σ H x v vl vu lo hi sl Q I rx hs pl pu h
  obtain ⟨a, xs, rfl, hx, q⟩ := h
  cases rx
  obtain ⟨its, r, ht, hz⟩ := I.list hx
  have hlen := r.length
  refine ⟨"list", _, slot_list_getitem.lookup, ht.isList.typeIs, ?_⟩
  refine wpAny_getItem_list_slice ht.isList hs pl pu .none (by simp) ?_ (by rw [List.size_toArray] <;> omega)
  rw [slicePick_cut, ← hlen]
  refine ⟨.ref s.heap.objs.size, _, I.laid (t' := s.toks) (o := .lst (cutV xs lo hi)) (fun b ob q => Heap.get?_push_of_some _ q) (Nat.le_refl _) ?_, rfl, q _ (I.hok.fresh (Nat.le_refl _))⟩
  exact ⟨Nat.le_trans (cutV_length xs lo hi) hz, _, 0, (r.drop (HT.sIx xs.length 0 lo)).take (HT.sIx xs.length xs.length hi - HT.sIx xs.length 0 lo), Heap.get?_push_size _ rfl⟩

/-! ### in, not in: flat items -/
noncomputable def flatV : V → Bool
  | .non => true
  | .bl _ => true
  | .int _ => true
  | .str _ => true
  | _ => false
/-- == of flat values -/
noncomputable def eqV : V → V → Bool
  | .non, .non => true
  | .bl a, .bl b => a == b
  | .bl a, .int b => (if a then 1 else 0) == b
  | .int a, .bl b => a == (if b then 1 else 0)
  | .int a, .int b => a == b
  | .str a, .str b => a == b
  | _, _ => false
theorem eqAt_V {A : Around} {s : Shared} {y x : V} {u v : Value} (ry : RelV y u) (rx : RelV x v) (fy : flatV y = true) (fx : flatV x = true) : SeqAt.EqAt A s u v (eqV y x) := by
  cases y with
  | non =>
    cases ry
    cases x with
    | non => cases rx; exact SeqAt.EqAt.same _
    | bl b => cases rx; exact SeqAt.EqAt.none_bool b
    | int b => obtain ⟨t, rfl⟩ := rx; exact SeqAt.EqAt.none_int b t
    | str b => obtain ⟨t, rfl⟩ := rx; exact SeqAt.EqAt.none_str b t
    | _ => exact absurd (show false = true from fx) Bool.false_ne_true
  | bl a =>
    cases ry
    cases x with
    | non => cases rx; exact SeqAt.EqAt.bool_none a
    | bl b => cases rx; exact SeqAt.EqAt.bool_bool a b
    | int b => obtain ⟨t, rfl⟩ := rx; exact SeqAt.EqAt.bool_int a b t
    | str b => obtain ⟨t, rfl⟩ := rx; exact SeqAt.EqAt.bool_str a b t
    | _ => exact absurd (show false = true from fx) Bool.false_ne_true
  | int a =>
    obtain ⟨t', rfl⟩ := ry
    cases x with
    | non => cases rx; exact SeqAt.EqAt.int_none a t'
    | bl b => cases rx; exact SeqAt.EqAt.int_bool a t' b
    | int b => obtain ⟨t, rfl⟩ := rx; exact SeqAt.EqAt.int_int a t' b t
    | str b => obtain ⟨t, rfl⟩ := rx; exact SeqAt.EqAt.int_str a t' b t
    | _ => exact absurd (show false = true from fx) Bool.false_ne_true
  | str a =>
    obtain ⟨t', rfl⟩ := ry
    cases x with
    | non => cases rx; exact SeqAt.EqAt.str_none a t'
    | bl b => cases rx; exact SeqAt.EqAt.str_bool a t' b
    | int b => obtain ⟨t, rfl⟩ := rx; exact SeqAt.EqAt.str_int a t' b t
    | str b => obtain ⟨t, rfl⟩ := rx; exact SeqAt.EqAt.str_str a t' b t
    | _ => exact absurd (show false = true from fx) Bool.false_ne_true
  | _ => exact absurd (show false = true from fy) Bool.false_ne_true
/-- the items' answers, read off the values (a value's own answer does not lean on its token) -/
noncomputable def eqU (x : V) (u : Value) : Bool := match u with
  | .none => eqV .non x
  | .bool b => eqV (.bl b) x
  | .int i _ => eqV (.int i) x
  | .str z _ => eqV (.str z) x
  | _ => false
theorem eqU_of {x y : V} {u : Value} (r : RelV y u) (f : flatV y = true) : eqU x u = eqV y x := by
  cases y with
  | non => cases r; rfl
  | bl b => cases r; rfl
  | int i => obtain ⟨t, rfl⟩ := r; rfl
  | str z => obtain ⟨t, rfl⟩ := r; rfl
  | _ => exact absurd (show false = true from f) Bool.false_ne_true
theorem any_eqU {x : V} : ∀ {xs : List V} {us : List Value}, Vals xs us → xs.all flatV = true → us.any (eqU x) = xs.any fun y => eqV y x
  | _, _, .nil, _ => rfl
  | y :: xs, u :: us, .cons r t, f => by
    rw [List.all_cons, Bool.and_eq_true] at f
    rw [List.any_cons, List.any_cons, eqU_of r f.1, any_eqU t f.2]
theorem mem_eqAt {A : Around} {s : Shared} {x : V} {v : Value} (rx : RelV x v) (fx : flatV x = true) : ∀ {xs : List V} {us : List Value}, Vals xs us → xs.all flatV = true → ∀ u ∈ us, SeqAt.EqAt A s u v (eqU x u)
  | _, _, .nil, _ => fun u hu => by cases hu
  | y :: xs, u :: us, .cons r t, f => fun u' hu => by
    rw [List.all_cons, Bool.and_eq_true] at f
    rcases List.mem_cons.mp hu with rfl | hu
    · rw [eqU_of r f.1]; exact eqAt_V r rx f.1 fx
    · exact mem_eqAt rx fx t f.2 u' hu
noncomputable def inV (x : V) (xs : List V) : Bool := xs.any fun y => eqV y x
/-- x in a list or tuple of flat items -/
noncomputable def rIn (K : PySem.W.Frag) (neg : Bool) : R2 := fun x y H Q => ∃ p xs, y = .ref p ∧ (SqL K H p xs ∨ SqT K H p xs) ∧ flatV x = true ∧ xs.all flatV = true ∧ Q (.bl (if neg then !inV x xs else inV x xs)) H
theorem op_in_seq : OpR X (compareOp .In) (rIn X.K false) := by
  intro pins s σ H x y v u Q I rx ry h
  obtain ⟨p, xs, rfl, hq, fx, fs, q⟩ := h
  cases ry
  rcases hq with hq | hq
  · obtain ⟨its, r, pl, hz⟩ := I.list hq
    refine SeqAt.in_listAt (eqU x) pl.isList (fun w hw => mem_eqAt rx fx r fs w (by simpa using hw)) ⟨.bl _, H, I, rfl, ?_⟩
    rw [show its.toArray.any (eqU x) = its.any (eqU x) by simp, any_eqU r fs]
    exact q
  · obtain ⟨its, r, pl, hz⟩ := I.tuple hq
    refine SeqAt.in_tupleAt (eqU x) pl (fun w hw => mem_eqAt rx fx r fs w (by simpa using hw)) ⟨.bl _, H, I, rfl, ?_⟩
    rw [show its.toArray.any (eqU x) = its.any (eqU x) by simp, any_eqU r fs]
    exact q
/-! ### len, list(x), tuple(x) of any list or tuple that is read -/
theorem call_len_seq : CallR X (.builtin "len") (fun xs H Q => ∃ p ys, xs = [.ref p] ∧ (SqL X.K H p ys ∨ SqT X.K H p ys) ∧ Q (.int ys.length) H) := by
  intro pins s σ H xs us Q I r h
  obtain ⟨p, ys, rfl, hq, q⟩ := h
  obtain ⟨u, rfl, rx⟩ := vals1 r
  cases rx
  have hn := line63
  rcases hq with hq | hq
  · obtain ⟨its, r', pl, hz⟩ := I.list hq
    have hlen := r'.length
    exact Calls.call_len_list pl.isList (by simp only [List.size_toArray] <;> omega) ⟨.int ys.length, H, I.tok _, ⟨s.toks + 1, by rw [List.size_toArray, hlen]⟩, q⟩
  · obtain ⟨its, r', pl, hz⟩ := I.tuple hq
    have hlen := r'.length
    exact len_tuple pl (by simp only [List.size_toArray] <;> omega) ⟨.int ys.length, H, I.tok _, ⟨s.toks + 1, by rw [List.size_toArray, hlen]⟩, q⟩
theorem call_tuple_of : CallR X (.type "tuple") (fun xs H Q => ∃ p ys, xs = [.ref p] ∧ ((SqL X.K H p ys ∧ ∀ l, H l = none → Q (.ref l) (upd H l (.tup ys))) ∨ (SqT X.K H p ys ∧ Q (.ref p) H))) := by
  intro pins s σ H xs us Q I r h
  obtain ⟨p, ys, rfl, h⟩ := h
  obtain ⟨u, rfl, rx⟩ := vals1 r
  cases rx
  rcases h with ⟨hq, q⟩ | ⟨hq, q⟩
  · obtain ⟨its, r', pl, hz⟩ := I.list hq
    have hlen := r'.length
    refine call_tuple_list pl.isList (fun h' kp => ?_) (by simp only [List.size_toArray] <;> omega)
    have I1 : Inv X pins σ H { s with heap := h' } := I.kept (t' := s.toks) kp
    have I2 : Inv X pins σ (upd H h'.objs.size (.tup ys)) { s with heap := h'.push { cls := .type "tuple", data := .seq its.toArray } } :=
      I1.laid (t' := s.toks) (fun b o e => Heap.get?_push_of_some _ e) (Nat.le_refl _) (show ObjOk X.prog X.w _ _ _ (.tup ys) from ⟨hz, its, r', IsTupN.new _ _⟩)
    exact ⟨.ref h'.objs.size, _, I2, rfl, q _ (I1.hok.fresh (Nat.le_refl _))⟩
  · obtain ⟨its, r', pl, hz⟩ := I.tuple hq
    exact call_tuple_same pl ⟨.ref p, H, I, rfl, q⟩

/-! ### the call of a builtin's method: o.m(..) -/
/-- the value is of that builtin type -/
noncomputable def tyV (K : PySem.W.Frag) (T : String) (x : V) (H : Hp) : Prop := match x with
  | .str _ => T = "str"
  | .int _ => T = "int"
  | .ref p => (T = "list" ∧ ∃ xs, SqL K H p xs) ∨ (T = "tuple" ∧ ∃ o, K.lookup p = some o ∧ o.cls = .type "tuple" ∧ o.dict = none) ∨
      (T = "dict" ∧ ((∃ kvs, H p = some (.dK kvs)) ∨ ∃ kvs, H p = some (.dT kvs))) ∨ (T = "set" ∧ ∃ S n, H p = some (.set S n))
  | _ => False
theorem tyV_is {pins : List (Addr × Obj)} {σ : St} {H : Hp} {s : Shared} {T : String} {x : V} {v : Value} (I : Inv X pins σ H s) (r : RelV x v) (ty : tyV X.K T x H) :
    s.TypeIs v T ∧ ∀ a, v = .ref a → ∃ ob, s.heap.get? a = some ob ∧ ob.dict = none := by
  cases x with
  | str z =>
    obtain ⟨t, rfl⟩ := r
    cases (show T = "str" from ty)
    exact ⟨typeIs_str s z t, fun _ e => nomatch e⟩
  | int i =>
    obtain ⟨t, rfl⟩ := r
    cases (show T = "int" from ty)
    exact ⟨typeIs_int s i t, fun _ e => nomatch e⟩
  | ref p =>
    cases r
    rcases ty with ⟨rfl, xs, hq⟩ | ⟨rfl, o, hk, hc, hd⟩ | ⟨rfl, hk⟩ | ⟨rfl, S, n, hk⟩
    · obtain ⟨its, _, pl, _⟩ := I.list hq
      refine ⟨pl.isList.typeIs, fun a e => ?_⟩
      cases e
      obtain ⟨o, n, e, c, hd, _⟩ := pl
      exact ⟨o, e, hd⟩
    · refine ⟨⟨o, I.kIn p o hk, hc⟩, fun a e => ?_⟩
      cases e
      exact ⟨o, I.kIn _ o hk, hd⟩
    · have z : ∃ o, s.heap.get? p = some o ∧ o.ExactDict := by
        rcases hk with ⟨kvs, hk⟩ | ⟨kvs, hk⟩
        · obtain ⟨_, _, _, _, o, _, _, e, ex, _⟩ := I.hok p _ hk
          exact ⟨o, e, ex⟩
        · obtain ⟨_, _, _, _, o, _, _, e, ex, _⟩ := I.hok p _ hk
          exact ⟨o, e, ex⟩
      obtain ⟨o, e, ex⟩ := z
      refine ⟨⟨o, e, ex.1⟩, fun a e2 => ?_⟩
      cases e2
      exact ⟨o, e, ex.2.1⟩
    · obtain ⟨o, _, _, _, e, ex, _⟩ := I.hok p _ hk
      refine ⟨⟨o, e, ex.1⟩, fun a e2 => ?_⟩
      cases e2
      exact ⟨o, e, ex.2.1⟩
  | _ => exact False.elim ty
noncomputable def tBM0 (K : PySem.W.Frag) (T : String) (r : V → List V → Hp → VK → Prop) (to : TE) : TE := fun σ H Q => to σ H fun x H1 => tyV K T x H1 ∧ r x [] H1 Q
noncomputable def tBM (K : PySem.W.Frag) (T : String) (r : V → List V → Hp → VK → Prop) (to : TE) (t : TA) : TE := fun σ H Q => to σ H fun x H1 => tyV K T x H1 ∧ t σ H1 fun xs H2 => r x xs H2 Q
variable {o e : Expr} {es : List Expr} {to : TE} {t : TA} {name : Str} {apos cpos : Pos} {T id : String} {r : V → List V → Hp → VK → Prop}
theorem pe_bm (pa : PlainAttrs T) (slot : Slot T name id) (hty : typeOf (.builtin id) = pure (.type "method_descriptor")) (hm : MtR X id r) (ho : PE X o to) (ha : PA X (e :: es) t)
    (hbase : attributeBase o name X.env (eval o X.env) = eval o X.env := by rfl)
    (hfew : ((backTo cpos (starEach (e :: es) X.env)).all (fun x => !x.1) && (backToKw cpos (keywordEach [] X.env)).all (fun x => x.1.isSome)
      && decide ((e :: es).length + ([] : List Keyword).length + (if ([] : List Keyword).isEmpty then 0 else 1) < 30)) = true := by rfl)
    (hline : (apos.endLine == cpos.line) = true := by rfl) (hs : starEach (e :: es) X.env = (false, eval e X.env) :: starEach es X.env := by rfl) (hplain : (backTo cpos (starEach es X.env)).any (·.1) = false := by rfl) :
    PE X (.Call (.Attribute o name apos) (e :: es) [] cpos) (tBM X.K T r to t) := by
  intro pins s σ H Q I h
  refine wpAny_Call_method_late hbase hfew hline rfl (thn (ho pins s σ H _ I h) fun v s1 ⟨x, H1, I1, r1, ty, q1⟩ => ?_)
  obtain ⟨h1, h2⟩ := tyV_is I1 r1 ty
  refine ⟨T, id, pa, slot, hty, h1, h2, ?_⟩
  have hA := ha cpos pins s1 σ H1 _ I1 q1
  rw [hs] at hA ⊢
  refine Calls.callWith_builtin (by show (false || (backTo cpos (starEach es X.env)).any (·.1)) = false; rw [hplain] <;> rfl) (Calls.evalArgs_plain ?_)
  exact thn hA fun us s2 ⟨vs, H2, I2, r2, q2⟩ => hm pins s2 σ H2 x vs v us Q I2 r1 r2 q2
/- xs.append(e), list.index on a module's tuple .. are MtR facts of 06m -/
end
end L2

namespace L2
open PySem PySem.Spec PyProof.Rows

noncomputable def MtM (X : Cx) (id : String) (r : V → List V → Hp → VK → Prop) : Prop :=
  ∀ (pins : List (Addr × Obj)) (s : Shared) (σ : St) (H : Hp) (x : V) (xs : List V) (v : Value) (us : List Value) (Q : VK), Inv X pins σ H s → RelV x v → Vals xs us → r x xs H Q →
    wpAny (model X.prog X.w) X.A (call (.builtin id) (v :: us)) (EP X pins σ Q) X.xe s

/-! ### lists of values -/
theorem Vals.one : ∀ {x : V} {us : List Value}, Vals [x] us → ∃ u, us = [u] ∧ RelV x u
  | _, _, .cons r .nil => ⟨_, rfl, r⟩
theorem Vals.two : ∀ {x y : V} {us : List Value}, Vals [x, y] us → ∃ u v, us = [u, v] ∧ RelV x u ∧ RelV y v
  | _, _, _, .cons r (.cons q .nil) => ⟨_, _, rfl, r, q⟩
theorem Vals.rep {xs : List V} {us : List Value} (h : Vals xs us) : ∀ k : Nat, Vals (List.replicate k xs).flatten (List.replicate k us).flatten
  | 0 => .nil
  | k + 1 => by
    rw [List.replicate_succ, List.replicate_succ, List.flatten_cons, List.flatten_cons]
    exact Vals.append h (Vals.rep h k)
theorem foldl_rep (its : List Value) : ∀ (k : Nat) (acc : List Value),
    List.foldl (fun x1 x2 => x1 ++ x2) acc.toArray (List.replicate k its.toArray) = (acc ++ (List.replicate k its).flatten).toArray
  | 0, acc => by simp
  | k + 1, acc => by
    have e : acc.toArray ++ its.toArray = (acc ++ its).toArray := by simp
    have e2 : (acc ++ its) ++ (List.replicate k its).flatten = acc ++ (List.replicate (k + 1) its).flatten := by
      rw [List.replicate_succ, List.flatten_cons, List.append_assoc]
    rw [← e2, ← foldl_rep its k (acc ++ its), ← e, List.replicate_succ, List.foldl_cons]

section
variable {X : Cx} {pins : List (Addr × Obj)} {σ : St} {H : Hp} {s : Shared} {l b : Addr} {xs ys zs : List V}

/-! ### the two steps: a tracked list is rewritten, a new list is laid -/
theorem Inv.lset {its its' : List Value} {n : Nat} {f : Array Value → Array Value} {t' : Nat} (I : Inv X pins σ H s) (hH : H l = some (.lst xs))
    (e : s.heap.get? l = some { cls := .type "list", data := .seq its.toArray n }) (hf : f its.toArray = its'.toArray) (hv : Vals ys its') (hz : ys.length ≤ sizeLine) :
    Inv X pins σ (upd H l (.lst ys)) { s with heap := s.heap.update l (Obj.mapSeq f), toks := t' } := by
  have q := PySem.IsL.update e f
  rw [hf] at q
  refine I.write (x := l) (e := l) (by rw [hH]; exact trivial) (.inl rfl) (fun b' u hb hu => (Heap.get?_update_other s.heap (Obj.mapSeq f) (Ne.symm hb)).trans hu) ⟨_, q⟩ ?_
  exact ⟨hz, its', _, hv, q⟩
theorem Inv.lnew {its : List Value} {t' : Nat} (I : Inv X pins σ H s) (hv : Vals ys its) (hz : ys.length ≤ sizeLine) :
    Inv X pins σ (upd H s.heap.objs.size (.lst ys)) { s with heap := s.heap.push { cls := .type "list", data := .seq its.toArray }, toks := t' } :=
  I.laid (fun _ _ q => Heap.get?_push_of_some _ q) (Nat.le_refl _) ⟨hz, its, 0, hv, Heap.get?_push_size _ rfl⟩
theorem Inv.fresh (I : Inv X pins σ H s) : H s.heap.objs.size = none := I.hok.fresh (Nat.le_refl _)
theorem Inv.lstM (I : Inv X pins σ H s) (hH : H l = some (.lst xs)) : xs.length ≤ sizeLine ∧ ∃ (its : List Value) (n : Nat), Vals xs its ∧ xs.length = its.length ∧ s.heap.get? l = some { cls := .type "list", data := .seq its.toArray n } := by
  obtain ⟨z, its, n, r, e⟩ := I.hok l _ hH
  exact ⟨z, its, n, r, r.length, e⟩

theorem notLongL {n : Nat} (h : n ≤ sizeLine) : Builtin.List.listTooLong n = false := by
  unfold Builtin.List.listTooLong
  exact decide_eq_false (by omega)
end

section
variable {X : Cx}

/-! ### methods -/
noncomputable def rAppend : V → List V → Hp → VK → Prop := fun x vs H Q => ∃ l xs y, x = .ref l ∧ vs = [y] ∧ H l = some (.lst xs) ∧ xs.length < sizeLine ∧ Q .non (upd H l (.lst (xs ++ [y])))
theorem mt_append : MtM X "list.append" rAppend := by
  intro pins s σ H x vs v us Q I rx rv h
  obtain ⟨l, xs, y, rfl, rfl, hH, hz, q⟩ := h
  cases rx
  obtain ⟨u, rfl, ru⟩ := rv.one
  obtain ⟨z, its, n, r, hl, e⟩ := I.lstM hH
  refine call_meets F.slot_list_append ⟨_, e, rfl⟩ F.entry_list_append (F.args_list_append_2 _ _) (PySem.list_append l its.toArray n u (by rw [List.size_toArray]; omega)) ⟨e, ?_⟩
  refine ⟨.non, _, I.lset (its' := its ++ [u]) hH e (by simp) (r.append (.cons ru .nil)) ?_, rfl, q⟩
  rw [List.length_append, List.length_singleton]
  omega

noncomputable def rExtend : V → List V → Hp → VK → Prop := fun x vs H Q => ∃ l b xs zs, x = .ref l ∧ vs = [.ref b] ∧ H l = some (.lst xs) ∧ H b = some (.lst zs) ∧ xs.length + zs.length ≤ sizeLine ∧ Q .non (upd H l (.lst (xs ++ zs)))
noncomputable def rPop : V → List V → Hp → VK → Prop := fun x vs H Q => ∃ l xs y, x = .ref l ∧ vs = [] ∧ H l = some (.lst xs) ∧ xs[xs.length - 1]? = some y ∧ Q y (upd H l (.lst xs.dropLast))
noncomputable def rPopAt : V → List V → Hp → VK → Prop := fun x vs H Q => ∃ l xs i k y, x = .ref l ∧ vs = [.int i] ∧ H l = some (.lst xs) ∧ -(2 ^ 63) ≤ i ∧ i < 2 ^ 63 ∧ seqIndex? i xs.length = some k ∧ xs[k]? = some y ∧ Q y (upd H l (.lst (xs.eraseIdx k)))
noncomputable def rReverse : V → List V → Hp → VK → Prop := fun x vs H Q => ∃ l xs, x = .ref l ∧ vs = [] ∧ H l = some (.lst xs) ∧ Q .non (upd H l (.lst xs.reverse))
noncomputable def rClear : V → List V → Hp → VK → Prop := fun x vs H Q => ∃ l xs, x = .ref l ∧ vs = [] ∧ H l = some (.lst xs) ∧ Q .non (upd H l (.lst []))
/-! ### list + list, list += list, list * int -/
noncomputable def rCat : R2 := fun x y H Q => ∃ l b xs zs, x = .ref l ∧ y = .ref b ∧ H l = some (.lst xs) ∧ H b = some (.lst zs) ∧ xs.length + zs.length ≤ sizeLine ∧ ∀ p, H p = none → Q (.ref p) (upd H p (.lst (xs ++ zs)))
theorem op_cat : OpR X (binaryOp .Add) rCat := by
  intro pins s σ H x y v u Q I rx ry h
  obtain ⟨l, b, xs, zs, rfl, rfl, hH, hB, hz, q⟩ := h
  cases rx
  cases ry
  obtain ⟨z, its, n, r, hl, e⟩ := I.lstM hH
  obtain ⟨z2, its2, n2, r2, hl2, e2⟩ := I.lstM hB
  refine PySem.P.add_list e e2 ?_ (by rw [List.size_toArray, List.size_toArray]; omega)
  have ea : its.toArray ++ its2.toArray = (its ++ its2).toArray := by simp
  rw [ea]
  exact ⟨.ref _, _, I.lnew (t' := s.toks) (r.append r2) (by rw [List.length_append]; omega), rfl, q _ I.fresh⟩
/-- a list times an int (a negative one is nothing) -/
noncomputable def rRep : R2 := fun x y H Q => ∃ l k xs, x = .ref l ∧ y = .int k ∧ H l = some (.lst xs) ∧ -(2 ^ 63) ≤ k ∧ k < 2 ^ 63 ∧ xs.length * k.toNat ≤ sizeLine ∧
  ∀ p, H p = none → Q (.ref p) (upd H p (.lst (List.replicate k.toNat xs).flatten))
theorem len_rep {α : Type} (xs : List α) (k : Nat) : (List.replicate k xs).flatten.length = k * xs.length := by
  induction k with
  | zero => simp
  | succ k ih => rw [List.replicate_succ, List.flatten_cons, List.length_append, ih, Nat.succ_mul, Nat.add_comm]
theorem op_rep : OpR X (binaryOp .Mult) rRep := by
  intro pins s σ H x y v u Q I rx ry h
  obtain ⟨l, k, xs, rfl, rfl, hH, h1, h2, hz, q⟩ := h
  cases rx
  obtain ⟨t, rfl⟩ := ry
  obtain ⟨z, its, n, r, hl, e⟩ := I.lstM hH
  have hlen : its.toArray.size * k.toNat ≤ sizeLine := by rw [List.size_toArray, ← hl]; exact hz
  have hcap : ¬ its.toArray.size * k.toNat > (2 ^ 63 - 1) / 8 := by
    have : (sizeLine : Nat) ≤ (2 ^ 63 - 1) / 8 := by decide
    omega
  have hfit : ¬ (!Builtin.List.listFitsIndex k) = true := by
    rw [fitsIndex_both h1 h2]
    exact Bool.false_ne_true
  have hlong : ¬ Builtin.List.listTooLong (its.toArray.size * k.toNat) = true := by
    rw [notLongL hlen]
    exact Bool.false_ne_true
  have hnew : List.foldl (fun x1 x2 => x1 ++ x2) #[] (List.replicate (if its.toArray.isEmpty = true then 0 else k.toNat) its.toArray) = (List.replicate k.toNat its).flatten.toArray := by
    have f0 : ∀ m : Nat, List.foldl (fun x1 x2 => x1 ++ x2) #[] (List.replicate m its.toArray) = (List.replicate m its).flatten.toArray := fun m => by
      have := foldl_rep its m []
      rw [List.nil_append] at this
      exact this
    rw [f0]
    cases its with
    | nil => simp
    | cons a r' => rw [if_neg (by simp)]
  refine wpAny_binaryOp_repeat_ref (T := "list") (U := "int") (by decide) ⟨_, e, rfl⟩ (fun s' => typeIs_int s' k t) noFill_list_mul F.fills_int_mul F.slot_int_rmul repeat_list F.slot_int_index.lookup
    (call_meets F.slot_int_rmul (typeIs_int s k t) F.entry_int_rmul (F.args_int_rmul_2 _ _) (int___rmul___int_list k t l its.toArray n)
      ⟨e, rfl, ⟨_, e, rfl⟩, call_meets F.slot_list_mul ⟨_, e, rfl⟩ F.entry_list_mul (F.args_list_mul_2 _ _) (AutoListH.list___mul___list_int_3 l its.toArray n k t hfit hcap hlong) ⟨e, ?_⟩⟩)
  rw [hnew]
  exact ⟨.ref _, _, I.lnew (t' := s.toks) (r.rep k.toNat) (by rw [len_rep, Nat.mul_comm]; exact hz), rfl, q _ I.fresh⟩

/-! ### del xs[i] -/
end

/-! ### xs[a:b] = ys -/
section
variable {prog : Program} {w : World} {A : Around} {E : Value → Shared → Prop} {s : Shared}
set_option maxRecDepth 100000 in
end

section
variable {X : Cx}
end
end L2

namespace Att
open PySem PySem.W PySem.Calls PyProof.Rows

/-! ### the script -/
theorem ints_of_wellAll {P : Params} {h : Heap} : ∀ (ns : List Int) (vs : List Value), WellAll P h vs (ns.map WData.int) → IntsAre vs ns := by
  intro ns
  induction ns with
  | nil =>
    intro vs w
    rw [List.map_nil] at w
    cases w
    exact .nil
  | cons n ns ih =>
    intro vs w
    rw [List.map_cons] at w
    cases w with
    | cons a b =>
      cases a
      exact .cons _ _ (ih _ b)

theorem script_of {l : OpenLaw} {n : Nat} (hn : l.most = some n) {P : Params} {h : Heap} {args : List WData} {vals : List Value}
    (hpre : l.row.toRowW.claim.pre args = true) (hwl : WellAll P h vals args) :
    ∃ a vs ns, vals = [Value.ref a] ∧ args = [WData.list (ns.map WData.int)] ∧ h.get? a = some { cls := .type "list", data := .seq vs.toArray } ∧ IntsAre vs ns ∧ ns.length ≤ n := by
  have hsh : WShape.hasAll [] args [.list .int] = true := (pre_splitW hpre).1
  have hc : l.pre.holds [] { args := args } = true := (pre_splitW hpre).2
  obtain ⟨d, r, rfl, h1, h2⟩ := hasAllW_cons hsh
  obtain rfl := hasAllW_nil h2
  obtain ⟨xs, rfl, h3⟩ := hasW_list h1
  obtain ⟨ns, rfl⟩ := items_int h3
  have hlen : ns.length ≤ n := by
    unfold OpenLaw.pre at hc
    have h4 : (WTm.not (.lt (.lit (.int (n : Int))) (.len (.arg 0)))).holds [] { args := [.list (ns.map .int)] } = true := by
      have h4 := (holds_andW hc).1
      rw [hn] at h4
      exact h4
    have h5 := condW_of h4 (w_not (w_lt w_lit (w_len_list (w_arg rfl))))
    rw [List.length_map] at h5
    refine Nat.le_of_not_lt fun q => ?_
    have q' : (n : Int) < ((ns.length : Nat) : Int) := by omega
    first
      | (rw [decide_eq_true q'] at h5; exact absurd h5 (by decide))
      | (simp at h5; omega)
  cases hwl with
  | cons w1 w2 =>
    cases w2
    cases w1 with
    | list ho hall => exact ⟨_, _, ns, rfl, rfl, ho, ints_of_wellAll ns _ hall, hlen⟩

theorem post_true (l : OpenLaw) (args : List WData) : l.row.toRowW.claim.post args (.bool true) args = true :=
  postW_of (r := l.row.toRowW) (X := (true == true))
    (show WShape.has [] (.bool true) .bool = true by first | rfl | decide | simp [WShape.has, WShape.arms, WShape.armsAll])
    (show (WTm.eq .res (.lit (.bool true))).value [] { args := args, res := some (.bool true), after := args } = some (.bool (true == true)) from w_eq_bool (w_res rfl) w_lit) rfl

/-! ### the attachment: holds_open's last premise (the goal 'hc' behind k_head) from a wpAny of the law's body -/
/-- the same from a codeAny of the CALL (for a layer whose function contracts speak of calls) -/
theorem attach_call {l : OpenLaw} {n : Nat} {q : Program} {loose : List Str} {XP : (Str → Option Value) → Heap → Prop} {YP : World → Heap → Prop} {d : DefRec}
    (hn : l.most = some n) (hdf : d.params.defaults = [])
    (call : ∀ (w : World) (s₀ s₁ : Shared) (mg mb : Str → Option Value) (fa : Addr) (o : Obj) (pm cd doc : Value) (a : Addr) (vs : List Value) (ns : List Int),
      Ground q loose [] XP w s₀ mg mb s₁.heap → YP w s₁.heap →
      s₁.heap.get? fa = some o → o.data = .func (docDef d.name d.params d.body d.scope pm cd doc) → s₁.heap.CodeRec cd d.name → mg d.name = some (.ref fa) →
      s₁.heap.get? a = some { cls := .type "list", data := .seq vs.toArray } → IntsAre vs ns → ns.length ≤ n → s₁.gens = #[] →
      codeAny (model l.prog w) callerA (.call (.ref fa) ⟨[.ref a], []⟩) (fun r s' => r = .ok (.ret (.bool true)) ∧ OldK s₁.heap s'.heap ∧ s'.os = s₁.os ∧ AllBare s'.gens) s₁) :
    WalkO q loose XP YP l.row.toRowW d [] (fun f vs => PySem.call f vs) := by
  intro w s₀ s₁ mg mb G Y fa o pm cd doc dV kV ho hd hcd hD hmg hg args vals as hpre hlay hrd hwl hlo
  obtain rfl : dV = .none := Dflts.none hD hdf
  obtain rfl : kV = .none := Dflts.noKw hD
  obtain ⟨a, vs, ns, rfl, rfl, hobj, hints, hlen⟩ := script_of hn hpre hwl
  refine enter_call (codeAny_mono (call w s₀ s₁ mg mb fa o pm cd doc a vs ns G Y ho (fd_plain hd) hcd hmg hobj hints hlen hg) fun r s' hq => ?_)
  obtain ⟨rfl, h2, h3, h4⟩ := hq
  exact ⟨.inl ⟨.bool true, .bool true, [], rfl, fun _ => rfl, .bool true, post_true l _, fun _ => ⟨List.Pairwise.nil, fun _ hm => (nomatch hm)⟩⟩, h2, h3, h4⟩

/-! ### rules over ANY heap (no ledger) from facts about the written part K: the library's own take a ledger (News) for what they write -/
section
variable {prog : Program} {w : World} {A : Around} {E : Value → Shared → Prop} {s : Shared} {K : Frag}

/-! the whole heap as the ledger: makes every rule that writes through a ledger a rule over any heap -/
noncomputable def noObjs (h : Heap) : Heap := { h with objs := #[] }
noncomputable def ledger (h : Heap) (L d : Addr) : List (Addr × Obj) := (List.range h.objs.size).filterMap fun a => if a = L ∨ a = d then none else (h.get? a).map fun o => (a, o)
end
end Att

namespace L2
open PySem PySem.Spec PyProof.Rows

theorem vals_ints : ∀ {vs : List Value} {ns : List Int}, IntsAre vs ns → Vals (ns.map V.int) vs
  | _, _, .nil => .nil
  | _, _, .cons n t h => .cons ⟨t, rfl⟩ (vals_ints h)

/-- nothing is tracked but the script, known to the object (or it is an object of the module) -/
noncomputable def Only (H : Hp) : Prop := ∀ b, H b = none ∨ ∃ o xs, H b = some (.frz o (.lst xs))

/-- THE HEAD: the law's promise, at the heap behind the top. F, the promise of the law's def, may use that base is part of the heap (so K.In base, base.Ns mainGlobals mg stand in Mod) -/
theorem law_call {P : Program} {w : World} {K : PySem.W.Frag} {mg mb : Str → Option Value} {CX : CXT} {k : Nat} {fa a : Addr} {fd : FuncData} {x : Str} {sp : Sp} {s₁ : Shared} {vs : List Value} {ns : List Int}
    (KX : K.In s₁.heap) (hns : s₁.heap.Ns mainGlobals mg) (hb : s₁.heap.Ns builtinsNs mb) (hbb : ∀ x : Str, x ≠ "__name__" → mb x = bootBuiltins x) (hlim : s₁.heap.NoLimit) (hg : s₁.gens = #[])
    (ha : s₁.heap.get? a = some { cls := .type "list", data := .seq vs.toArray }) (hi : IntsAre vs ns) (hl : ns.length ≤ sizeLine) (hr : Room k callerA)
    (F : ∀ base : Heap, K.In base → base.Ns mainGlobals mg → FnOk P w K mg base CX k fa fd [x] sp) (hbind : ∀ (s : Shared) (u : Value), BindsTo s fd ⟨[u], []⟩ [(x, u)])
    (hsp : ∀ H : Hp, Only H → SqL K H a (ns.map V.int) → sp [.ref a] H (fun v _ => v = .bl true) fun _ _ _ => False)
    (hCX : ∀ H e s', CX [] H s₁ (fun _ _ _ => False) e s' → False) :
    codeAny (model P w) callerA (.call (.ref fa) ⟨[.ref a], []⟩) (fun r s' => r = .ok (.ret (.bool true)) ∧ OldK s₁.heap s'.heap ∧ s'.os = s₁.os ∧ AllBare s'.gens) s₁ := by
  have rv := vals_ints hi
  have lenV := hi.length
  -- from an abstract heap in which nothing but the script may be tracked
  have core : ∀ H : Hp, Only H → SqL K H a (ns.map V.int) → HOk P w H s₁.heap → (∀ b, H b ≠ none → b = a) → (H a ≠ none → K.lookup a = none) →
      codeAny (model P w) callerA (.call (.ref fa) ⟨[.ref a], []⟩) (fun r s' => r = .ok (.ret (.bool true)) ∧ OldK s₁.heap s'.heap ∧ s'.os = s₁.os ∧ AllBare s'.gens) s₁ := by
    intro H hO hS hok hA hK
    have base_of : ∀ {b : Addr} {o : Obj}, s₁.heap.get? b = some o → H b = none → (hidT s₁.heap H).get? b = some o := fun e n => hidT_get e n
    have noA : ∀ {b : Addr} {o : Obj} {es : Array DictEntry} {ep : Nat}, s₁.heap.get? b = some o → o.data = .dict es ep → H b = none := fun {b o es ep} e d => by
      cases q : H b with
      | none => rfl
      | some u =>
        have e' : b = a := hA b (by rw [q]; simp)
        subst e'
        rw [ha] at e; cases e
        have d' : Data.seq vs.toArray _ = Data.dict es ep := d
        cases d'
    have nsK : ∀ {b : Addr} {m : Str → Option Value}, s₁.heap.Ns b m → (hidT s₁.heap H).Ns b m := fun {b m} ⟨o, es, ep, e, d, r⟩ => ⟨o, es, ep, base_of e (noA e d), d, r⟩
    have hKb : K.In (hidT s₁.heap H) := fun b o e => base_of (KX b o e) (by
      cases q : H b with
      | none => rfl
      | some u =>
        have e' : b = a := hA b (by rw [q]; simp)
        subst e'
        rw [hK (by rw [q]; simp)] at e; cases e)
    have hM : Mod K mg (hidT s₁.heap H) := ⟨hKb, nsK hns, ⟨mb, nsK hb, hbb⟩, let ⟨mc, h1, h2⟩ := hlim; ⟨mc, nsK h1, h2⟩⟩
    have e0 : Env0 P w K mg (hidT s₁.heap H) callerA [] s₁ H := ⟨rfl, hM, fun b o e => of_hidT e, Nat.le_of_eq (hidT_size _ _), trivial, fun b hb => absurd (show b ∈ ([] : List Addr) from hb) (by simp), hok, .of_eq hg⟩
    refine codeAny_mono ((F _ hKb (nsK hns)).run callerA [] s₁ H ⟨[.ref a], []⟩ [.ref a] [.ref a] _ _ hr e0 (hbind s₁ (.ref a)) (.cons rfl .nil) (hsp H hO hS)) fun r s' h => ?_
    cases r with
    | error e => exact (hCX H e s' h).elim
    | ok fl =>
      cases fl with
      | next => exact False.elim h
      | brk => exact False.elim h
      | cont => exact False.elim h
      | ret u =>
        obtain ⟨v, H', os, bare, un, hok', r', q⟩ := h
        have q' : v = .bl true := q
        subst q'
        obtain rfl : u = Value.bool true := r'
        refine ⟨rfl, OldK.of_keep fun b o e => ?_, os, bare⟩
        cases q : H b with
        | none => exact un.keep b o e q (by intro z; exact absurd (show b ∈ ([] : List Addr) from z) (by simp)) (by simp)
        | some u =>
          rcases hO b with z | ⟨ob, xs, z⟩
          · rw [q] at z; cases z
          · have z2 := un.frzs b ob _ z
            obtain ⟨e1, _⟩ := hok b _ z
            obtain ⟨e2, _⟩ := hok' b _ z2
            rw [e] at e1; cases e1
            exact e2
  cases hk : K.lookup a with
  | some o =>
    -- the script is one of the module's own objects
    have e := KX a o hk
    rw [ha] at e
    cases e
    refine core (fun _ => none) (fun _ => .inl rfl) (.inr ⟨_, vs.toArray, _, hk, rfl, rfl, rfl, by rw [List.size_toArray, lenV]; exact hl, by simpa using rv⟩) (fun b u z => by have z' : (none : Option HO) = some u := z; cases z') (fun b z => absurd rfl z) fun z => absurd rfl z
  | none =>
    refine core (fun b => if b = a then some (.frz { cls := .type "list", data := .seq vs.toArray } (.lst (ns.map V.int))) else none) (fun b => ?_) (.inl (.inr ⟨{ cls := .type "list", data := .seq vs.toArray }, if_pos rfl⟩)) (fun b u z => ?_) (fun b z => ?_) fun _ => hk
    · by_cases hb : b = a
      · exact .inr ⟨_, _, if_pos hb⟩
      · exact .inl (if_neg hb)
    · by_cases hb : b = a
      · have z' := (if_pos hb).symm.trans z
        cases z'
        subst hb
        exact ⟨ha, by rw [List.length_map]; exact hl, vs, _, rv, ha⟩
      · have z' := (if_neg hb).symm.trans z
        cases z'
    · by_cases hb : b = a
      · exact hb
      · exact absurd (if_neg hb) z
end L2

namespace L2
open PySem PySem.Spec PyProof.Rows

noncomputable abbrev KOf {K : PySem.W.Frag} {h : Heap} (_ : K.In h) : PySem.W.Frag := K

/-- the goal that k_head leaves (case hc), from the law's promise. F gives the function object fd (K's own) once, then the promise over every base -/
theorem walk_of {l : PySem.W.OpenLaw} {n k : Nat} {q : Program} {loose : List Str} {XP : (Str → Option Value) → Heap → Prop} {YP : World → Heap → Prop} {d : DefRec} {K : Params → PySem.W.Frag} {CX : World → CXT} {sp : World → Sp} {x : Str}
    (hn : l.most = some n) (hn2 : n ≤ sizeLine) (hdf : d.params.defaults = []) (hr : Room k callerA)
    (hY : ∀ (w : World) (h : Heap), YP w h → (K w.params).In h)
    (F : ∀ (w : World) (mg : Str → Option Value) (fa : Addr) (h : Heap), (K w.params).In h → h.Ns mainGlobals mg → mg d.name = some (.ref fa) →
      ∃ fd : FuncData, (∀ (s : Shared) (u : Value), BindsTo s fd ⟨[u], []⟩ [(x, u)]) ∧
        ∀ base : Heap, (K w.params).In base → base.Ns mainGlobals mg → FnOk l.prog w (K w.params) mg base (CX w) k fa fd [x] (sp w))
    (hsp : ∀ (w : World) (H : Hp) (a : Addr) (ns : List Int), ns.length ≤ n → Only H → SqL (K w.params) H a (ns.map V.int) → sp w [.ref a] H (fun v _ => v = .bl true) fun _ _ _ => False)
    (hCX : ∀ (w : World) (H : Hp) (s : Shared) (e : Value) (s' : Shared), CX w [] H s (fun _ _ _ => False) e s' → False) :
    PySem.W.WalkO q loose XP YP l.row.toRowW d [] (fun f vs => PySem.call f vs) := by
  refine Att.attach_call hn hdf fun w s₀ s₁ mg mb fa o pm cd doc a vs ns G Y ho hd hcd hmg hobj hints hlen hg => ?_
  have KX := hY w _ Y
  obtain ⟨fd, hb, hF⟩ := F w mg fa _ KX G.T.g hmg
  exact law_call KX G.T.g G.T.b G.T.builtins G.T.nolimit hg hobj hints (Nat.le_trans hlen hn2) hr hF hb (fun H hO hS => hsp w H a ns hlen hO hS) fun H e s' => hCX w H s₁ e s'
end L2

/- THE LAST THEOREM (shape; LID, My.* are yours):
   My.Adr: a structure of the addresses that your layer names (classes, functions); My.Txt K t: a structure (Prop) of the equations over K;
   My.txt_mk : {K} {implicit addresses ..} (e1 : nsIn K mainGlobals "law" = some (some (.ref f))) (e2 : K.lookup f = some ⟨oc, od, .func (fnOf "law" "law" params body scope dV kV doc pm an cdv ct), sl⟩) (e3 : codeIn K cdv "law" = true) .. : ∃ t, My.Txt K t

set_option maxRecDepth 100000 in
set_option maxHeartbeats 0 in
theorem PySem.Challenge.cw_LID_holds : PySem.Challenge.rw_LID.Holds := by
  w_on; o_law; k_head; (case hw => w_witness2)
  k_fill
  refine L2.walk_of (l := PySem.Challenge.rw_LID) (n := 63) (k := 40) (x := "script") (CX := fun w => ..) (sp := fun _ => My.sp_law) rfl (by decide) rfl ⟨rfl, by decide, by decide⟩ (fun w h Y => PySem.W.kIn_of Y) ?F ?S ?C
  case F =>
    intro w mg fa h KX G hmg
    have T : ∃ t, My.Txt (L2.KOf KX) t := by
      dsimp only [L2.KOf]                          -- K must stand as «<heap const> w.params» for k_is
      refine' My.txt_mk ?e1 ?e2 ?e3 ..
      (case e1 => PySem.W.k_is)                    -- in the order: a name -> its address -> its object -> its parts
      (case e2 => PySem.W.k_is)
      ..
    obtain ⟨t, T⟩ := T
    have e0 := hmg.symm.trans (PySem.W.mg_of KX G T.law)
    cases e0                                       -- fa is the law's own address
    exact ⟨_, fun s u => .of_eq rfl, fun base kb nb => My.law_fn T kb nb⟩     -- if «.of_eq rfl» comes too early: refine' ⟨_, ?b, fun base kb nb => My.law_fn T kb nb⟩; exact fun s u => .of_eq rfl
  case S => exact fun w H a ns hl hO hS => ..
  case C => exact ..
(the tactic k_is has no namespace: write k_is) -/

/-! SHORT WORDS over the layer: a def of the text, its body, what a loop and a test want. -/
namespace L2
open PySem PySem.Spec PyProof.Rows

/-! ### the text by places -/
/-- the j-th statement of a class's body -/
noncomputable def inClass (s : Stmt) (j : Nat) : Stmt := match s with
  | .ClassDef _ _ _ body _ _ _ _ _ _ _ => body.getD j (.Pass ⟨0, 0, 0, 0⟩)
  | _ => .Pass ⟨0, 0, 0, 0⟩
noncomputable def defArgs (s : Stmt) : Arguments := match s with
  | .FunctionDef _ a _ _ _ _ _ _ _ _ => a
  | _ => { posonlyargs := [], args := [], vararg := none, kwonlyargs := [], kw_defaults := [], kwarg := none, defaults := [] }
noncomputable def defBody (s : Stmt) : List Stmt := match s with
  | .FunctionDef _ _ b _ _ _ _ _ _ _ => b
  | _ => []
noncomputable def defScope (s : Stmt) : Scope := match s with
  | .FunctionDef _ _ _ _ _ _ sc _ _ _ => sc
  | _ => { kind := .function, names := [], isGenerator := false, isCoroutine := false }

/-! ### no exception leaves a def -/
noncomputable abbrev CX0 : CXT := fun _ _ _ _ _ _ => False
noncomputable abbrev E0 : XK := fun _ _ _ => False
theorem pass0 {X : Cx} : Passes CX0 X E0 := fun _ _ _ _ _ _ _ h => h.elim

/-! ### a def (or method) of the text as it stands behind the top -/
structure Fun (K : PySem.W.Frag) (x qual : Str) (st : Stmt) (f : Addr) (fd : FuncData) : Prop where
  ex : ∃ (oc : Value) (od : Option Addr) (kV doc pm : Value) (an : Option Addr) (cdv ct : Value) (osl : Array (Option Value)),
    fd = PySem.W.fnOf x qual (defArgs st) (defBody st) (defScope st) .none kV doc pm an cdv ct ∧ K.lookup f = some ⟨oc, od, .func fd, osl⟩ ∧ PySem.W.codeIn K cdv qual = true
  kp : PySem.W.keepIn K (.ref f) = true
section
variable {P : Program} {w : World} {K : PySem.W.Frag} {mg : Str → Option Value} {base : Heap}
/-- THE RULE for a def: its body as a term of rules, and the reading of that term -/
theorem Fun.ok {x qual : Str} {st : Stmt} {f : Addr} {fd : FuncData} {N ps : List Str} {k : Nat} {sp : Sp} (F : Fun K x qual st f fd) (S : FnScope N ps (defScope st)) (len : ∀ vs H Q E, sp vs H Q E → vs.length = ps.length)
    (hbody : ∀ (cdv : Value) (A : Around) (outer : List Env) (s : Shared) (H : Hp) (vs : List V) (Q : VK) (E : XK), Room k (A.deeper (envOfC qual (defScope st) s.heap.objs.size f cdv)) → sp vs H Q E →
      ∃ t, PSs (cxOf CX0 P w K mg base N qual (defScope st) f cdv A outer s H E).nox (defBody st) t ∧ t { nx := fun _ H' => Q .non H', rt := Q } (start N vs) H) : FnOk P w K mg base CX0 (k + 1) f fd ps sp := by
  obtain ⟨oc, od, kV, doc, pm, an, cdv, ct, osl, rfl, lk, hcd⟩ := F.ex
  refine fn_of lk hcd S len fun A outer s H vs Q E hr hsp => ?_
  obtain ⟨t, h, q⟩ := hbody cdv A outer s H vs Q E hr hsp
  exact ⟨t, h.nox, q⟩
/-- how its arguments bind (no defaults): h is «fun _ _ _ _ _ _ us hl => match us, hl with | [_, _], _ => rfl», one _ a parameter -/
theorem Fun.binds {x qual : Str} {st : Stmt} {f : Addr} {fd : FuncData} {ps : List Str} (F : Fun K x qual st f fd)
    (h : ∀ (kV doc pm : Value) (an : Option Addr) (cdv ct : Value) (us : List Value), us.length = ps.length → bindArgs (PySem.W.fnOf x qual (defArgs st) (defBody st) (defScope st) .none kV doc pm an cdv ct) ⟨us, []⟩ = pure (ps.zip us)) : Binds K fd ps [] := by
  obtain ⟨oc, od, kV, doc, pm, an, cdv, ct, osl, rfl, lk, hcd⟩ := F.ex
  exact .all (h kV doc pm an cdv ct)
theorem fun_mk {x qual : Str} {st : Stmt} {f : Addr} {oc : Value} {od an : Option Addr} {osl : Array (Option Value)} {kV doc pm cdv ct : Value} (l : K.lookup f = some ⟨oc, od, .func (PySem.W.fnOf x qual (defArgs st) (defBody st) (defScope st) .none kV doc pm an cdv ct), osl⟩)
    (c : PySem.W.codeIn K cdv qual = true) (k : PySem.W.keepIn K (.ref f) = true) : Fun K x qual st f (PySem.W.fnOf x qual (defArgs st) (defBody st) (defScope st) .none kV doc pm an cdv ct) := ⟨⟨oc, od, kV, doc, pm, an, cdv, ct, osl, rfl, l, c⟩, k⟩
end
theorem hu_of {A : Around} {k : Nat} (hr : Room k A) : A.units + 1 < cLine := Nat.lt_of_le_of_lt (Nat.add_le_add_left (by decide : 1 ≤ 64) _) hr.units
/-! ### expressions in short: the name that stands in the i-th slot -/
section
variable {X : Cx}
end

/-! ### tests -/
/-! ### heaps -/
/-- all that was tracked is as it was -/
noncomputable def Same (H H' : Hp) : Prop := ∀ b o, H b = some o → H' b = some o
end L2
namespace L2
open PySem PySem.Spec PyProof.Rows
/-! ### lists of pairs as tables -/
section
variable {κ : Type} [DecidableEq κ]
noncomputable def valV (kvs : List (κ × V)) (k : κ) : Option V := (kvs.find? fun kv => decide (kv.1 = k)).map (·.2)
/-- in its place, or at the end -/
noncomputable def putK (kvs : List (κ × V)) (k : κ) (v : V) : List (κ × V) :=
  if (kvs.any fun kv => decide (kv.1 = k)) = true then kvs.map (fun kv => if kv.1 = k then (kv.1, v) else kv) else kvs ++ [(k, v)]
noncomputable def dropK (kvs : List (κ × V)) (k : κ) : List (κ × V) := kvs.filter fun kv => decide (kv.1 ≠ k)

theorem valV_pos {p : κ × V} {r : List (κ × V)} {k : κ} (e : p.1 = k) : valV (p :: r) k = some p.2 := by simp [valV, List.find?_cons, e]
theorem valV_neg {p : κ × V} {r : List (κ × V)} {k : κ} (e : ¬ p.1 = k) : valV (p :: r) k = valV r k := by simp [valV, List.find?_cons, e]
theorem valV_any (k : κ) : ∀ kvs : List (κ × V), (kvs.any fun kv => decide (kv.1 = k)) = (valV kvs k).isSome
  | [] => rfl
  | p :: r => by
    rw [List.any_cons]
    by_cases e : p.1 = k
    · simp only [valV_pos e, decide_eq_true e, Bool.true_or, Option.isSome_some]
    · rw [valV_neg e, decide_eq_false e, Bool.false_or]; exact valV_any k r
theorem length_putK (kvs : List (κ × V)) (k : κ) (v : V) : (putK kvs k v).length ≤ kvs.length + 1 := by
  unfold putK
  split
  · rw [List.length_map]; omega
  · rw [List.length_append, List.length_cons, List.length_nil]; omega
theorem putK_new {kvs : List (κ × V)} {k : κ} (v : V) (h : valV kvs k = none) : putK kvs k v = kvs ++ [(k, v)] := by
  unfold putK
  rw [valV_any, h]
  exact if_neg (by decide)

/-- raw tables of the same keys -/
theorem KV.val {kvs : List (κ × V)} {vs : List (κ × Value)} (r : KV kvs vs) (k : κ) : RelO (valV kvs k) (valueAt vs k) := by
  unfold KV at r
  induction r with
  | nil => exact True.intro
  | @cons p q ps qs h t ih =>
    obtain ⟨h1, h2⟩ := h
    by_cases e : p.1 = k
    · have e' : q.1 = k := h1.symm.trans e
      have b : valueAt (q :: qs) k = some q.2 := by simp [valueAt, List.find?_cons, e']
      rw [valV_pos e, b]; exact h2
    · have e' : ¬ q.1 = k := fun z => e (h1.trans z)
      have b : valueAt (q :: qs) k = valueAt qs k := by simp [valueAt, List.find?_cons, e']
      rw [valV_neg e, b]; exact ih
theorem KV.any {kvs : List (κ × V)} {vs : List (κ × Value)} (r : KV kvs vs) (k : κ) : (kvs.any fun kv => decide (kv.1 = k)) = vs.any fun kv => decide (kv.1 = k) := by
  unfold KV at r
  induction r with
  | nil => rfl
  | cons h t ih => rw [List.any_cons, List.any_cons, ih, h.1]
theorem KV.repl {kvs : List (κ × V)} {vs : List (κ × Value)} (r : KV kvs vs) (k : κ) {y : V} {u : Value} (ry : RelV y u) :
    KV (kvs.map fun kv => if kv.1 = k then (kv.1, y) else kv) (vs.map fun kv => if kv.1 = k then (kv.1, u) else kv) := by
  unfold KV at r ⊢
  induction r with
  | nil => exact .nil
  | @cons p q ps qs h t ih =>
    rw [List.map_cons, List.map_cons]
    refine .cons ?_ ih
    obtain ⟨h1, h2⟩ := h
    by_cases e : p.1 = k
    · rw [if_pos e, if_pos (h1.symm.trans e)]; exact ⟨h1, ry⟩
    · rw [if_neg e, if_neg (fun z => e (h1.trans z))]; exact ⟨h1, h2⟩
theorem KV.put {kvs : List (κ × V)} {vs : List (κ × Value)} (r : KV kvs vs) (k : κ) {y : V} {u : Value} (ry : RelV y u) : KV (putK kvs k y) (stored vs k u) := by
  unfold putK stored
  rw [r.any k]
  by_cases e : (vs.any fun kv => decide (kv.1 = k)) = true
  · rw [if_pos e, if_pos e]; exact r.repl k ry
  · rw [if_neg e, if_neg e]; exact Paired.snoc r ⟨rfl, ry⟩
theorem KV.length {kvs : List (κ × V)} {vs : List (κ × Value)} (r : KV kvs vs) : kvs.length = vs.length := Paired.length r
end


/-! ### a tracked dict, its keys ints and texts or tuples of these -/
theorem kV_is {P : Program} {w : World} {k : Key} {u : Value} (r : RelV (kV k) u) : (mixKind P w).is k u = true := by
  cases k with
  | inl i => obtain ⟨t, e⟩ := (show ∃ t, u = Value.int i t from r); subst e; exact mixKind_int P w i t
  | inr x => obtain ⟨t, e⟩ := (show ∃ t, u = Value.str x t from r); subst e; exact mixKind_str P w x t
theorem items_are {P : Program} {w : World} : ∀ {ks : List Key} {us : List Value}, Vals (ks.map kV) us → ItemsAre (mixKind P w) ks us
  | [], _, r => by rw [List.map_nil] at r; cases r; exact .nil
  | k :: ks, _, r => by
    rw [List.map_cons] at r
    cases r with
    | cons h t => exact .cons (kV_is h) (items_are t)

/-- raw entries of a dict with tuple keys -/
noncomputable abbrev KT (H : Hp) : List (List Key × V) → List (List Key × Addr × Value) → Prop := Paired fun p q => p.1 = q.1 ∧ H q.2.1 = some (.tup (p.1.map kV)) ∧ RelV p.2 q.2.2
theorem KT.val {H : Hp} {kvs : List (List Key × V)} {xs : List (List Key × Addr × Value)} (r : KT H kvs xs) (k : List Key) : RelO (valV kvs k) ((atKey xs k).map (·.2)) := by
  induction r with
  | nil => exact True.intro
  | @cons p q ps qs h t ih =>
    obtain ⟨h1, _, h2⟩ := h
    by_cases e : p.1 = k
    · have e' : q.1 = k := h1.symm.trans e
      have b : atKey (q :: qs) k = some q.2 := by simp [atKey, List.find?_cons, e']
      rw [valV_pos e, b]; exact h2
    · have e' : ¬ q.1 = k := fun z => e (h1.trans z)
      have b : atKey (q :: qs) k = atKey qs k := by simp [atKey, List.find?_cons, e']
      rw [valV_neg e, b]; exact ih
section
variable {P : Program} {w : World} {H : Hp} {h : Heap} {a : Addr}
theorem rd_of {u : HO} (ok : HOk P w H h) (e : Rd H a u) : ObjOk P w H h a u := e.ok ok
theorem dk_rd {kvs : List (Key × V)} (ok : HOk P w H h) (e : Rd H a (.dK kvs)) : kvs.length ≤ sizeLine ∧ (a == sysModules) = false ∧ ∃ vs, KV kvs vs ∧ h.DictOf (mixKind P w) a vs :=
  show ObjOk P w H h a (.dK kvs) from rd_of ok e
theorem dk_of {kvs : List (Key × V)} (ok : HOk P w H h) (e : H a = some (.dK kvs)) : kvs.length ≤ sizeLine ∧ (a == sysModules) = false ∧ ∃ vs, KV kvs vs ∧ h.DictOf (mixKind P w) a vs := dk_rd ok (.inl e)
/-- a tracked tuple of ints and texts is a key -/
theorem key_of {ks : List Key} (ok : HOk P w H h) (e : H a = some (.tup (ks.map kV))) : (tupleKind (mixKind P w)).is h ks a := by
  obtain ⟨_, its, r, o, h1, h2, n, h3⟩ := (show ObjOk P w H h a (.tup (ks.map kV)) from ok a _ e)
  exact ⟨o, its.toArray, n, h1, h2.1, h3, by simpa using items_are r⟩
theorem dt_rd {kvs : List (List Key × V)} (ok : HOk P w H h) (e : Rd H a (.dT kvs)) : kvs.length ≤ sizeLine ∧ (a == sysModules) = false ∧
    ∃ xs, KT H kvs xs ∧ h.DictOfH (tupleKind (mixKind P w)) a xs := by
  obtain ⟨z, y, xs, r, o, es, ep, h1, h2, h3, h4, h5⟩ := (show ObjOk P w H h a (.dT kvs) from rd_of ok e)
  refine ⟨z, y, xs, r, o, es, ep, h1, h2, h3, h4, fun x hx => ?_, h5⟩
  have all : ∀ {l : List (List Key × V)} {m : List (List Key × Addr × Value)}, KT H l m → ∀ x ∈ m, (tupleKind (mixKind P w)).is h x.1 x.2.1 := by
    intro l m q
    induction q with
    | nil => intro x hx; exact nomatch hx
    | @cons p q ps qs hq t ih =>
      intro x hx
      rcases List.mem_cons.mp hx with e | hx
      · subst e
        exact key_of ok (by rw [← hq.1]; exact hq.2.1)
      · exact ih x hx
  exact all r x hx
end

/-- what the dict at a holds at the key y -/
noncomputable def DGet (H : Hp) (a : Addr) (y : V) (r : Option V) : Prop :=
  (∃ kvs k, Rd H a (.dK kvs) ∧ y = kV k ∧ r = valV kvs k) ∨ ∃ kvs k b, Rd H a (.dT kvs) ∧ y = .ref b ∧ H b = some (.tup (k.map kV)) ∧ r = valV kvs k
/-- the heap behind a[y] = v -/
noncomputable def DPut (H : Hp) (a : Addr) (y v : V) (H' : Hp) : Prop :=
  (∃ kvs k, H a = some (.dK kvs) ∧ y = kV k ∧ kvs.length < sizeLine ∧ H' = upd H a (.dK (putK kvs k v))) ∨
  ∃ kvs k b, H a = some (.dT kvs) ∧ y = .ref b ∧ H b = some (.tup (k.map kV)) ∧ kvs.length < sizeLine ∧ H' = upd H a (.dT (putK kvs k v))
theorem DGet.k {H : Hp} {a : Addr} {kvs : List (Key × V)} {k : Key} (e : H a = some (.dK kvs)) : DGet H a (kV k) (valV kvs k) := .inl ⟨kvs, k, .inl e, rfl, rfl⟩
section
variable {X : Cx} {pins : List (Addr × Obj)} {σ : St} {H : Hp} {s : Shared} {a : Addr} {y v : V} {u r : Value} {o : Option V} {A : Around} {E : Value → Shared → Prop}

theorem Inv.big (I : Inv X pins σ H s) : sysModules < s.heap.objs.size := by
  have h : mainGlobals < s.heap.objs.size := (I.mod.glob.keeps I.bk).lt
  exact Nat.lt_trans (by decide) h

/-- d[y], there -/
theorem d_getItem {Q : Value → Shared → Prop} (hu : A.units + 1 < cLine) (I : Inv X pins σ H s) (g : DGet H a y (some v)) (ry : RelV y u) (h : ∀ w' s', Inv X pins σ H s' → RelV v w' → Q w' s') :
    wpAny (model X.prog X.w) A (getItem (.ref a) u) Q E s := by
  rcases g with ⟨kvs, k, e, ey, l⟩ | ⟨kvs, k, b, e, ey, eb, l⟩
  · subst ey
    obtain ⟨z, hd, vs, rel, dd⟩ := dk_rd I.hok e
    obtain ⟨w', hw, rw'⟩ := RelO.some_of (v := v) (o := valueAt vs k) (by rw [l]; exact rel.val k)
    exact wpAny_getItem_of (kV_is ry) dd.mapOf hw (h w' _ (I.tok _) rw')
  · subst ey
    cases (show u = Value.ref b from ry)
    obtain ⟨z, hd, xs, rel, dd⟩ := dt_rd I.hok e
    obtain ⟨w', hw, rw'⟩ := RelO.some_of (v := v) (o := (atKey xs k).map (·.2)) (by rw [l]; exact rel.val k)
    obtain ⟨p, hp, hp2⟩ := Option.map_eq_some_iff.mp hw
    refine wpAny_getItem_heap (tupleKind_room_in1 hu) (key_of I.hok eb) dd hp ?_
    rw [hp2]
    exact h w' _ (I.tok _) rw'
/-- a dict's object is replaced -/
theorem d_write {h' : Heap} {t' : Nat} {ob : HO} (I : Inv X pins σ H s) (mu : Mut (H a)) (hs : Heap.SameBut a s.heap h') (he : ∃ q, h'.get? a = some q) (new : ObjOk X.prog X.w (upd H a ob) h' a ob) :
    Inv X pins σ (upd H a ob) { s with heap := h', toks := t' } :=
  I.write (x := a) (e := a) mu (.inl rfl) (fun b q hb z => (hs.2 b hb).trans z) he new
theorem dk_new {P : Program} {w : World} {H' : Hp} {h' : Heap} {kvs : List (Key × V)} {vs : List (Key × Value)} (z : kvs.length ≤ sizeLine) (hd : (a == sysModules) = false) (rel : KV kvs vs) (dd : h'.DictOf (mixKind P w) a vs) :
    ObjOk P w H' h' a (.dK kvs) := ⟨z, hd, vs, rel, dd⟩
end

section
variable {X : Cx} {pins : List (Addr × Obj)} {σ : St} {H : Hp} {s : Shared} {a : Addr} {kvs : List (Key × V)} {k : Key} {u : Value} {A : Around} {E : Value → Shared → Prop}
end


/-! ### readings and rules -/
/-- the element of a subscription, not a slice -/
noncomputable def NoSl (i : Expr) : Prop := ∀ ov iv, subscripted i false ov iv = operate [ov, iv] (getItem ov iv)
theorem subD_of {prog : Program} {w : World} {A : Around} {E : Value → Shared → Prop} {s : Shared} {env : Env} {value slice : Expr} {pos : Pos} {T id : String} {Q : Value → Shared → Prop}
    (hl : typeLookup (.type T) "__getitem__" = pure (some (.builtin id))) (hs : NoSl slice)
    (h : wpAny (model prog w) A (eval value env) (fun o s₁ => wpAny (model prog w) A (eval slice env) (fun i s₂ => s₂.TypeIs o T ∧ wpAny (model prog w) A (getItem o i) Q E s₂) E s₁) E s) :
    wpAny (model prog w) A (eval (.Subscript value slice pos) env) Q E s := by
  refine Subscript_ (wpAny_mono h (fun o s₁ h₁ => wpAny_mono h₁ (fun i s₂ h₂ => ?_) fun _ _ x => x) fun _ _ x => x)
  obtain ⟨hT, h₂⟩ := h₂
  unfold subscriptTail
  refine wpAny_bind ?_
  rw [getitemInPython_of_ne hT.not_modules]
  refine wpAny_bind (wpAny_specialOf hT hl ?_)
  have fin : wpAny (model prog w) A (subscripted slice false o i) (fun r s₃ => wpAny (model prog w) A (letTemporaryGo value o r >>= fun _ => pure r) Q E s₃) E s₂ := by
    rw [hs o i]
    exact wpAny_operating (wpAny_mono h₂ (fun r s₃ h₃ => wpAny_bind (wpAny_letTemporaryGo (wpAny_pure h₃))) fun _ _ x => x)
  first
    | exact wpAny_pure (wpAny_bind fin)
    | exact wpAny_bind (wpAny_pure (wpAny_bind fin))
    | exact wpAny_bind fin

theorem dict_typeIs {X : Cx} {pins : List (Addr × Obj)} {σ : St} {H : Hp} {s : Shared} {a : Addr} {y : V} {o : Option V} (I : Inv X pins σ H s) (g : DGet H a y o) : s.TypeIs (.ref a) "dict" := by
  rcases g with ⟨kvs, k, e, _, _⟩ | ⟨kvs, k, b, e, _, _, _⟩
  · obtain ⟨_, _, vs, _, dd⟩ := dk_rd I.hok e
    exact dd.typeIs
  · obtain ⟨_, _, xs, _, dd⟩ := dt_rd I.hok e
    exact dd.typeIs
/-- d[y] -/
noncomputable def tDGet (td ty : TE) : TE := fun σ H Q => td σ H fun x H1 => ty σ H1 fun y H2 => ∃ a v, x = .ref a ∧ DGet H2 a y (some v) ∧ Q v H2
/-- y in d, y not in d -/
noncomputable def tDIn (ty td : TE) : TE := fun σ H Q => ty σ H fun y H1 => td σ H1 fun x H2 => ∃ a o, x = .ref a ∧ DGet H2 a y o ∧ Q (.bl o.isSome) H2
noncomputable def tDNotIn (ty td : TE) : TE := fun σ H Q => ty σ H fun y H1 => td σ H1 fun x H2 => ∃ a o, x = .ref a ∧ DGet H2 a y o ∧ Q (.bl (!o.isSome)) H2
/-- d[y] = v -/
noncomputable def sDPut (td ty tv : TE) : TS := fun D σ H => tv σ H fun v H1 => td σ H1 fun x H2 => ty σ H2 fun y H3 => ∃ a H4, x = .ref a ∧ DPut H3 a y v H4 ∧ D.nx σ H4
/-- d[y] op= v -/
noncomputable def sDAug (td ty tv : TE) (rd : V → V → Hp → VK → Prop) : TS := fun D σ H => td σ H fun x H1 => ty σ H1 fun y H2 => ∃ a v, x = .ref a ∧ DGet H2 a y (some v) ∧
  tv σ H2 fun y2 H3 => rd v y2 H3 fun z H4 => ∃ H5, DPut H4 a y z H5 ∧ D.nx σ H5
/-- del d[y] -/
noncomputable def sDDel (td ty : TE) : TS := fun D σ H => td σ H fun x H1 => ty σ H1 fun y H2 => ∃ a kvs k, x = .ref a ∧ H2 a = some (.dK kvs) ∧ y = kV k ∧ (valV kvs k).isSome = true ∧ D.nx σ (upd H2 a (.dK (dropK kvs k)))

section
variable {X : Cx} {o i e value : Expr} {pos pos' tpos : Pos} {td ty tv : TE}
theorem pe_dget (hu : X.A.units + 1 < cLine) (ho : PE X o td) (hi : PE X i ty) (hs : NoSl i) : PE X (.Subscript o i pos) (tDGet td ty) := by
  intro pins s σ H Q I h
  refine subD_of PySem.F.slot_dict_getitem.lookup hs (thn (ho pins s σ H _ I h) fun u s1 ⟨x, H1, I1, rx, q1⟩ => thn (hi pins s1 σ H1 _ I1 q1) fun iv s2 ⟨y, H2, I2, ry, a, v, ex, g, q2⟩ => ?_)
  subst ex
  obtain rfl : u = Value.ref a := rx
  exact ⟨dict_typeIs I2 g, d_getItem hu I2 g ry fun w' s3 I3 rw' => ⟨v, H2, I3, rw', q2⟩⟩
end


/-! ### displays -/
theorem dk_empty {P : Program} {w : World} {H : Hp} (h : Heap) (hb : sysModules < h.objs.size) : ObjOk P w H (h.push { cls := .type "dict", data := .dict #[] }) h.objs.size (.dK []) :=
  ⟨Nat.zero_le _, beq_eq_false_iff_ne.mpr (Ne.symm (Nat.ne_of_lt hb)), [], .nil, Heap.DictOf.new h⟩
/-- {}, to be a dict of the kind that is wanted -/
noncomputable def tDNewK : TE := fun _ H Q => ∀ p, H p = none → Q (.ref p) (upd H p (.dK []))
noncomputable def tDNewT : TE := fun _ H Q => ∀ p, H p = none → Q (.ref p) (upd H p (.dT []))
section
variable {X : Cx} {pos : Pos}
theorem pe_dnewK : PE X (.Dict [] [] pos) tDNewK := fun pins s σ H Q I h =>
  wpAny_Dict_empty ⟨.ref s.heap.objs.size, _, I.laid (a := s.heap.objs.size) (o := .dK []) (t' := s.toks) (fun _ _ q => Heap.get?_push_of_some _ q) (Nat.le_refl _) (dk_empty s.heap I.big), rfl, h _ (I.hok.fresh (Nat.le_refl _))⟩
end

/-- the pairs of a display, from the left -/
noncomputable def tPairs : List (TE × TE) → St → Hp → (List (V × V) → Hp → Prop) → Prop
  | [], _, H, Q => Q [] H
  | (tk, tv) :: r, σ, H, Q => tk σ H fun x H1 => tv σ H1 fun y H2 => tPairs r σ H2 fun ps H3 => Q ((x, y) :: ps) H3
noncomputable abbrev VV : List (V × V) → List (Value × Value) → Prop := Paired fun p q => RelV p.1 q.1 ∧ RelV p.2 q.2
noncomputable def PPs (X : Cx) (pos : Pos) (keys : List (Option Expr)) (values : List Expr) (trs : List (TE × TE)) : Prop :=
  ∀ (pins : List (Addr × Obj)) (s : Shared) (σ : St) (H : Hp) (Q : List (V × V) → Hp → Prop), Inv X pins σ H s → tPairs trs σ H Q →
    wpAny (model X.prog X.w) X.A (evalPairs (pairTrees keys values X.env pos)) (fun vs s' => ∃ ps H', Inv X pins σ H' s' ∧ VV ps vs ∧ Q ps H') X.xe s
noncomputable def mergeK (kvs more : List (Key × V)) : List (Key × V) := more.foldl (fun acc kv => putK acc kv.1 kv.2) kvs
/-- {k: v, ..} with keys ints and texts; the new dict stands empty while the pairs are made -/
noncomputable def tDisp (trs : List (TE × TE)) : TE := fun σ H Q => ∀ p, H p = none → tPairs trs σ (upd H p (.dK [])) fun ps H2 => H2 p = some (.dK []) ∧ ∃ kvs : List (Key × V), ps = kvs.map (fun kv => (kV kv.1, kv.2)) ∧ kvs.length ≤ 15 ∧ Q (.ref p) (upd H2 p (.dK (mergeK [] kvs)))
/-! ### methods -/
/-- a method call o.m(e) of a built-in, with one argument: what must be seen of the text -/
structure M1 (X : Cx) (o : Expr) (m : Str) (apos : Pos) (e : Expr) (cpos : Pos) : Prop where
  base : attributeBase o m X.env (eval o X.env) = eval o X.env
  few : ((backTo cpos (starEach [e] X.env)).all (fun x => !x.1) && (backToKw cpos (keywordEach [] X.env)).all (fun x => x.1.isSome)
    && decide (([e] : List Expr).length + ([] : List Keyword).length + (if ([] : List Keyword).isEmpty then 0 else 1) < 30)) = true
  line : (apos.endLine == cpos.line) = true
  trees : backTo cpos (starEach [e] X.env) = [(false, eval e X.env)]
structure M2 (X : Cx) (o : Expr) (m : Str) (apos : Pos) (e f : Expr) (cpos : Pos) : Prop where
  base : attributeBase o m X.env (eval o X.env) = eval o X.env
  few : ((backTo cpos (starEach [e, f] X.env)).all (fun x => !x.1) && (backToKw cpos (keywordEach [] X.env)).all (fun x => x.1.isSome)
    && decide (([e, f] : List Expr).length + ([] : List Keyword).length + (if ([] : List Keyword).isEmpty then 0 else 1) < 30)) = true
  line : (apos.endLine == cpos.line) = true
  trees : backTo cpos (starEach [e, f] X.env) = [(false, eval e X.env), (false, eval f X.env)]

/-- a is a dict, whatever its keys -/
noncomputable def IsD (H : Hp) (a : Addr) : Prop := (∃ kvs, Rd H a (.dK kvs)) ∨ ∃ kvs, Rd H a (.dT kvs)
section
variable {X : Cx} {pins : List (Addr × Obj)} {σ : St} {H : Hp} {s : Shared} {a : Addr} {y d : V} {u r : Value} {o : Option V} {A : Around} {E : Value → Shared → Prop}
end

noncomputable def tDGet1 (td ty : TE) : TE := fun σ H Q => td σ H fun x H1 => ∃ a, x = .ref a ∧ IsD H1 a ∧ ty σ H1 fun y H2 => ∃ o, DGet H2 a y o ∧ Q (o.getD .non) H2
noncomputable def tDGet2 (td ty tx : TE) : TE := fun σ H Q => td σ H fun x H1 => ∃ a, x = .ref a ∧ IsD H1 a ∧ ty σ H1 fun y H2 => tx σ H2 fun z H3 => ∃ o, DGet H3 a y o ∧ Q (o.getD z) H3
/-- d.pop(k): there; d.pop(k, x): there or not -/
noncomputable def tDPop1 (td ty : TE) : TE := fun σ H Q => td σ H fun x H1 => ∃ a, x = .ref a ∧ IsD H1 a ∧ ty σ H1 fun y H2 => ∃ kvs k v, H2 a = some (.dK kvs) ∧ y = kV k ∧ valV kvs k = some v ∧ Q v (upd H2 a (.dK (dropK kvs k)))
noncomputable def tDPop2 (td ty tx : TE) : TE := fun σ H Q => td σ H fun x H1 => ∃ a, x = .ref a ∧ IsD H1 a ∧ ty σ H1 fun y H2 => tx σ H2 fun z H3 => ∃ kvs k, H3 a = some (.dK kvs) ∧ y = kV k ∧
  (∀ v, valV kvs k = some v → Q v (upd H3 a (.dK (dropK kvs k)))) ∧ (valV kvs k = none → Q z H3)
section
variable {X : Cx} {o e f : Expr} {apos cpos : Pos} {td ty tx : TE}
end

/-! ### dict(d): a copy -/
section
variable {X : Cx} {pins : List (Addr × Obj)} {σ : St} {H : Hp} {s : Shared} {a : Addr} {kvs : List (Key × V)} {A : Around} {E : Value → Shared → Prop}
end


section
variable {X : Cx} {pins : List (Addr × Obj)} {σ : St} {H : Hp} {s : Shared} {a : Addr} {y : V} {u : Value} {A : Around} {E : Value → Shared → Prop}
end
end L2
namespace L2
open PySem PySem.Spec PyProof.Rows

/-! ### a comprehension's block -/
/-- the cells that a block takes from around it -/
noncomputable def closeL (env : Env) : List (Str × NameKind) → List (Str × Addr) → List (Str × Addr)
  | [], acc => acc
  | (n, k) :: r, acc => closeL env r (if k == .free then (n, (env.cells.lookup n).getD 0) :: acc else acc)
theorem close_go {env : Env} (f : Str × NameKind → List (Str × Addr) → Sem (ForInStep (List (Str × Addr))))
    (hf : ∀ n k r, f (n, k) r = if (k == NameKind.free) = true then (do let c ← cellOf env n; pure (ForInStep.yield ((n, c) :: r))) else pure (ForInStep.yield r)) :
    ∀ (names : List (Str × NameKind)) (acc : List (Str × Addr)), (∀ y ∈ names, y.2 = .free → ∃ c, env.cells.lookup y.1 = some c) → (forIn names acc f : Sem (List (Str × Addr))) = pure (closeL env names acc) := by
  intro names
  induction names with
  | nil => intro acc _; rfl
  | cons y r ih =>
    intro acc hh
    obtain ⟨n, k⟩ := y
    rw [List.forIn_cons, hf]
    unfold closeL
    have hr := ih (if k == .free then (n, (env.cells.lookup n).getD 0) :: acc else acc) (fun y hy => hh y (List.mem_cons_of_mem _ hy))
    by_cases hk : k = .free
    · subst hk
      obtain ⟨c, hc⟩ := hh (n, .free) List.mem_cons_self rfl
      have e : cellOf env n = pure c := by unfold cellOf; rw [hc]
      have hc' : List.lookup n env.cells = some c := hc
      simp only [e, hc', Option.getD_some, beq_self_eq_true, if_true] at hr ⊢
      exact hr
    · have hb : (k == NameKind.free) = false := by simpa using hk
      simp only [hb, Bool.false_eq_true, if_false] at hr ⊢
      exact hr
theorem closure_ok {scope : Scope} {env : Env} (h : ∀ y ∈ scope.names, y.2 = .free → ∃ c, env.cells.lookup y.1 = some c) : closureFor scope env = pure (closeL env scope.names []) := by
  unfold closureFor
  dsimp only
  rw [close_go _ (fun n k r => rfl) scope.names [] h]
  rfl

theorem closeL_mem {env : Env} {n : Str} {c : Addr} : ∀ (names : List (Str × NameKind)) (acc : List (Str × Addr)), (n, c) ∈ closeL env names acc → (n, c) ∈ acc ∨ ((n, NameKind.free) ∈ names ∧ c = (env.cells.lookup n).getD 0)
  | [], acc, h => .inl h
  | (x, k) :: r, acc, h => by
    unfold closeL at h
    rcases closeL_mem r _ h with h | ⟨h1, h2⟩
    · by_cases hk : k = .free
      · subst hk
        simp only [beq_self_eq_true, if_true] at h
        rcases List.mem_cons.mp h with e | h
        · cases e; exact .inr ⟨List.mem_cons_self, rfl⟩
        · exact .inl h
      · have hb : (k == NameKind.free) = false := by simpa using hk
        simp only [hb, Bool.false_eq_true, if_false] at h
        exact .inl h
    · exact .inr ⟨List.mem_cons_of_mem _ h1, h2⟩
theorem closeL_has {env : Env} {n : Str} : ∀ (names : List (Str × NameKind)) (acc : List (Str × Addr)), ((n, NameKind.free) ∈ names ∨ (acc.lookup n).isSome = true) → ((closeL env names acc).lookup n).isSome = true
  | [], acc, h => by
    rcases h with h | h
    · cases h
    · exact h
  | (x, k) :: r, acc, h => by
    unfold closeL
    refine closeL_has r _ ?_
    rcases h with h | h
    · rcases List.mem_cons.mp h with e | h
      · cases e
        right
        simp
      · exact .inl h
    · right
      by_cases hk : (k == NameKind.free) = true
      · rw [if_pos hk, List.lookup_cons]
        cases hx : n == x
        · exact h
        · rfl
      · rw [if_neg hk]; exact h
theorem cellsFrom_mem {n : Str} {c : Addr} : ∀ (names : List (Str × NameKind)) (k : Nat) (acc : List (Str × Addr)), (n, c) ∈ cellsFrom k names acc → (n, c) ∈ acc ∨ (k ≤ c ∧ (n, NameKind.cell) ∈ names)
  | [], _, _, h => .inl h
  | (x, q) :: r, k, acc, h => by
    unfold cellsFrom at h
    by_cases hq : (q == NameKind.cell) = true
    · rw [if_pos hq] at h
      have hq' : q = .cell := by simpa using hq
      rcases cellsFrom_mem r _ _ h with h | ⟨h1, h2⟩
      · rcases List.mem_cons.mp h with e | h
        · cases e; subst hq'; exact .inr ⟨Nat.le_refl _, List.mem_cons_self⟩
        · exact .inl h
      · exact .inr ⟨by omega, List.mem_cons_of_mem _ h2⟩
    · rw [if_neg hq] at h
      rcases cellsFrom_mem r _ _ h with h | ⟨h1, h2⟩
      · exact .inl h
      · exact .inr ⟨h1, List.mem_cons_of_mem _ h2⟩
theorem cellsFrom_inj : ∀ (names : List (Str × NameKind)) (k : Nat) (acc : List (Str × Addr)), (∀ n c, (n, c) ∈ acc → c < k) → (∀ n n' c, (n, c) ∈ acc → (n', c) ∈ acc → n = n') → ∀ n n' c, (n, c) ∈ cellsFrom k names acc → (n', c) ∈ cellsFrom k names acc → n = n'
  | [], _, _, _, hi, n, n', c, h, h' => hi n n' c h h'
  | (x, q) :: r, k, acc, hl, hi, n, n', c, h, h' => by
    unfold cellsFrom at h h'
    by_cases hq : (q == NameKind.cell) = true
    · rw [if_pos hq] at h h'
      refine cellsFrom_inj r (k + 1) ((x, k) :: acc) (fun m d hm => ?_) (fun m m' d hm hm' => ?_) n n' c h h'
      · rcases List.mem_cons.mp hm with e | hm
        · cases e; exact Nat.lt_succ_self _
        · exact Nat.lt_succ_of_lt (hl m d hm)
      · rcases List.mem_cons.mp hm with e | hm
        · rcases List.mem_cons.mp hm' with e' | hm'
          · cases e; cases e'; rfl
          · cases e; exact absurd (hl m' _ hm') (Nat.lt_irrefl _)
        · rcases List.mem_cons.mp hm' with e' | hm'
          · cases e'; exact absurd (hl m _ hm) (Nat.lt_irrefl _)
          · exact hi m m' d hm hm'
    · rw [if_neg hq] at h h'
      exact cellsFrom_inj r k acc hl hi n n' c h h'
/-- the cells that are made are empty -/
theorem pushCells_cell {n : Str} {c : Addr} : ∀ (names : List (Str × NameKind)) (h : Heap) (acc : List (Str × Addr)), (n, c) ∈ cellsFrom h.objs.size names acc → (n, c) ∈ acc ∨ (pushCells h names).IsCell c none
  | [], _, _, q => .inl q
  | (x, k) :: r, h, acc, q => by
    unfold cellsFrom at q
    unfold pushCells
    by_cases hk : (k == NameKind.cell) = true
    · rw [if_pos hk] at q ⊢
      have := pushCells_cell r (h.push { cls := .type "cell", data := .cell none }) ((x, h.objs.size) :: acc) (by rw [Heap.size_push]; exact q)
      rcases this with z | z
      · rcases List.mem_cons.mp z with e | z
        · cases e
          exact .inr ⟨_, pushCells_keeps r _ _ _ (Heap.get?_push_size _ rfl), rfl⟩
        · exact .inl z
      · exact .inr z
    · rw [if_neg hk] at q ⊢
      exact pushCells_cell r h acc q
theorem wpAny_newBlockEnv {M : Model} {A : Around} {E : Value → Shared → Prop} {s : Shared} {scope : Scope} {globals : Addr} {cl : List (Str × Addr)} {qual : Str} {env : Env} {Q : Env → Shared → Prop}
    (h : Q { scope, locals := s.heap.objs.size, globals, cells := cellsFrom (s.heap.objs.size + 1) scope.names cl, qual, func := none, code := env.code, frame := env.frame, builtins := env.builtins }
      { s with heap := pushCells (s.heap.push { cls := .type "dict", data := .dict #[] }) scope.names }) :
    wpAny M A (newFunctionEnv scope globals cl [] qual none .none (some env)) Q E s := by
  simp only [newFunctionEnv, Option.isSome_some, if_true]
  refine wpAny_bind (wpAny_alloc ?_)
  refine wpAny_bind (wpAny_layCells _ (fun name kind cells => by cases hkc : kind == NameKind.cell <;> simp [hkc]) _ _ _ _ ?_)
  rw [show ({ s with heap := s.heap.push { cls := .type "dict", data := .dict #[] } } : Shared).heap.objs.size = s.heap.objs.size + 1 from Heap.size_push ..]
  rw [List.forIn_nil]
  exact wpAny_bind (wpAny_pure (wpAny_pure h))

/-- the context of a comprehension's block -/
noncomputable def cpCx (X : Cx) (N : List Str) (scope : Scope) (s : Shared) (H : Hp) (fp : List Addr) (xe : Value → Shared → Prop) : Cx where
  prog := X.prog
  w := X.w
  K := X.K
  mg := X.mg
  base := X.base
  A := X.A
  N := N
  s0 := s
  H0 := H
  env := { scope := relabel scope X.env, locals := s.heap.objs.size, globals := X.env.globals, cells := cellsFrom (s.heap.objs.size + 1) scope.names (closeL X.env scope.names []), qual := X.env.qual, func := none, code := X.env.code, frame := X.env.frame, builtins := X.env.builtins }
  outer := X.stack
  stack := X.stack
  ex := fp
  fn := fun x => scope.names.lookup x == some .local || scope.names.lookup x == some .cell
  calm := X.calm
  pn := []
  xe := xe

structure CpScope (X : Cx) (scope : Scope) : Prop where
  kind : scope.kind = .function
  nd : (scope.names.map (·.1)).Nodup
  free : ∀ y ∈ scope.names, y.2 = .free → X.env.kindOf y.1 = some .cell ∨ X.env.kindOf y.1 = some .free

theorem lookup_mem_nodup {α : Type} {x : Str} {k : α} : ∀ {l : List (Str × α)}, (l.map (·.1)).Nodup → (x, k) ∈ l → l.lookup x = some k
  | (y, q) :: r, nd, h => by
    rw [List.map_cons, List.nodup_cons] at nd
    rw [List.lookup_cons]
    rcases List.mem_cons.mp h with e | h
    · cases e; simp
    · have ne : (x == y) = false := by
        rw [beq_eq_false_iff_ne]
        intro e
        apply nd.1
        rw [← e]
        exact List.mem_map_of_mem (f := (·.1)) h
      rw [ne]
      exact lookup_mem_nodup nd.2 h
theorem relabel_lookup {scope : Scope} {env : Env} {x : Str} {k : NameKind} (h : (relabel scope env).names.lookup x = some k) : scope.names.lookup x = some k ∨ (k = .cell ∧ scope.names.lookup x = some .free ∧ env.kindOf x = some .cell) := by
  unfold relabel at h
  dsimp only at h
  generalize scope.names = names at h ⊢
  induction names with
  | nil => cases h
  | cons y r ih =>
    obtain ⟨n, q⟩ := y
    rw [List.map_cons] at h
    have split : (if (q == NameKind.free && env.scope.kind == .function && env.kindOf n == some .cell) = true then (n, NameKind.cell) else (n, q)).1 = n := by split <;> rfl
    rw [List.lookup_cons] at h ⊢
    dsimp only at h
    rw [split] at h
    cases hx : x == n with
    | false => rw [hx] at h; exact ih h
    | true =>
      rw [hx] at h
      have e : x = n := beq_iff_eq.mp hx
      subst e
      by_cases hc : (q == NameKind.free && env.scope.kind == .function && env.kindOf x == some .cell) = true
      · rw [if_pos hc] at h
        simp only [Bool.and_eq_true, beq_iff_eq] at hc
        cases h
        right
        exact ⟨rfl, by rw [hc.1.1], hc.2⟩
      · rw [if_neg hc] at h
        left
        exact h

section
variable {X : Cx} {pins : List (Addr × Obj)} {σ : St} {H : Hp} {s : Shared} {scope : Scope}
theorem Inv.capt (I : Inv X pins σ H s) (S : CpScope X scope) {x : Str} (h : (x, NameKind.free) ∈ scope.names) : ∃ c, X.env.cells.lookup x = some c := I.ok.has x (S.free _ h rfl)
theorem cp_cells (I : Inv X pins σ H s) (S : CpScope X scope) {x : Str} {c : Addr} (h : (x, c) ∈ cellsFrom (s.heap.objs.size + 1) scope.names (closeL X.env scope.names [])) :
    ((x, NameKind.free) ∈ scope.names ∧ X.env.cells.lookup x = some c ∧ c < s.heap.objs.size) ∨ ((x, NameKind.cell) ∈ scope.names ∧ s.heap.objs.size < c ∧ ∀ h0 : Heap, h0.objs.size = s.heap.objs.size + 1 → (pushCells h0 scope.names).IsCell c none) := by
  rcases cellsFrom_mem _ _ _ h with h1 | ⟨h1, h2⟩
  · left
    rcases closeL_mem _ _ h1 with z | ⟨z, e⟩
    · cases z
    · obtain ⟨c', hc⟩ := I.capt S z
      rw [hc] at e
      have e' : c = c' := e
      subst e'
      obtain ⟨v, q⟩ := I.cell x c hc
      exact ⟨z, hc, q.lt⟩
  · right
    refine ⟨h2, h1, fun h0 e0 => ?_⟩
    have h' := h
    rw [← e0] at h'
    rcases pushCells_cell _ h0 _ h' with z | z
    · exfalso
      rcases closeL_mem _ _ z with z | ⟨z, e⟩
      · cases z
      · obtain ⟨c', hc⟩ := I.capt S z
        rw [hc] at e
        have e' : c = c' := e
        subst e'
        obtain ⟨v, q⟩ := I.cell x c hc
        exact Nat.lt_irrefl _ (Nat.lt_of_lt_of_le (Nat.lt_succ_of_lt q.lt) h1)
    · exact z
/-- the block begins -/
theorem cp_start {N : List Str} {fp : List Addr} {xe : Value → Shared → Prop} {σ' : St} (I : Inv X pins σ H s) (S : CpScope X scope) (hf : ∀ b ∈ fp, FpOk X pins H b) (hfl : ∀ b ∈ fp, b < s.heap.objs.size) (hl : σ'.length = N.length)
    (hs : ∀ (j : Nat) (x : Str) (v : V), N[j]? = some x → σ'[j]? = some (some v) → (x, NameKind.free) ∈ scope.names ∧ ∃ i : Nat, X.N[i]? = some x ∧ σ[i]? = some (some v)) :
    Inv (cpCx X N scope s H fp xe) [] σ' H { s with heap := pushCells (s.heap.push { cls := .type "dict", data := .dict #[] }) scope.names } := by
  have hk : ∀ b o, s.heap.get? b = some o → (pushCells (s.heap.push { cls := .type "dict", data := .dict #[] }) scope.names).get? b = some o := fun b o e => pushCells_keeps _ _ _ _ (Heap.get?_push_of_some _ e)
  have hsz : (s.heap.push { cls := .type "dict", data := .dict #[] }).objs.size = s.heap.objs.size + 1 := Heap.size_push ..
  have lkm : ∀ {x : Str} {c : Addr}, (cpCx X N scope s H fp xe).env.cells.lookup x = some c → (x, c) ∈ cellsFrom (s.heap.objs.size + 1) scope.names (closeL X.env scope.names []) := fun h => PySem.mem_of_lookup h
  have lkc : ∀ {x : Str}, ((cpCx X N scope s H fp xe).env.kindOf x = some .cell ∨ (cpCx X N scope s H fp xe).env.kindOf x = some .free) → ∃ c, (cpCx X N scope s H fp xe).env.cells.lookup x = some c := fun {x} h => by
    refine Option.isSome_iff_exists.mp (PySem.W.cellsFrom_some _ _ _ ?_)
    have two : scope.names.lookup x = some .cell ∨ scope.names.lookup x = some .free := by
      rcases h with h | h
      · rcases relabel_lookup h with z | ⟨_, z, _⟩
        · exact .inl z
        · exact .inr z
      · rcases relabel_lookup h with z | ⟨z, _⟩
        · exact .inr z
        · cases z
    rcases two with z | z
    · exact .inl z
    · exact .inr (closeL_has _ _ (.inl (PySem.mem_of_lookup z)))
  have exP : ∀ b ∈ fp, ∀ x c, (cpCx X N scope s H fp xe).env.cells.lookup x = some c → c ≠ b := fun b hb x c e => by
    rcases cp_cells I S (lkm e) with ⟨_, q, _⟩ | ⟨_, q, _⟩
    · exact (hf b hb).2.2.2.2.1 x c q
    · intro z; subst z; exact Nat.lt_irrefl _ (Nat.lt_trans q (hfl _ hb))
  refine ⟨⟨I.ok.mod, S.kind, I.ok.glob, I.ok.blt, Nat.le_refl _, fun x y c h1 h2 => ?_, fun x h => lkc h, fun x c hx h => ?_, I.ok.hd, I.ok.frames, .inl rfl, fun b hb => ⟨?_, exP b hb⟩, I.bs, Nat.le_trans I.ok.bsz I.sz, fun b o e hb => ?_, fun b hb z => ?_, I.stack, I.stkFree⟩,
    rfl, I.bare, Un.kept hk, ⟨fun _ => none, ?_, fun j x v h1 h2 h3 => ?_⟩, fun x c e => ?_, I.fresh, fun x c e => ?_, fun p hp => ?_, I.hok.kept hk, hl⟩
  · refine cellsFrom_inj _ _ _ (fun n c h => ?_) (fun n n' c h h' => ?_) x y c (lkm h1) (lkm h2)
    · rcases closeL_mem _ _ h with z | ⟨z, e⟩
      · cases z
      · obtain ⟨c', hc⟩ := I.capt S z
        rw [hc] at e
        have e' : c = c' := e
        subst e'
        obtain ⟨v, q⟩ := I.cell n c hc
        exact Nat.lt_succ_of_lt q.lt
    · rcases closeL_mem _ _ h with z | ⟨z, e⟩
      · cases z
      · rcases closeL_mem _ _ h' with z' | ⟨z', e'⟩
        · cases z'
        · obtain ⟨d, hd⟩ := I.capt S z
          obtain ⟨d', hd'⟩ := I.capt S z'
          rw [hd] at e
          rw [hd'] at e'
          have e1 : c = d := e
          have e2 : c = d' := e'
          subst e1
          subst e2
          exact I.ok.inj _ _ _ hd hd'
  · rcases cp_cells I S (lkm h) with ⟨z, _, _⟩ | ⟨_, z, _⟩
    · exfalso
      have e1 := lookup_mem_nodup S.nd z
      have hx' : (scope.names.lookup x == some .local || scope.names.lookup x == some .cell) = true := hx
      rw [e1] at hx'
      cases hx'
    · exact Nat.le_of_lt z
  · exact Nat.ne_of_lt (hfl b hb)
  · obtain ⟨_, _, _, h4, _⟩ := hf b hb
    rcases h4 with h4 | h4
    · exact I.ok.noex b o e h4
    · exact absurd (Nat.lt_of_lt_of_le (Heap.lt_size e) (Nat.le_trans I.ok.bsz h4)) (Nat.lt_irrefl _)
  · obtain ⟨_, h2, h3, _⟩ := hf b hb
    rcases List.mem_cons.mp (I.stkSub b z) with e | e
    · exact h2 e
    · exact h3 e
  · exact (Heap.Ns.new s.heap (.type "dict")).keeps (pushCells_keeps _ _)
  · obtain ⟨hx, i, e1, e2⟩ := hs j x v h1 h2
    obtain ⟨m, hn, hl'⟩ := I.loc
    have vis : Vis X.env.scope x := .inr (S.free _ hx rfl)
    obtain ⟨u, r, lk⟩ := hl' i x v e1 e2 vis
    refine ⟨u, r, .inr ?_⟩
    have hkf : (cpCx X N scope s H fp xe).env.kindOf x = some .cell ∨ (cpCx X N scope s H fp xe).env.kindOf x = some .free := by
      rcases h3 with z | z | z
      · exfalso
        rcases relabel_lookup z with z' | ⟨z', _⟩
        · rw [lookup_mem_nodup S.nd hx] at z'; cases z'
        · cases z'
      · exact .inl z
      · exact .inr z
    refine ⟨hkf, ?_⟩
    obtain ⟨c, hc⟩ := lkc hkf
    refine ⟨c, hc, ?_⟩
    rcases cp_cells I S (lkm hc) with ⟨_, q, _⟩ | ⟨q, _, _⟩
    · rcases lk with ⟨z, _⟩ | ⟨_, c', hc', cell⟩
      · exfalso
        rcases S.free _ hx rfl with k | k <;> (rw [k] at z; cases z)
      · rw [q] at hc'; cases hc'
        exact cell.keeps hk
    · exfalso
      have a1 := lookup_mem_nodup S.nd hx
      have a2 := lookup_mem_nodup S.nd q
      rw [a1] at a2; cases a2
  · rcases cp_cells I S (lkm e) with ⟨_, q, _⟩ | ⟨_, _, q⟩
    · obtain ⟨v, z⟩ := I.cell x c q
      exact ⟨v, z.keeps hk⟩
    · exact ⟨_, q _ hsz⟩
  · rcases cp_cells I S (lkm e) with ⟨_, q, _⟩ | ⟨_, q, _⟩
    · exact I.freeC x c q
    · exact I.hok.fresh (Nat.le_of_lt q)
  · have hp' : p ∈ ([] : List (Addr × Obj)) := hp
    cases hp'
end

/-! ### the block's loops -/
noncomputable abbrev TEm := Addr → St → Hp → (St → Hp → Prop) → Prop
/-- what a turn does behind its tests: the element, or the next clause; then k -/
noncomputable def cpIn (elt : Expr) (gens : List Comprehension) (sc : Scope) (pos : Pos) (d : Nat) (acc : Value) (env : Env) (k : Sem Fin) : Sem Fin :=
  match gens[d + 1]? with
  | some g' => do
    let x ← eval g'.iter env
    standAt g'.iter.pos
    let x ← foldedSetIterable g'.iter env x
    let _ ← runOwn (.compStart (.ListComp elt gens sc pos) (d + 1) (← holding [x] (pyIter x)) acc env) env
    k
  | none => do
    (do let _ ← call (.builtin "list.append") [acc, ← eval elt env])
    k
theorem cp_turn {elt tg iter : Expr} {ifs : List Expr} {gens : List Comprehension} {sc : Scope} {pos : Pos} {d : Nat} {it acc : Value} {env : Env} (hg : gens[d]? = some ⟨tg, iter, ifs, 0⟩) (ha : ∀ g', gens[d + 1]? = some g' → g'.is_async = 0) :
    compTurn (.ListComp elt gens sc pos) d it acc env = (do
      standAt iter.pos
      match ← pyNext it with
      | none => pure (.done .next)
      | some v =>
        letOwnedTupleGo tg it v
        assign tg env v
        let mut ok := true
        for c in ifs do
          if ok then ok ← isTrue c env (eval c env)
        if ok then cpIn elt gens sc pos d acc env (again (.compLoop (.ListComp elt gens sc pos) d it acc env))
        else again (.compLoop (.ListComp elt gens sc pos) d it acc env)) := by
  unfold compTurn cpIn
  dsimp only
  rw [hg]
  cases hn : gens[d + 1]? with
  | none => rfl
  | some g' =>
    obtain ⟨t', i', f', a'⟩ := g'
    have e : a' = 0 := ha _ hn
    subst e
    rfl
noncomputable def PIfs (X : Cx) (ifs : List Expr) (t : TT) : Prop :=
  ∀ (pins : List (Addr × Obj)) (s : Shared) (σ : St) (H : Hp) (Q : Bool → Hp → Prop), Inv X pins σ H s → t σ H Q →
    wpAny (model X.prog X.w) X.A (forIn ifs true fun c r => if r = true then do let ok ← isTrue c X.env (eval c X.env); pure (ForInStep.yield ok) else pure (ForInStep.yield r)) (TP X pins σ Q) X.xe s
noncomputable def tTrue : TT := fun _ H Q => Q true H
theorem pifs_nil {X : Cx} : PIfs X [] tTrue := fun pins s σ H Q I h => wpAny_tests_nil ⟨H, I, h⟩
theorem pifs_one {X : Cx} {c : Expr} {t : TT} (h : PT X c t) : PIfs X [c] t := fun pins s σ H Q I hw => wpAny_tests_one (h pins s σ H Q I hw)
noncomputable def PEm (X : Cx) (elt : Expr) (gens : List Comprehension) (sc : Scope) (pos : Pos) (d : Nat) (t : TEm) : Prop :=
  ∀ (pins : List (Addr × Obj)) (s : Shared) (σ : St) (H : Hp) (D : Addr) (Q : St → Hp → Prop) (k : Sem Fin) (Q' : Fin → Shared → Prop) (E : Value → Shared → Prop), Inv X pins σ H s → t D σ H Q →
    (∀ s' σ' H', Inv X pins σ' H' s' → Q σ' H' → wpAny (model X.prog X.w) X.A k Q' E s') → wpAny (model X.prog X.w) X.A (cpIn elt gens sc pos d (.ref D) X.env k) Q' E s
noncomputable def tEmit (te : TE) : TEm := fun D σ H Q => te σ H fun y H1 => ∃ ys, H1 D = some (.lst ys) ∧ ys.length < sizeLine ∧ Q σ (upd H1 D (.lst (ys ++ [y])))
noncomputable def tLoop (J : It) (g : TG) (ti : TT) (tm : TEm) : TEm := fun D σ H Q => ∃ W : Nat → Nat → St → Hp → Prop, (∃ m, W 0 m σ H) ∧ ∀ i m σ H, W i m σ H →
  (J.stop i H ∧ Q σ H) ∨ (J.go i H ∧ ∃ N : St → Hp → Prop, (∀ σ' H', N σ' H' → ∃ m', m' < m ∧ W (i + 1) m' σ' H') ∧ ∀ x H', J.yld i H x H' → g x σ H' fun σ1 H1 => ti σ1 H1 fun b Hb => if b = true then tm D σ1 Hb N else N σ1 Hb)
noncomputable def tNest (wi : TI) (g : TG) (ti : TT) (tm : TEm) : TEm := fun D σ H Q => wi σ H fun J H1 => tLoop J g ti tm D σ H1 Q
section
variable {X : Cx} {elt tg iter : Expr} {ifs : List Expr} {gens : List Comprehension} {sc : Scope} {pos : Pos} {d : Nat}
theorem nox_of (hx : ∀ e s, X.xe e s → False) {α : Type} {t : Sem α} {Q' : α → Shared → Prop} {E : Value → Shared → Prop} {s' : Shared} (hh : wpAny (model X.prog X.w) X.A t Q' X.xe s') : wpAny (model X.prog X.w) X.A t Q' E s' :=
  wpAny_mono hh (fun _ _ z => z) fun e s' z => (hx e s' z).elim
theorem pem_emit {te : TE} (hx : ∀ e s, X.xe e s → False) (he : PE X elt te) (hg : gens[d + 1]? = none) : PEm X elt gens sc pos d (tEmit te) := by
  intro pins s σ H D Q k Q' E I h hk
  unfold cpIn
  rw [hg]
  refine wpAny_bind (wpAny_bind (nox_of hx (thn (he pins s σ H _ I h) fun u s1 ⟨y, H1, I1, r1, ys, e1, z1, q1⟩ => ?_)))
  refine wpAny_bind (nox_of hx (thn (mt_append pins s1 σ H1 (.ref D) [y] (.ref D) [u] (fun _ H' => Q σ H') I1 rfl (.cons r1 .nil) ⟨D, ys, y, rfl, rfl, e1, z1, q1⟩) fun _ s2 ⟨_, H2, I2, _, q2⟩ => ?_))
  exact wpAny_pure (hk s2 σ H2 I2 q2)
theorem cp_loop {g : TG} {ti : TT} {tm : TEm} (hx : ∀ e s, X.xe e s → False) (hc : X.calm = true) (hg : gens[d]? = some ⟨tg, iter, ifs, 0⟩) (ha : ∀ g', gens[d + 1]? = some g' → g'.is_async = 0) (hgt : PG X tg g) (hi : PIfs X ifs ti) (hm : PEm X elt gens sc pos d tm)
    {pins : List (Addr × Obj)} {σ : St} {H : Hp} {s : Shared} {D : Addr} {Q : St → Hp → Prop} {J : It} {it : Addr} {fp : List Addr} {tn : Nat → Heap → Prop} (T : Turn X.prog X.w X.K tg J fp it tn) (I : Inv X pins σ H s) (st : tn 0 s.heap) (hf : ∀ b ∈ fp, FpOk X pins H b)
    (h : tLoop J g ti tm D σ H Q) {R : Result → Shared → Prop} (hR : ∀ s' σ' H', Inv X pins σ' H' s' → Q σ' H' → R (.ok .next) s') :
    codeAny (model X.prog X.w) X.A (.compLoop (.ListComp elt gens sc pos) d (.ref it) (.ref D) X.env) R s := by
  obtain ⟨W, ⟨m0, w0⟩, turn⟩ := h
  have stat : ∀ {H' : Hp}, (∀ b ∈ fp, H' b = none) → ∀ b ∈ fp, FpOk X pins H' b := fun hn b hb => ⟨hn b hb, (hf b hb).2⟩
  refine codeAny_loop rfl (fun n s' => ∃ i σ' H', Inv X pins σ' H' s' ∧ tn i s'.heap ∧ (∀ b ∈ fp, H' b = none) ∧ W i n σ' H') (fun n s3 hI => ?_) m0 ⟨0, σ, H, I, st, fun b hb => (hf b hb).1, w0⟩
  show wpAny _ X.A ((compTurn (.ListComp elt gens sc pos) d (.ref it) (.ref D) X.env).onRaise (fun x => do noteFrame x X.env; theTreesLotGoes x)) _ _ s3
  refine wpAny_noted ?_
  rw [cp_turn hg ha]
  refine wpAny_bind (wpAny_standAt ?_)
  obtain ⟨i, σ3, H3, I3, st3, fr3, w3⟩ := hI
  rcases turn i n σ3 H3 w3 with ⟨stop, qn⟩ | ⟨go, N, hN, step⟩
  · refine wpAny_bind (thn (T.done X rfl rfl rfl hc i pins s3 σ3 H3 _ I3 (stat fr3) st3 stop) fun r s4 ⟨hr, I4⟩ => ?_)
    subst hr
    exact wpAny_pure (hR s4 σ3 H3 I4 qn)
  · refine wpAny_bind (thn (T.item X rfl rfl rfl hc i pins s3 σ3 H3 _ I3 (stat fr3) st3 go) fun r s4 ⟨u, hr, h4⟩ => ?_)
    subst hr
    refine wpAny_bind (thn h4 fun _ s5 ⟨x, H5, I5, r5, y5, st5, fr5⟩ => ?_)
    have I5' := I5.pinned (stat fr5) (T.obj _ _ st5)
    have back : ∀ {σ7 : St} {H7 : Hp} {s7 : Shared}, Inv X (pins ++ pinsAt fp s5.heap) σ7 H7 s7 → N σ7 H7 → ∃ m, m < n ∧ ∃ i σ' H', Inv X pins σ' H' s7 ∧ tn i s7.heap ∧ (∀ b ∈ fp, H' b = none) ∧ W i m σ' H' := fun {σ7 H7 s7} I7 n7 => by
      obtain ⟨m', hm, w7⟩ := hN σ7 H7 n7
      refine ⟨m', hm, i + 1, σ7, H7, I7.unpinned, T.keep _ _ _ st5 fun b hb o e => (I7.pin (b, o) (List.mem_append_right _ (List.mem_append_right _ (mem_pinsAt hb e)))).1, fun b hb => ?_, w7⟩
      obtain ⟨o, e, d⟩ := T.obj _ _ st5 b hb
      exact (I7.pin (b, o) (List.mem_append_right _ (List.mem_append_right _ (mem_pinsAt hb e)))).2.1
    refine wpAny_bind (nox_of hx (thn (hgt _ s5 σ3 H5 x u _ I5' r5 (step x H5 y5)) fun _ s6 ⟨σ6, H6, I6, q6⟩ => ?_))
    refine wpAny_bind (nox_of hx (thn (hi _ s6 σ6 H6 _ I6 q6) fun ok s7 ⟨H7, I7, q7⟩ => ?_))
    cases ok with
    | false => exact wpAny_pure ⟨rfl, back I7 q7⟩
    | true =>
      rw [if_pos rfl] at q7
      exact hm _ s7 σ6 H7 D _ _ _ _ I7 q7 fun s8 σ8 H8 I8 q8 => wpAny_pure ⟨rfl, back I8 q8⟩
theorem cp_go {g : TG} {ti : TT} {tm : TEm} (hx : ∀ e s, X.xe e s → False) (hc : X.calm = true) (hg : gens[d]? = some ⟨tg, iter, ifs, 0⟩) (ha : ∀ g', gens[d + 1]? = some g' → g'.is_async = 0) (hgt : PG X tg g) (hi : PIfs X ifs ti) (hm : PEm X elt gens sc pos d tm)
    {pins : List (Addr × Obj)} {σ : St} {H : Hp} {s : Shared} {D : Addr} {Q : St → Hp → Prop} {J : It} {it : Addr} {fp : List Addr} {tn : Nat → Heap → Prop} (T : Turn X.prog X.w X.K tg J fp it tn) (I : Inv X pins σ H s) (st : tn 0 s.heap) (hf : ∀ b ∈ fp, FpOk X pins H b)
    (h : tLoop J g ti tm D σ H Q) {R : Result → Shared → Prop} (hR : ∀ s' σ' H', Inv X pins σ' H' s' → Q σ' H' → R (.ok .next) s') :
    codeAny (model X.prog X.w) X.A (.compStart (.ListComp elt gens sc pos) d (.ref it) (.ref D) X.env) R s := by
  have loop := cp_loop hx hc hg ha hgt hi hm T I st hf h hR
  refine codeAny_of_tree ?_
  show wpAny _ _ ((compStart (.ListComp elt gens sc pos) d (.ref it) (.ref D) X.env).onRaise (fun x => do noteFrame x X.env; standAt theWindowsPlace)) _ _ s
  refine wpAny_notedAt ?_
  unfold compStart
  have hcl : (clausesOf (.ListComp elt gens sc pos))[d]? = some ⟨tg, iter, ifs, 0⟩ := hg
  rw [hcl]
  show wpAny _ _ (ask >>= _) _ _ s
  refine wpAny_bind (wpAny_askSetting (wpAny_ite ?_))
  split
  · first
      | exact wpAny_bind (wpAny_pure (wpAny_pure (And.intro rfl loop)))
      | exact wpAny_pure (And.intro rfl loop)
  · first
      | exact wpAny_bind (wpAny_rule (wpAny_bind (wpAny_standAt (wpAny_bind (T.self _ 0 s _ _ st (wpAny_pure (And.intro rfl loop)))))))
      | (refine wpAny_bind (wpAny_rule ?_); show wpAny _ _ (standAt iter.pos >>= _) _ _ s; exact wpAny_bind (wpAny_standAt (wpAny_bind (T.self _ 0 s _ _ st (wpAny_pure (And.intro rfl loop))))))
theorem pem_nest {wi : TI} {g : TG} {ti : TT} {tm : TEm} (hx : ∀ e s, X.xe e s → False) (hc : X.calm = true) (hg : gens[d + 1]? = some ⟨tg, iter, ifs, 0⟩) (ha : ∀ g', gens[d + 2]? = some g' → g'.is_async = 0) (hw : PI X tg iter wi) (hgt : PG X tg g) (hi : PIfs X ifs ti) (hm : PEm X elt gens sc pos (d + 1) tm)
    (hs : ∀ x, foldedSetIterable iter X.env x = pure x := by intro _; rfl) : PEm X elt gens sc pos d (tNest wi g ti tm) := by
  intro pins s σ H D Q k Q' E I h hk
  unfold cpIn
  rw [hg]
  refine wpAny_bind (nox_of hx (thn (hw pins s σ H _ I h) fun v s1 h1 => ?_))
  refine wpAny_bind (wpAny_standAt (wpAny_bind (wpAny_of_eq (hs v) ?_)))
  refine wpAny_bind (wpAny_holding (nox_of hx (thn h1 fun itv s2 h2 => ?_)))
  obtain ⟨it, fp, tn, J, H2, e, I2, T, st2, f2, q2⟩ := h2
  subst e
  refine wpAny_bind (wpAny_runOwn (cp_go hx hc hg ha hgt hi hm T I2 st2 f2 q2 fun s' σ' H' I' q' => ?_))
  exact hk s' σ' H' I' q'
end

/-! ### a whole comprehension -/
/-- the block's names at its start: its own, unset, and those that it takes from around it -/
noncomputable def ncap (nl : Nat) (cap : List Nat) (σ : St) : St := List.replicate nl none ++ cap.map fun i => (σ[i]?).join
noncomputable def capOk (M N : List Str) (scope : Scope) (nl : Nat) (cap : List Nat) : Bool :=
  N.length == nl + cap.length && (List.range cap.length).all fun k => match N[nl + k]?, M[cap.getD k 0]? with
    | some x, some y => x == y && scope.names.any fun z => z.1 == x && z.2 == NameKind.free
    | _, _ => false
theorem capOk_of {M N : List Str} {scope : Scope} {nl : Nat} {cap : List Nat} (h : capOk M N scope nl cap = true) {σ : St} : (ncap nl cap σ).length = N.length ∧
    ∀ (j : Nat) (x : Str) (v : V), N[j]? = some x → (ncap nl cap σ)[j]? = some (some v) → (x, NameKind.free) ∈ scope.names ∧ ∃ i : Nat, M[i]? = some x ∧ σ[i]? = some (some v) := by
  unfold capOk at h
  rw [Bool.and_eq_true, beq_iff_eq] at h
  obtain ⟨h1, h2⟩ := h
  refine ⟨by unfold ncap; simp [h1], fun j x v e1 e2 => ?_⟩
  unfold ncap at e2
  by_cases hj : j < nl
  · rw [List.getElem?_append_left (by simpa using hj), List.getElem?_replicate] at e2
    split at e2 <;> cases e2
  · rw [List.getElem?_append_right (by simpa using hj), List.length_replicate, List.getElem?_map] at e2
    cases hc : cap[j - nl]? with
    | none => rw [hc] at e2; cases e2
    | some i =>
      rw [hc] at e2
      have e2' : (σ[i]?).join = some v := Option.some.inj e2
      have hk : j - nl < cap.length := (List.getElem?_eq_some_iff.mp hc).1
      have h3 := List.all_eq_true.mp h2 (j - nl) (List.mem_range.mpr hk)
      have ej : nl + (j - nl) = j := by omega
      rw [ej, e1] at h3
      have ec : cap.getD (j - nl) 0 = i := by rw [List.getD_eq_getElem?_getD, hc]; rfl
      rw [ec] at h3
      cases hm : M[i]? with
      | none => rw [hm] at h3; cases h3
      | some y =>
        rw [hm] at h3
        rw [Bool.and_eq_true, beq_iff_eq] at h3
        obtain ⟨h4, h5⟩ := h3
        subst h4
        obtain ⟨z, hz, hz2⟩ := List.any_eq_true.mp h5
        rw [Bool.and_eq_true, beq_iff_eq, beq_iff_eq] at hz2
        refine ⟨?_, i, hm, ?_⟩
        · obtain ⟨z1, z2⟩ := z
          obtain ⟨a1, a2⟩ := hz2
          cases a1; cases a2
          exact hz
        · cases hs : σ[i]? with
          | none => rw [hs] at e2'; cases e2'
          | some o => rw [hs] at e2'; cases o with
            | none => cases e2'
            | some w => cases e2'; rfl
noncomputable abbrev noxe : Value → Shared → Prop := fun _ _ => False
noncomputable def tComp (K : PySem.W.Frag) (wi : TI) (g : TG) (ti : TT) (tm : TEm) (nl : Nat) (cap : List Nat) : TE := fun σ H Q => wi σ H fun J H2 => ∀ D, H2 D = none → K.lookup D = none → tLoop J g ti tm D (ncap nl cap σ) (upd H2 D (.lst [])) fun _ H' => Q (.ref D) H'
section
variable {X : Cx} {elt tg iter : Expr} {ifs : List Expr} {gs : List Comprehension} {sc : Scope} {pos p : Pos} {wi : TI} {g : TG} {ti : TT} {tm : TEm} {N : List Str} {nl : Nat} {cap : List Nat}
theorem cp_core (hc : X.calm = true) (S : CpScope X sc) (hcap : capOk X.N N sc nl cap = true) (ha : ∀ g', gs[0]? = some g' → g'.is_async = 0) (hw : PI X tg iter wi)
    (hin : ∀ s H fp, PG (cpCx X N sc s H fp noxe) tg g ∧ PIfs (cpCx X N sc s H fp noxe) ifs ti ∧ PEm (cpCx X N sc s H fp noxe) elt (⟨tg, iter, ifs, 0⟩ :: gs) sc pos 0 tm)
    {pins : List (Addr × Obj)} {σ : St} {H : Hp} {s : Shared} {Q : VK} (I : Inv X pins σ H s) (h : tComp X.K wi g ti tm nl cap σ H Q)
    {use : Option (Value → Sem Unit)} {Q' : Value → Shared → Prop}
    (hend : ∀ (D C : Addr) (s' : Shared) (H' : Hp) (m : Str → Option Value), Inv X pins σ H' s' → Q (.ref D) H' → s'.heap.Ns C m → H' C = none → C ≠ X.env.locals → X.s0.heap.objs.size ≤ C → (∀ x c, X.env.cells.lookup x = some c → c ≠ C) → (∀ q ∈ X.pn ++ pins, q.1 ≠ C) →
      compPost (model X.prog X.w) X.A X.xe use Q' (.ref D) C (.ok .next) s')
    (hs : ∀ x, foldedSetIterable iter X.env x = pure x := by intro _; rfl) :
    wpAny (model X.prog X.w) X.A (comprehension (.ListComp elt (⟨tg, iter, ifs, 0⟩ :: gs) sc pos) sc X.env p (newList []) false (eval iter X.env) use) Q' X.xe s := by
  have hfree : ∀ y ∈ sc.names, y.2 = .free → ∃ c, X.env.cells.lookup y.1 = some c := fun y hy e => I.ok.has _ (S.free y hy e)
  refine wpAny_comprehension_free (use := use) rfl hs (closure_ok hfree) S.kind (fun y hy e => by
    obtain ⟨y1, y2⟩ := y
    have e' : y2 = .local := e
    subst e'
    exact lookup_mem_nodup S.nd hy) ?_
  refine thn (hw pins s σ H _ I h) fun v s1 h1 => thn h1 fun itv s2 h2 => ?_
  obtain ⟨it, fp, tn, J, H2, e, I2, T, st2, f2, q2⟩ := h2
  subst e
  refine wpAny_newObj_type ?_
  have hD : H2 s2.heap.objs.size = none := I2.fresh
  have hKD : X.K.lookup s2.heap.objs.size = none := by
    cases ek : X.K.lookup s2.heap.objs.size with
    | none => rfl
    | some o => exact absurd (Heap.lt_size (I2.kIn _ _ ek)) (Nat.lt_irrefl _)
  have q3 := q2 _ hD hKD
  generalize hs3 : ({ s2 with heap := s2.heap.push { cls := .type "list", data := .seq ([] : List Value).toArray } } : Shared) = s3
  have hs3' : s3 = { s2 with heap := s2.heap.push { cls := .type "list", data := .seq ([] : List Value).toArray } } := hs3.symm
  have I3 : Inv X pins σ (upd H2 s2.heap.objs.size (.lst [])) s3 := by
    rw [hs3']
    exact I2.laid (t' := s2.toks) (fun b u e => Heap.get?_push_of_some _ e) (Nat.le_refl _) ⟨by simp, [], 0, .nil, Heap.get?_push_size _ rfl⟩
  have fpo : ∀ b ∈ fp, ∃ o, s2.heap.get? b = some o := fun b hb => let ⟨o, e, _⟩ := T.obj 0 _ st2 b hb; ⟨o, e⟩
  have sz3 : s3.heap.objs.size = s2.heap.objs.size + 1 := by rw [hs3']; exact Heap.size_push ..
  have st3 : tn 0 s3.heap := T.keep _ _ _ st2 fun b hb o e => by rw [hs3']; exact Heap.get?_push_of_some _ e
  have fl3 : ∀ b ∈ fp, b < s3.heap.objs.size := fun b hb => by
    obtain ⟨o, e⟩ := fpo b hb
    rw [sz3]; exact Nat.lt_succ_of_lt (Heap.lt_size e)
  have f3 : ∀ b ∈ fp, FpOk X pins (upd H2 s2.heap.objs.size (.lst [])) b := fun b hb => by
    obtain ⟨o, e⟩ := fpo b hb
    refine ⟨?_, (f2 b hb).2⟩
    rw [upd_ne (Nat.ne_of_lt (Heap.lt_size e))]
    exact (f2 b hb).1
  generalize upd H2 s2.heap.objs.size (.lst []) = H3 at I3 f3 q3
  generalize s2.heap.objs.size = D at q3 ⊢
  refine wpAny_newBlockEnv ?_
  obtain ⟨cl, cs⟩ := capOk_of hcap (σ := σ)
  have I4 := cp_start (xe := noxe) I3 S f3 fl3 cl cs
  obtain ⟨hgt, hi, hm⟩ := hin s3 H3 fp
  refine cp_go (X := cpCx X N sc s3 H3 fp noxe) (gens := ⟨tg, iter, ifs, 0⟩ :: gs) (d := 0) (fun _ _ z => z) hc rfl ha hgt hi hm T I4 (T.keep _ _ _ st3 fun b hb o e => pushCells_keeps _ _ _ _ (Heap.get?_push_of_some _ e)) (fun b hb => ?_) q3 fun s' σ' H' I' q' => ?_
  · obtain ⟨g1, g2, g3, g4, g5, g6⟩ := f3 b hb
    refine ⟨g1, Nat.ne_of_lt (fl3 b hb), fun z => ?_, .inl hb, (I4.ok.exf b hb).2, fun p hp => absurd (show p ∈ ([] : List (Addr × Obj)) from hp) (by simp)⟩
    rcases List.mem_cons.mp (I3.stkSub b z) with e | e
    · exact g2 e
    · exact g3 e
  · have I5 : Inv X pins σ H' s' := I3.call' I'.os I'.base I'.hok I'.bare fun b hb => by
      obtain ⟨g1, g2, g3, g4, g5, g6⟩ := f3 b hb
      exact ⟨g4, g2, g5, g6⟩
    obtain ⟨m, hn, _⟩ := I'.loc
    refine hend D _ s' H' m I5 q' hn I'.free (Nat.ne_of_gt I3.lt) I3.sz (fun x c e z => ?_) fun q hq z => ?_
    · obtain ⟨v, w⟩ := I3.cell x c e
      exact Nat.lt_irrefl _ (Nat.lt_of_lt_of_le w.lt (by rw [z]; exact Nat.le_refl _))
    · exact Nat.lt_irrefl _ (Nat.lt_of_lt_of_le (Heap.lt_size (I3.pin q hq).1) (by rw [z]; exact Nat.le_refl _))
theorem pe_comp (hc : X.calm = true) (S : CpScope X sc) (hcap : capOk X.N N sc nl cap = true) (ha : ∀ g', gs[0]? = some g' → g'.is_async = 0) (hw : PI X tg iter wi)
    (hin : ∀ s H fp, PG (cpCx X N sc s H fp noxe) tg g ∧ PIfs (cpCx X N sc s H fp noxe) ifs ti ∧ PEm (cpCx X N sc s H fp noxe) elt (⟨tg, iter, ifs, 0⟩ :: gs) sc pos 0 tm)
    (hs : ∀ x, foldedSetIterable iter X.env x = pure x := by intro _; rfl) : PE X (.ListComp elt (⟨tg, iter, ifs, 0⟩ :: gs) sc pos) (tComp X.K wi g ti tm nl cap) := by
  intro pins s σ H Q I h
  rw [eval_ListComp]
  refine cp_core (use := none) hc S hcap ha hw hin I h (fun D C s' H' m I' q hn h1 h2 h3 h4 h5 => ?_) hs
  exact ⟨m, hn, fun h' sb => ⟨.ref D, H', I'.turned (t' := s'.toks) (fun b o hb e => (sb.2 b hb).trans e) h1 h2 (.inr h3) h4 h5, rfl, q⟩⟩
/-- x = [..] of a plain local -/
theorem ps_setComp {i : Nat} {x : Str} {px : Pos} {spos : Pos} (hN : X.N.Nodup) (hi' : X.N[i]? = some x) (hx : X.env.scope.names.lookup x = some .local)
    (hsw : swapsWith (.ListComp elt (⟨tg, iter, ifs, 0⟩ :: gs) sc pos) (some (.Name x px)) spos.line X.env = pure true)
    (hc : X.calm = true) (S : CpScope X sc) (hcap : capOk X.N N sc nl cap = true) (ha : ∀ g', gs[0]? = some g' → g'.is_async = 0) (hw : PI X tg iter wi)
    (hin : ∀ s H fp, PG (cpCx X N sc s H fp noxe) tg g ∧ PIfs (cpCx X N sc s H fp noxe) ifs ti ∧ PEm (cpCx X N sc s H fp noxe) elt (⟨tg, iter, ifs, 0⟩ :: gs) sc pos 0 tm)
    (hs : ∀ x, foldedSetIterable iter X.env x = pure x := by intro _; rfl) : PS X (.Assign [.Name x px] (.ListComp elt (⟨tg, iter, ifs, 0⟩ :: gs) sc pos) spos) (tAsg (tComp X.K wi g ti tm nl cap) (gName i)) := by
  intro pins s σ H D I h
  rw [exec_Assign_Name_used _ _ _ _ hsw]
  refine wpAny_bind (wpAny_standAt (wpAny_bind ?_))
  show wpAny _ X.A (do let _ ← comprehension (.ListComp elt (⟨tg, iter, ifs, 0⟩ :: gs) sc pos) sc X.env _ (newList []) false (eval iter X.env) (some (assign (.Name x px) X.env))) _ _ s
  refine wpAny_bind (wpAny_mono (cp_core (use := some (assign (.Name x px) X.env)) (Q' := fun _ s' => SP X pins D .next s') hc S hcap ha hw hin I h (fun D' C s' H' m I' q hn h1 h2 h3 h4 h5 => ?_) hs) (fun _ s' hq => wpAny_pure (wpAny_pure hq)) fun _ _ e => e)
  show wpAny _ X.A (assign (.Name x px) X.env (.ref D')) _ _ _
  refine wpAny_assign_Name (store_ok2 I' hN hi' (.inl hx) (v := .ref D') rfl (fun s2 I2 ⟨a, sb, ea⟩ => ?_) (.inr hx))
  have hCa : C ≠ a := by
    rcases ea with e | e
    · rw [e]; exact h2
    · exact fun z => h4 x a e z.symm
  refine ⟨m, hn.sameBut sb hCa, fun h' sb' => ⟨_, H', I2.turned (t' := s2.toks) (fun b o hb e => (sb'.2 b hb).trans e) h1 h2 (.inr h3) h4 h5, q⟩⟩
end
end L2
/-! A small world of values over the layer: tuples stand by value, lists and dicts at numbered places. -/
namespace Mi
open PySem PySem.Spec PyProof.Rows L2

inductive W where
  | non | bl (b : Bool) | int (i : Int) | str (x : Str) | tup (xs : List W) | ref (n : Nat)
inductive O where
  | lst (xs : List W) | ro (xs : List W) | dct (kvs : List (Key × W))
noncomputable def O.mut : O → Bool
  | .ro _ => false
  | _ => true
noncomputable abbrev Hx := List O
noncomputable abbrev En := List (Option W)
inductive R (α : Type) where
  | ok (a : α) (A : Hx) | exc (x : Str) (A : Hx) | bad
noncomputable def R.bind {α β : Type} (r : R α) (f : α → Hx → R β) : R β := match r with
  | .ok a A => f a A
  | .exc x A => .exc x A
  | .bad => .bad
noncomputable def R.post {α : Type} (r : R α) (P : α → Hx → Prop) (E : Str → Hx → Prop) : Prop := match r with
  | .ok a A => P a A
  | .exc x A => E x A
  | .bad => False
/-- a refusal inside a comprehension is not served -/
noncomputable def R.nox {α : Type} (r : R α) : R α := match r with
  | .ok a A => .ok a A
  | .exc _ _ => .bad
  | .bad => .bad
section
variable {α β : Type} {r : R α} {f : α → Hx → R β} {P Q : α → Hx → Prop} {P' : β → Hx → Prop} {E F : Str → Hx → Prop}
theorem bind_ok {a : α} {A : Hx} : (R.ok a A).bind f = f a A := rfl
theorem post_bind : (r.bind f).post P' E ↔ r.post (fun a A => (f a A).post P' E) E := by cases r <;> exact Iff.rfl
theorem post_mono (h : r.post P E) (hP : ∀ a A, P a A → Q a A) (hE : ∀ x A, E x A → F x A) : r.post Q F := by
  cases r with
  | ok a A => exact hP _ _ h
  | exc x A => exact hE _ _ h
  | bad => exact h
end
noncomputable abbrev Ev := En → Hx → R W

/-! ### what a value stands for -/
mutual
noncomputable def RV (K : PySem.W.Frag) (φ : List Addr) (H : Hp) : W → V → Prop
  | .non, v => v = .non
  | .bl b, v => v = .bl b
  | .int i, v => v = .int i
  | .str x, v => v = .str x
  | .tup ws, v => ∃ a vs, v = .ref a ∧ SqT K H a vs ∧ RVs K φ H ws vs
  | .ref n, v => ∃ a, v = .ref a ∧ φ[n]? = some a
noncomputable def RVs (K : PySem.W.Frag) (φ : List Addr) (H : Hp) : List W → List V → Prop
  | [], vs => vs = []
  | w :: ws, vs => ∃ v r, vs = v :: r ∧ RV K φ H w v ∧ RVs K φ H ws r
end
structure Le (K : PySem.W.Frag) (φ : List Addr) (H : Hp) (φ' : List Addr) (H' : Hp) : Prop where
  ex : ∀ (n : Nat) (a : Addr), φ[n]? = some a → φ'[n]? = some a
  tp : ∀ a vs, SqT K H a vs → SqT K H' a vs
  fr : ∀ a o, H a = some o → (∀ n : Nat, φ[n]? ≠ some a) → H' a = some o
  nw : ∀ (n : Nat) (a : Addr), φ'[n]? = some a → φ[n]? = some a ∨ H a = none
  st : ∀ a, H' a = none → H a = none
  fz : ∀ a o u, H a = some (.frz o u) → H' a = some (.frz o u)
theorem Le.refl {K φ H} : Le K φ H φ H := ⟨fun _ _ h => h, fun _ _ h => h, fun _ _ h _ => h, fun _ _ h => .inl h, fun _ h => h, fun _ _ _ h => h⟩
theorem Le.trans {K φ H φ1 H1 φ2 H2} (a : Le K φ H φ1 H1) (b : Le K φ1 H1 φ2 H2) : Le K φ H φ2 H2 where
  ex := fun n x h => b.ex n x (a.ex n x h)
  tp := fun n x h => b.tp n x (a.tp n x h)
  fr := fun c o h n => b.fr c o (a.fr c o h n) fun k e => by
    rcases a.nw k c e with e | e
    · exact n k e
    · rw [h] at e; cases e
  nw := fun n c e => by
    rcases b.nw n c e with e | e
    · exact a.nw n c e
    · exact .inr (a.st c e)
  st := fun c e => a.st c (b.st c e)
  fz := fun c o u h => b.fz c o u (a.fz c o u h)
/-- what is not tracked stays, and stays untracked -/
theorem Le.off {K φ H φ' H'} (l : Le K φ H φ' H') {D : Addr} {o : HO} (h : H D = some o) (n : ∀ k : Nat, φ[k]? ≠ some D) : H' D = some o ∧ ∀ k : Nat, φ'[k]? ≠ some D :=
  ⟨l.fr D o h n, fun k e => by
    rcases l.nw k D e with e | e
    · exact n k e
    · rw [h] at e; cases e⟩
section
variable {K : PySem.W.Frag} {φ φ' : List Addr} {H H' : Hp}
structure LeW (K : PySem.W.Frag) (φ : List Addr) (H : Hp) (φ' : List Addr) (H' : Hp) : Prop where
  ex : ∀ (n : Nat) (a : Addr), φ[n]? = some a → φ'[n]? = some a
  tp : ∀ a vs, SqT K H a vs → SqT K H' a vs
  fz : ∀ a o u, H a = some (.frz o u) → H' a = some (.frz o u)
mutual
theorem RV.monoW (l : LeW K φ H φ' H') : ∀ {w : W} {v : V}, RV K φ H w v → RV K φ' H' w v
  | .non, _, h => h
  | .bl _, _, h => h
  | .int _, _, h => h
  | .str _, _, h => h
  | .tup ws, _, ⟨a, vs, e, t, r⟩ => ⟨a, vs, e, l.tp _ _ t, RVs.monoW l r⟩
  | .ref n, _, ⟨a, e, f⟩ => ⟨a, e, l.ex _ _ f⟩
theorem RVs.monoW (l : LeW K φ H φ' H') : ∀ {ws : List W} {vs : List V}, RVs K φ H ws vs → RVs K φ' H' ws vs
  | [], _, h => h
  | w :: ws, _, ⟨v, r, e, h, t⟩ => ⟨v, r, e, RV.monoW l h, RVs.monoW l t⟩
end
theorem RV.mono {w : W} {v : V} (h : RV K φ H w v) (l : Le K φ H φ' H') : RV K φ' H' w v := RV.monoW ⟨l.ex, l.tp, l.fz⟩ h
theorem RVs.mono {w : List W} {v : List V} (h : RVs K φ H w v) (l : Le K φ H φ' H') : RVs K φ' H' w v := RVs.monoW ⟨l.ex, l.tp, l.fz⟩ h
/-- the same but for what stands at D -/
structure LeD (K : PySem.W.Frag) (D : Addr) (φ : List Addr) (H : Hp) (φ' : List Addr) (H' : Hp) : Prop where
  ex : ∀ (n : Nat) (a : Addr), φ[n]? = some a → φ'[n]? = some a
  tp : ∀ a vs, SqT K H a vs → SqT K H' a vs
  fr : ∀ a o, a ≠ D → H a = some o → (∀ n : Nat, φ[n]? ≠ some a) → H' a = some o
  nw : ∀ (n : Nat) (a : Addr), φ'[n]? = some a → φ[n]? = some a ∨ H a = none
  st : ∀ a, H' a = none → H a = none
  fz : ∀ a o u, H a = some (.frz o u) → H' a = some (.frz o u)
theorem LeD.refl {D} : LeD K D φ H φ H := ⟨fun _ _ h => h, fun _ _ h => h, fun _ _ _ h _ => h, fun _ _ h => .inl h, fun _ h => h, fun _ _ _ h => h⟩
theorem Le.toD {D} (l : Le K φ H φ' H') : LeD K D φ H φ' H' := ⟨l.ex, l.tp, fun a o _ h n => l.fr a o h n, l.nw, l.st, l.fz⟩
theorem LeD.trans {D φ1 H1 φ2 H2} (a : LeD K D φ H φ1 H1) (b : LeD K D φ1 H1 φ2 H2) : LeD K D φ H φ2 H2 where
  ex := fun n x h => b.ex n x (a.ex n x h)
  tp := fun n x h => b.tp n x (a.tp n x h)
  fr := fun c o ne h n => b.fr c o ne (a.fr c o ne h n) fun k e => by
    rcases a.nw k c e with e | e
    · exact n k e
    · rw [h] at e; cases e
  nw := fun n c e => by
    rcases b.nw n c e with e | e
    · exact a.nw n c e
    · exact .inr (a.st c e)
  st := fun c e => a.st c (b.st c e)
  fz := fun c o u h => b.fz c o u (a.fz c o u h)
theorem RV.monoD {D} {w : W} {v : V} (h : RV K φ H w v) (l : LeD K D φ H φ' H') : RV K φ' H' w v := RV.monoW ⟨l.ex, l.tp, l.fz⟩ h
theorem RVs.monoD {D} {w : List W} {v : List V} (h : RVs K φ H w v) (l : LeD K D φ H φ' H') : RVs K φ' H' w v := RVs.monoW ⟨l.ex, l.tp, l.fz⟩ h
theorem RVs.length : ∀ {ws : List W} {vs : List V}, RVs K φ H ws vs → ws.length = vs.length
  | [], _, h => by cases h; rfl
  | w :: ws, _, ⟨v, r, e, _, t⟩ => by subst e; simp [RVs.length t]
theorem RVs.get : ∀ {ws : List W} {vs : List V} {i : Nat} {w : W}, RVs K φ H ws vs → ws[i]? = some w → ∃ v, vs[i]? = some v ∧ RV K φ H w v
  | [], _, _, _, _, e => by simp at e
  | w :: ws, _, 0, _, ⟨v, r, e, h, t⟩, q => by subst e; simp at q; subst q; exact ⟨v, by simp, h⟩
  | w :: ws, _, i + 1, x, ⟨v, r, e, h, t⟩, q => by
    subst e
    obtain ⟨y, h1, h2⟩ := RVs.get (i := i) (w := x) t (by simpa using q)
    exact ⟨y, by simpa using h1, h2⟩
theorem RVs.append : ∀ {ws us : List W} {vs xs : List V}, RVs K φ H ws vs → RVs K φ H us xs → RVs K φ H (ws ++ us) (vs ++ xs)
  | [], _, _, _, h, t => by cases h; exact t
  | w :: ws, _, _, _, ⟨v, r, e, h, t⟩, t2 => by subst e; exact ⟨v, r ++ _, rfl, h, RVs.append t t2⟩
theorem RVs.one {w : W} {v : V} (h : RV K φ H w v) : RVs K φ H [w] [v] := ⟨v, [], rfl, h, rfl⟩
theorem RVs.nil : RVs K φ H [] [] := rfl
theorem RVs.cons {w : W} {v : V} {ws : List W} {vs : List V} (h : RV K φ H w v) (t : RVs K φ H ws vs) : RVs K φ H (w :: ws) (v :: vs) := ⟨v, vs, rfl, h, t⟩
theorem RVs.set {w : W} {v : V} (q : RV K φ H w v) : ∀ {ws : List W} {vs : List V} (i : Nat), RVs K φ H ws vs → RVs K φ H (ws.set i w) (vs.set i v)
  | [], _, _, h => by cases h; exact rfl
  | _ :: _, _, 0, ⟨v', r, e, h, t⟩ => by subst e; exact ⟨v, r, rfl, q, t⟩
  | _ :: _, _, i + 1, ⟨v', r, e, h, t⟩ => by subst e; exact ⟨v', _, rfl, h, RVs.set q i t⟩
theorem RVs.drop : ∀ {ws : List W} {vs : List V} (n : Nat), RVs K φ H ws vs → RVs K φ H (ws.drop n) (vs.drop n)
  | [], _, n, h => by cases h; rw [List.drop_nil, List.drop_nil]; exact RVs.nil
  | _ :: _, _, 0, h => by simpa using h
  | _ :: _, _, n + 1, ⟨v', r, e, h, t⟩ => by subst e; simpa using RVs.drop n t
theorem RVs.ints : ∀ {ns : List Int} {vs : List V}, RVs K φ H (ns.map W.int) vs ↔ vs = ns.map V.int
  | [], vs => Iff.rfl
  | n :: ns, vs => by
    constructor
    · rintro ⟨v, r, e, h, t⟩
      rw [e, (show v = V.int n from h), RVs.ints.mp t]; rfl
    · intro e
      exact ⟨V.int n, ns.map V.int, e, rfl, RVs.ints.mpr rfl⟩

/-! ### the small heap and the layer's -/
noncomputable def SqR (K : PySem.W.Frag) (H : Hp) (a : Addr) (xs : List V) : Prop :=
  (∃ ob, H a = some (.frz ob (.lst xs))) ∨
    ∃ (o : Obj) (its : Array Value) (n : Nat), K.lookup a = some o ∧ o.cls = .type "list" ∧ o.dict = none ∧ o.data = .seq its n ∧ its.size ≤ sizeLine ∧ Vals xs its.toList
theorem SqR.sq {a : Addr} {xs : List V} (h : SqR K H a xs) : SqL K H a xs := by
  rcases h with h | h
  · exact .inl (.inr h)
  · exact .inr h
noncomputable def OR (K : PySem.W.Frag) (φ : List Addr) (H : Hp) (a : Addr) : O → Prop
  | .lst ws => ∃ vs, H a = some (.lst vs) ∧ RVs K φ H ws vs
  | .ro ws => ∃ vs, SqR K H a vs ∧ RVs K φ H ws vs
  | .dct kvs => ∃ us, H a = some (.dK us) ∧ us.map (·.1) = kvs.map (·.1) ∧ RVs K φ H (kvs.map (·.2)) (us.map (·.2))
structure Sim (K : PySem.W.Frag) (φ : List Addr) (A : Hx) (H : Hp) : Prop where
  len : φ.length = A.length
  inj : ∀ (i j : Nat) (a : Addr) (o o' : O), φ[i]? = some a → φ[j]? = some a → A[i]? = some o → A[j]? = some o' → o.mut = true → o'.mut = true → i = j
  ob : ∀ (n : Nat) (o : O), A[n]? = some o → ∃ a, φ[n]? = some a ∧ OR K φ H a o
variable {A A' : Hx}
/-- a mutable one stands in the layer's heap, as no tuple -/
theorem OR.there {a : Addr} {o : O} (h : OR K φ H a o) (m : o.mut = true) : ∃ u, H a = some u ∧ (∀ xs, u ≠ .tup xs) ∧ (∀ ob v, u ≠ .frz ob v) := by
  cases o with
  | lst ws => obtain ⟨vs, e, _⟩ := h; exact ⟨_, e, fun _ z => (by cases z), fun _ _ z => (by cases z)⟩
  | ro ws => cases m
  | dct kvs => obtain ⟨vs, e, _⟩ := h; exact ⟨_, e, fun _ z => (by cases z), fun _ _ z => (by cases z)⟩
theorem Sqt_upd {a b : Addr} {o : HO} {vs : List V} (h : SqT K H a vs) (n : ∀ xs, H b ≠ some (.tup xs)) (nf : ∀ ob u, H b ≠ some (.frz ob u)) : SqT K (upd H b o) a vs := by
  rcases h with (h | ⟨ob, h⟩) | h
  · exact .inl (.inl (by rw [upd_ne]; exact h; intro e; subst e; exact n _ h))
  · exact .inl (.inr ⟨ob, by rw [upd_ne]; exact h; intro e; subst e; exact nf _ _ h⟩)
  · exact .inr h
theorem Le.upd {b : Addr} {o : HO} {k : Nat} (hb : φ[k]? = some b) (n : ∀ xs, H b ≠ some (.tup xs)) (nf : ∀ ob u, H b ≠ some (.frz ob u)) : Le K φ H φ (upd H b o) where
  ex := fun _ _ h => h
  tp := fun _ _ h => Sqt_upd h n nf
  fr := fun a u h z => by
    rw [upd_ne]; exact h
    intro e; subst e; exact z k hb
  nw := fun _ _ h => .inl h
  st := fun a h => by
    by_cases e : a = b
    · subst e; rw [upd_same] at h; cases h
    · rw [upd_ne e] at h; exact h
  fz := fun a ob u h => by
    rw [upd_ne]; exact h
    intro e; subst e; exact nf _ _ h
theorem Le.new {p : Addr} {o : HO} (hp : H p = none) : Le K φ H φ (L2.upd H p o) where
  ex := fun _ _ h => h
  tp := fun _ _ h => Sqt_upd h (fun xs z => by rw [hp] at z; cases z) (fun _ _ z => by rw [hp] at z; cases z)
  fr := fun a u h z => by
    rw [upd_ne]; exact h
    intro e; subst e; rw [hp] at h; cases h
  nw := fun _ _ h => .inl h
  st := fun a h => by
    by_cases e : a = p
    · subst e; rw [upd_same] at h; cases h
    · rw [upd_ne e] at h; exact h
  fz := fun a ob u h => by
    rw [upd_ne]; exact h
    intro e; subst e; rw [hp] at h; cases h
theorem Le.alloc {p : Addr} {o : HO} (hp : H p = none) : Le K φ H (φ ++ [p]) (L2.upd H p o) where
  ex := fun n a h => by
    have := (List.getElem?_eq_some_iff.mp h).1
    rw [List.getElem?_append_left this]; exact h
  tp := (Le.new (φ := φ) hp).tp
  fr := (Le.new (K := K) (φ := φ) hp).fr
  nw := fun n a h => by
    by_cases hn : n < φ.length
    · rw [List.getElem?_append_left hn] at h; exact .inl h
    · rw [List.getElem?_append_right (by omega)] at h
      have e : a = p := by
        have := List.mem_of_getElem? h
        simpa using this
      subst e; exact .inr hp
  st := (Le.new (K := K) (φ := φ) hp).st
  fz := (Le.new (K := K) (φ := φ) hp).fz
/-- D laid new, then written and written: all that stood before stands -/
theorem Le.ofD {D : Addr} {o : HO} (hD : H D = none) (l : LeD K D φ (L2.upd H D o) φ' H') : Le K φ H φ' H' where
  ex := l.ex
  tp := fun a vs h => l.tp a vs ((Le.new (K := K) (φ := φ) hD).tp a vs h)
  fr := fun a u h n => by
    have ne : a ≠ D := by rintro rfl; rw [hD] at h; cases h
    exact l.fr a u ne (by rw [upd_ne ne]; exact h) n
  nw := fun n a e => by
    rcases l.nw n a e with e | e
    · exact .inl e
    · by_cases h : a = D
      · subst h; rw [upd_same] at e; cases e
      · rw [upd_ne h] at e; exact .inr e
  st := fun a e => by
    have e' := l.st a e
    by_cases h : a = D
    · subst h; rw [upd_same] at e'; cases e'
    · rw [upd_ne h] at e'; exact e'
  fz := fun a ob u h => l.fz a ob u (by rw [upd_ne]; exact h; rintro rfl; rw [hD] at h; cases h)
theorem LeD.upd {D : Addr} {o : HO} {xs : List V} (hD : H D = some (.lst xs)) : LeD K D φ H φ (L2.upd H D o) where
  ex := fun _ _ h => h
  tp := fun a vs h => Sqt_upd h (fun xs z => by rw [hD] at z; cases z) (fun _ _ z => by rw [hD] at z; cases z)
  fr := fun a u ne h n => by rw [upd_ne ne]; exact h
  nw := fun _ _ h => .inl h
  st := fun a e => by
    by_cases h : a = D
    · subst h; rw [upd_same] at e; cases e
    · rw [upd_ne h] at e; exact e
  fz := fun a ob u h => by
    rw [upd_ne]; exact h
    intro e; subst e; rw [hD] at h; cases h
theorem OR.keep {a : Addr} {o : O} (h : OR K φ H a o) (l : Le K φ H φ' H') (e : ∀ u, H a = some u → H' a = some u) : OR K φ' H' a o := by
  cases o with
  | lst ws => obtain ⟨vs, q, r⟩ := h; exact ⟨vs, e _ q, r.mono l⟩
  | dct kvs => obtain ⟨vs, q, k, r⟩ := h; exact ⟨vs, e _ q, k, r.mono l⟩
  | ro ws =>
    obtain ⟨vs, q, r⟩ := h
    refine ⟨vs, ?_, r.mono l⟩
    rcases q with ⟨ob, q⟩ | q
    · exact .inl ⟨ob, e _ q⟩
    · exact .inr q
/-- a new object -/
theorem Sim.alloc {p : Addr} {u : HO} {o : O} (S : Sim K φ A H) (hp : H p = none) (new : OR K (φ ++ [p]) (L2.upd H p u) p o) : Le K φ H (φ ++ [p]) (L2.upd H p u) ∧ Sim K (φ ++ [p]) (A ++ [o]) (L2.upd H p u) := by
  have l : Le K φ H (φ ++ [p]) (L2.upd H p u) := Le.alloc hp
  have old : ∀ (i : Nat) a, (φ ++ [p])[i]? = some a → i < A.length → φ[i]? = some a := fun i a e hi => by
    rw [List.getElem?_append_left (by rw [S.len]; exact hi)] at e; exact e
  refine ⟨l, by simp [S.len], fun i j a o1 o2 h1 h2 h3 h4 m1 m2 => ?_, fun n o' e => ?_⟩
  · by_cases hi : i < A.length
    · by_cases hj : j < A.length
      · rw [List.getElem?_append_left hi] at h3
        rw [List.getElem?_append_left hj] at h4
        exact S.inj i j a o1 o2 (old i a h1 hi) (old j a h2 hj) h3 h4 m1 m2
      · exfalso
        rw [List.getElem?_append_left hi] at h3
        have hj' : j = A.length := by have := (List.getElem?_eq_some_iff.mp h4).1; simp at this; omega
        subst hj'
        rw [List.getElem?_append_right (by rw [S.len]; exact Nat.le_refl _), S.len] at h2
        simp at h2
        obtain ⟨a', e1, q⟩ := S.ob i o1 h3
        rw [old i a h1 hi] at e1; cases e1
        obtain ⟨z, hz, _⟩ := q.there m1
        rw [← h2, hp] at hz; cases hz
    · have hi' : i = A.length := by have := (List.getElem?_eq_some_iff.mp h3).1; simp at this; omega
      by_cases hj : j < A.length
      · exfalso
        rw [List.getElem?_append_left hj] at h4
        subst hi'
        rw [List.getElem?_append_right (by rw [S.len]; exact Nat.le_refl _), S.len] at h1
        simp at h1
        obtain ⟨a', e1, q⟩ := S.ob j o2 h4
        rw [old j a h2 hj] at e1; cases e1
        obtain ⟨z, hz, _⟩ := q.there m2
        rw [← h1, hp] at hz; cases hz
      · have := (List.getElem?_eq_some_iff.mp h4).1; simp at this; omega
  · by_cases hn : n < A.length
    · rw [List.getElem?_append_left hn] at e
      obtain ⟨a, e1, q⟩ := S.ob n o' e
      refine ⟨a, l.ex _ _ e1, q.keep l fun z hz => ?_⟩
      rw [upd_ne]; exact hz
      intro e2; subst e2; rw [hp] at hz; cases hz
    · have hn' : n = A.length := by have := (List.getElem?_eq_some_iff.mp e).1; simp at this; omega
      subst hn'
      rw [List.getElem?_append_right (Nat.le_refl _)] at e
      simp at e
      subst e
      exact ⟨p, by rw [List.getElem?_append_right (by rw [S.len]; exact Nat.le_refl _), S.len]; simp, new⟩
/-- a mutable object is written -/
theorem Sim.write {n : Nat} {p : Addr} {u : HO} {o o' : O} (S : Sim K φ A H) (hn : A[n]? = some o) (m : o.mut = true) (m' : o'.mut = true) (hp : φ[n]? = some p) (new : OR K φ (L2.upd H p u) p o') :
    Le K φ H φ (L2.upd H p u) ∧ Sim K φ (A.set n o') (L2.upd H p u) := by
  obtain ⟨p', e, q⟩ := S.ob n o hn
  rw [hp] at e; cases e
  obtain ⟨z, hz, nt, nf⟩ := q.there m
  have l : Le K φ H φ (L2.upd H p u) := Le.upd hp (fun xs e => by rw [hz] at e; exact nt xs (Option.some.inj e)) fun ob v e => by rw [hz] at e; exact nf ob v (Option.some.inj e)
  have mt : ∀ (i : Nat) (w : O), (A.set n o')[i]? = some w → w.mut = true → ∃ w', A[i]? = some w' ∧ w'.mut = true := fun i w e mw => by
    by_cases hi : i = n
    · subst hi; exact ⟨o, hn, m⟩
    · rw [List.getElem?_set_ne (Ne.symm hi)] at e; exact ⟨w, e, mw⟩
  refine ⟨l, by simp [S.len], fun i j a o1 o2 h1 h2 h3 h4 m1 m2 => ?_, fun i w e => ?_⟩
  · obtain ⟨w1, e1, k1⟩ := mt i o1 h3 m1
    obtain ⟨w2, e2, k2⟩ := mt j o2 h4 m2
    exact S.inj i j a w1 w2 h1 h2 e1 e2 k1 k2
  · by_cases hi : i = n
    · subst hi
      have : i < A.length := (List.getElem?_eq_some_iff.mp hn).1
      rw [List.getElem?_set_self this] at e; cases e
      exact ⟨p, hp, new⟩
    · rw [List.getElem?_set_ne (Ne.symm hi)] at e
      obtain ⟨a, e1, r⟩ := S.ob i w e
      refine ⟨a, e1, ?_⟩
      by_cases hm : w.mut = true
      · have ne : a ≠ p := fun z => hi (S.inj i n a w o e1 (by rw [z]; exact hp) e hn hm m)
        exact r.keep l fun z hz => by rw [upd_ne ne]; exact hz
      · cases w with
        | lst _ => exact absurd rfl hm
        | dct _ => exact absurd rfl hm
        | ro ws =>
          obtain ⟨vs, r1, r2⟩ := r
          refine ⟨vs, ?_, r2.mono l⟩
          rcases r1 with ⟨ob, r1⟩ | r1
          · refine .inl ⟨ob, ?_⟩
            rw [upd_ne]; exact r1
            intro z; subst z; rw [hz] at r1; exact nf _ _ (Option.some.inj r1)
          · exact .inr r1
/-- a new tuple: nothing of the small heap is touched -/
theorem Sim.lay {p : Addr} {u : HO} (S : Sim K φ A H) (hp : H p = none) : Sim K φ A (L2.upd H p u) :=
  ⟨S.len, S.inj, fun n o e => by
    obtain ⟨a, e1, q⟩ := S.ob n o e
    refine ⟨a, e1, q.keep (Le.new hp) fun z hz => ?_⟩
    rw [upd_ne]; exact hz
    intro e2; subst e2; rw [hp] at hz; cases hz⟩
/-- what nothing tracks is written -/
theorem Sim.off {D : Addr} {o : HO} {xs : List V} (S : Sim K φ A H) (hD : H D = some (.lst xs)) (n : ∀ k : Nat, φ[k]? ≠ some D) : Sim K φ A (L2.upd H D o) :=
  ⟨S.len, S.inj, fun k u e => by
    obtain ⟨a, e1, q⟩ := S.ob k u e
    have ne : a ≠ D := fun z => n k (by rw [← z]; exact e1)
    have l : LeD K D φ H φ (L2.upd H D o) := LeD.upd hD
    refine ⟨a, e1, ?_⟩
    cases u with
    | lst ws => obtain ⟨vs, q, r⟩ := q; exact ⟨vs, by rw [upd_ne ne]; exact q, r.monoD l⟩
    | dct kvs => obtain ⟨vs, q, k, r⟩ := q; exact ⟨vs, by rw [upd_ne ne]; exact q, k, r.monoD l⟩
    | ro ws =>
      obtain ⟨vs, q, r⟩ := q
      refine ⟨vs, ?_, r.monoD l⟩
      rcases q with ⟨ob, q⟩ | q
      · exact .inl ⟨ob, by rw [upd_ne ne]; exact q⟩
      · exact .inr q⟩
theorem Sim.notin {D : Addr} (S : Sim K φ A H) (hD : H D = none) (hK : K.lookup D = none) : ∀ k : Nat, φ[k]? ≠ some D := fun k e => by
  have hk : k < A.length := by rw [← S.len]; exact (List.getElem?_eq_some_iff.mp e).1
  obtain ⟨a, e1, q⟩ := S.ob k A[k] (by simp [hk])
  rw [e] at e1; cases e1
  cases ho : A[k] with
  | lst ws => rw [ho] at q; obtain ⟨vs, z, _⟩ := q; rw [hD] at z; cases z
  | dct ws => rw [ho] at q; obtain ⟨vs, z, _⟩ := q; rw [hD] at z; cases z
  | ro ws =>
    rw [ho] at q
    obtain ⟨vs, z, _⟩ := q
    rcases z with ⟨ob, z⟩ | ⟨o, its, n, z, _⟩
    · rw [hD] at z; cases z
    · rw [hK] at z; cases z
/-- an object that stands there is tracked from now on -/
theorem Sim.track {D : Addr} {u : HO} {o : O} (S : Sim K φ A H) (hD : H D = some u) (n : ∀ k : Nat, φ[k]? ≠ some D) (new : OR K (φ ++ [D]) H D o) : Sim K (φ ++ [D]) (A ++ [o]) H := by
  have l : LeW K φ H (φ ++ [D]) H := ⟨fun n a h => by
    have := (List.getElem?_eq_some_iff.mp h).1
    rw [List.getElem?_append_left this]; exact h, fun _ _ h => h, fun _ _ _ h => h⟩
  have old : ∀ (i : Nat) a, (φ ++ [D])[i]? = some a → i < A.length → φ[i]? = some a := fun i a e hi => by
    rw [List.getElem?_append_left (by rw [S.len]; exact hi)] at e; exact e
  have last : ∀ a, (φ ++ [D])[A.length]? = some a → a = D := fun a e => by
    rw [List.getElem?_append_right (by rw [S.len]; exact Nat.le_refl _), S.len] at e
    simpa using e.symm
  refine ⟨by simp [S.len], fun i j a o1 o2 h1 h2 h3 h4 m1 m2 => ?_, fun k o' e => ?_⟩
  · by_cases hi : i < A.length
    · by_cases hj : j < A.length
      · rw [List.getElem?_append_left hi] at h3
        rw [List.getElem?_append_left hj] at h4
        exact S.inj i j a o1 o2 (old i a h1 hi) (old j a h2 hj) h3 h4 m1 m2
      · exfalso
        have hj' : j = A.length := by have := (List.getElem?_eq_some_iff.mp h4).1; simp at this; omega
        subst hj'
        exact n i (by rw [← last a h2]; exact old i a h1 hi)
    · have hi' : i = A.length := by have := (List.getElem?_eq_some_iff.mp h3).1; simp at this; omega
      by_cases hj : j < A.length
      · exfalso
        subst hi'
        exact n j (by rw [← last a h1]; exact old j a h2 hj)
      · have := (List.getElem?_eq_some_iff.mp h4).1; simp at this; omega
  · by_cases hn : k < A.length
    · rw [List.getElem?_append_left hn] at e
      obtain ⟨a, e1, q⟩ := S.ob k o' e
      refine ⟨a, l.ex _ _ e1, ?_⟩
      cases o' with
      | lst ws => obtain ⟨vs, z, r⟩ := q; exact ⟨vs, z, r.monoW l⟩
      | dct ws => obtain ⟨vs, z, z2, r⟩ := q; exact ⟨vs, z, z2, r.monoW l⟩
      | ro ws => obtain ⟨vs, z, r⟩ := q; exact ⟨vs, z, r.monoW l⟩
    · have hn' : k = A.length := by have := (List.getElem?_eq_some_iff.mp e).1; simp at this; omega
      subst hn'
      rw [List.getElem?_append_right (Nat.le_refl _)] at e
      simp at e
      subst e
      exact ⟨D, by rw [List.getElem?_append_right (by rw [S.len]; exact Nat.le_refl _), S.len]; simp, new⟩
theorem Le.track {D : Addr} {φ0 : List Addr} {H0 : Hp} (l : Le K φ0 H0 φ H) (h0 : H0 D = none) : Le K φ0 H0 (φ ++ [D]) H where
  ex := fun n a h => by
    have h' := l.ex n a h
    have := (List.getElem?_eq_some_iff.mp h').1
    rw [List.getElem?_append_left this]; exact h'
  tp := l.tp
  fr := l.fr
  nw := fun n a e => by
    by_cases hn : n < φ.length
    · rw [List.getElem?_append_left hn] at e; exact l.nw n a e
    · rw [List.getElem?_append_right (by omega)] at e
      have e' : a = D := by
        have := List.mem_of_getElem? e
        simpa using this
      subst e'; exact .inr h0
  st := l.st
  fz := l.fz
end
end Mi
namespace Mi
open PySem PySem.Spec PyProof.Rows L2

noncomputable abbrev St := L2.St
/-! ### the judgements -/
noncomputable abbrev XR := Str → Hp → Prop
noncomputable def PB (K : PySem.W.Frag) (φ : List Addr) (H : Hp) (Q : VK) : W → Hx → Prop := fun w A => ∀ φ' H' v, Le K φ H φ' H' → Sim K φ' A H' → RV K φ' H' w v → Q v H'
noncomputable def PBs (K : PySem.W.Frag) (φ : List Addr) (H : Hp) (Q : List V → Hp → Prop) : List W → Hx → Prop := fun w A => ∀ φ' H' v, Le K φ H φ' H' → Sim K φ' A H' → RVs K φ' H' w v → Q v H'
noncomputable def EB (K : PySem.W.Frag) (φ : List Addr) (H : Hp) (xr : XR) : Str → Hx → Prop := fun x A => ∀ φ' H', Le K φ H φ' H' → Sim K φ' A H' → xr x H'
structure RE (K : PySem.W.Frag) (φ : List Addr) (H : Hp) (ρ : En) (σ : St) : Prop where
  len : σ.length = ρ.length
  get : ∀ (i : Nat) (w : W), ρ[i]? = some (some w) → ∃ v, σ[i]? = some (some v) ∧ RV K φ H w v
section
variable {K : PySem.W.Frag} {φ φ1 φ' : List Addr} {H H1 H' : Hp} {A A1 : Hx} {ρ : En} {σ : St} {xr : XR}
theorem RE.mono (r : RE K φ H ρ σ) (l : Le K φ H φ' H') : RE K φ' H' ρ σ := ⟨r.len, fun i w e => let ⟨v, h1, h2⟩ := r.get i w e; ⟨v, h1, h2.mono l⟩⟩
theorem PB.mono {Q : VK} {w : W} (h : PB K φ H Q w A) (l : Le K φ H φ1 H1) : PB K φ1 H1 Q w A := fun φ' H' v l' => h φ' H' v (l.trans l')
theorem EB.mono {x : Str} (h : EB K φ H xr x A) (l : Le K φ H φ1 H1) : EB K φ1 H1 xr x A := fun φ' H' l' => h φ' H' (l.trans l')
theorem RE.set {i : Nat} {w : W} {v : V} (r : RE K φ H ρ σ) (q : RV K φ H w v) : RE K φ H (ρ.set i (some w)) (σ.set i (some v)) :=
  ⟨by simp [r.len], fun j u e => by
    by_cases h : i = j
    · subst h
      have hi : i < ρ.length := by
        have := (List.getElem?_eq_some_iff.mp e).1
        simpa using this
      rw [List.getElem?_set_self hi] at e
      cases e
      exact ⟨v, by rw [List.getElem?_set_self (by rw [r.len]; exact hi)], q⟩
    · rw [List.getElem?_set_ne h] at e
      obtain ⟨x, h1, h2⟩ := r.get j u e
      exact ⟨x, by rw [List.getElem?_set_ne h]; exact h1, h2⟩⟩
end
noncomputable def tM (K : PySem.W.Frag) (xr : XR) (m : Ev) : TE := fun σ H Q => ∃ φ A ρ, Sim K φ A H ∧ RE K φ H ρ σ ∧ (m ρ A).post (PB K φ H Q) (EB K φ H xr)
noncomputable def tT (K : PySem.W.Frag) (xr : XR) (m : Ev) : TT := fun σ H Q => ∃ φ A ρ, Sim K φ A H ∧ RE K φ H ρ σ ∧ (m ρ A).post (fun w A' => ∃ b, w = .bl b ∧ ∀ φ' H', Le K φ H φ' H' → Sim K φ' A' H' → Q b H') (EB K φ H xr)
noncomputable abbrev Ea := En → Hx → R (List W)
noncomputable def tAr (K : PySem.W.Frag) (xr : XR) (m : Ea) : TA := fun σ H Q => ∃ φ A ρ, Sim K φ A H ∧ RE K φ H ρ σ ∧ (m ρ A).post (PBs K φ H Q) (EB K φ H xr)
noncomputable def SE (X : Cx) (xr : XR) (e : Expr) (m : Ev) : Prop := PE X e (tM X.K xr m)
noncomputable def ST (X : Cx) (xr : XR) (e : Expr) (m : Ev) : Prop := PT X e (tT X.K xr m)
noncomputable def SW (X : Cx) (xr : XR) (e : Expr) (m : Ev) : Prop := PW X e (tT X.K xr m)
noncomputable def SA (X : Cx) (xr : XR) (es : List Expr) (m : Ea) : Prop := PA X es (tAr X.K xr m)
section
variable {X : Cx} {xr : XR} {e a b : Expr} {es : List Expr} {m ma mb mc : Ev} {pos : Pos}
theorem PE.imp {t t' : TE} (h : PE X e t) (i : ∀ σ H Q, t' σ H Q → t σ H Q) : PE X e t' := fun pins s σ H Q I hw => h pins s σ H Q I (i σ H Q hw)
theorem PT.imp {t t' : TT} (h : PT X e t) (i : ∀ σ H Q, t' σ H Q → t σ H Q) : PT X e t' := fun pins s σ H Q I hw => h pins s σ H Q I (i σ H Q hw)
theorem PW.imp {t t' : TT} (h : PW X e t) (i : ∀ σ H Q, t' σ H Q → t σ H Q) : PW X e t' := fun wh pins s σ H Q I hw => h wh pins s σ H Q I (i σ H Q hw)
theorem PA.imp {t t' : TA} (h : PA X es t) (i : ∀ σ H Q, t' σ H Q → t σ H Q) : PA X es t' := fun p pins s σ H Q I hw => h p pins s σ H Q I (i σ H Q hw)
/-- an expression, then what hangs on its value -/
theorem tM.go {K : PySem.W.Frag} {φ : List Addr} {A : Hx} {H : Hp} {ρ : En} {σ : St} {Q : VK} {G : W → Hx → Prop} (S : Sim K φ A H) (r : RE K φ H ρ σ) (h : (m ρ A).post G (EB K φ H xr))
    (k : ∀ w A1 φ1 H1 v, G w A1 → Le K φ H φ1 H1 → Sim K φ1 A1 H1 → RV K φ1 H1 w v → Q v H1) : tM K xr m σ H Q :=
  ⟨φ, A, ρ, S, r, post_mono h (fun w A1 g φ1 H1 v l s q => k w A1 φ1 H1 v g l s q) fun _ _ z => z⟩
theorem tAr.go {K : PySem.W.Frag} {φ : List Addr} {A : Hx} {H : Hp} {ρ : En} {σ : St} {m : Ea} {Q : List V → Hp → Prop} {G : List W → Hx → Prop} (S : Sim K φ A H) (r : RE K φ H ρ σ) (h : (m ρ A).post G (EB K φ H xr))
    (k : ∀ w A1 φ1 H1 v, G w A1 → Le K φ H φ1 H1 → Sim K φ1 A1 H1 → RVs K φ1 H1 w v → Q v H1) : tAr K xr m σ H Q :=
  ⟨φ, A, ρ, S, r, post_mono h (fun w A1 g φ1 H1 v l s q => k w A1 φ1 H1 v g l s q) fun _ _ z => z⟩
theorem tT.go {K : PySem.W.Frag} {φ : List Addr} {A : Hx} {H : Hp} {ρ : En} {σ : St} {Q : Bool → Hp → Prop} {G : W → Hx → Prop} (S : Sim K φ A H) (r : RE K φ H ρ σ) (h : (m ρ A).post G (EB K φ H xr))
    (k : ∀ w A1, G w A1 → ∃ b, w = .bl b ∧ ∀ φ1 H1, Le K φ H φ1 H1 → Sim K φ1 A1 H1 → Q b H1) : tT K xr m σ H Q :=
  ⟨φ, A, ρ, S, r, post_mono h (fun w A1 g => k w A1 g) fun _ _ z => z⟩

/-! ### names, written values -/
noncomputable def mVar (i : Nat) : Ev := fun ρ A => match ρ[i]? with
  | some (some w) => .ok w A
  | _ => .bad
noncomputable def mLit (w : W) : Ev := fun _ A => .ok w A
theorem se_var (i : Nat) {x : Str} (hN : X.N[i]? = some x := by rfl) (hv : Vis X.env.scope x := by first | exact Or.inl rfl | exact Or.inr (Or.inl rfl) | exact Or.inr (Or.inr rfl)) (hd : (x == ("__debug__" : Str)) = false := by decide)
    (hcd : (x == ("__classdict__" : Str)) = false := by decide) : SE X xr (.Name x pos) (mVar i) := PE.imp (pe_var hN hv hd hcd) fun σ H Q ⟨φ, A, ρ, S, r, h⟩ => by
  unfold mVar at h
  cases e : ρ[i]? with
  | none => rw [e] at h; cases h
  | some o => cases o with
    | none => rw [e] at h; cases h
    | some w =>
      rw [e] at h
      obtain ⟨v, h1, h2⟩ := r.get i w e
      exact ⟨v, h1, h φ H v .refl S h2⟩
theorem se_int {i j} : SE X xr (.Constant (.int i) j pos) (mLit (.int i)) := PE.imp pe_int fun σ H Q ⟨φ, A, ρ, S, r, h⟩ => h φ H _ .refl S rfl
theorem se_bl {i j} : SE X xr (.Constant (.bool i) j pos) (mLit (.bl i)) := PE.imp pe_bl fun σ H Q ⟨φ, A, ρ, S, r, h⟩ => h φ H _ .refl S rfl
theorem se_non {j} : SE X xr (.Constant .none j pos) (mLit .non) := PE.imp pe_non fun σ H Q ⟨φ, A, ρ, S, r, h⟩ => h φ H _ .refl S rfl
/-- a number of the module -/
theorem se_glob {x : Str} {i : Int} {t : Tok} (hg : Gl X x) (hm : X.mg x = some (.int i t)) (hd : (x == ("__debug__" : Str)) = false := by decide) : SE X xr (.Name x pos) (mLit (.int i)) :=
  PE.imp (pe_glob hg hm (v := .int i) ⟨t, rfl⟩ hd) fun σ H Q ⟨φ, A, ρ, S, r, h⟩ => h φ H _ .refl S rfl

/-! ### operations -/
noncomputable def mBin (g : W → W → Hx → R W) (a b : Ev) : Ev := fun ρ A => (a ρ A).bind fun x A1 => (b ρ A1).bind fun y A2 => g x y A2
noncomputable def mUn (g : W → Hx → R W) (a : Ev) : Ev := fun ρ A => (a ρ A).bind fun x A1 => g x A1
noncomputable abbrev noX : Str → Hx → Prop := fun _ _ => False
/-- the layer's rule r serves the small world's g -/
noncomputable def Op2 (K : PySem.W.Frag) (r : R2) (g : W → W → Hx → R W) : Prop := ∀ φ A H x y u v Q, Sim K φ A H → RV K φ H u x → RV K φ H v y → (g u v A).post (PB K φ H Q) noX → r x y H Q
noncomputable def Op1 (K : PySem.W.Frag) (r : V → Hp → VK → Prop) (g : W → Hx → R W) : Prop := ∀ φ A H x u Q, Sim K φ A H → RV K φ H u x → (g u A).post (PB K φ H Q) noX → r x H Q
noncomputable def OpN (K : PySem.W.Frag) (r : List V → Hp → VK → Prop) (g : List W → Hx → R W) : Prop := ∀ φ A H xs us Q, Sim K φ A H → RVs K φ H us xs → (g us A).post (PB K φ H Q) noX → r xs H Q
/-- g refuses nothing -/
noncomputable def NoExc {α : Type} (r : R α) : Prop := ∀ x A, r ≠ .exc x A
theorem post_noX {α : Type} {r : R α} {P : α → Hx → Prop} {E : Str → Hx → Prop} (n : NoExc r) (h : r.post P E) : r.post P noX := by
  cases r with
  | ok a A => exact h
  | exc x A => exact absurd rfl (n x A)
  | bad => exact h
theorem mBin.read {g : W → W → Hx → R W} {r : R2} (hn : ∀ x y A, NoExc (g x y A)) (hg : Op2 X.K r g) : ∀ σ H Q, tM X.K xr (mBin g ma mb) σ H Q → tOp r (tM X.K xr ma) (tM X.K xr mb) σ H Q := by
  rintro σ H Q ⟨φ, A, ρ, S, re, h⟩
  refine tM.go S re (post_bind.mp h) fun w A1 φ1 H1 v h1 l1 S1 q1 => ?_
  refine tM.go S1 (re.mono l1) (post_mono (post_bind.mp h1) (fun _ _ z => z) fun _ _ z => z.mono l1) fun w2 A2 φ2 H2 v2 h2 l2 S2 q2 => ?_
  exact hg φ2 A2 H2 v v2 w w2 Q S2 (q1.mono l2) q2 (post_mono (post_noX (hn _ _ _) h2) (fun _ _ z => z.mono (l1.trans l2)) fun _ _ z => z)
theorem mUn.read {g : W → Hx → R W} {r : V → Hp → VK → Prop} (hn : ∀ x A, NoExc (g x A)) (hg : Op1 X.K r g) : ∀ σ H Q, tM X.K xr (mUn g ma) σ H Q → tUn r (tM X.K xr ma) σ H Q := by
  rintro σ H Q ⟨φ, A, ρ, S, re, h⟩
  refine tM.go S re (post_bind.mp h) fun w A1 φ1 H1 v h1 l1 S1 q1 => ?_
  exact hg φ1 A1 H1 v w Q S1 q1 (post_mono (post_noX (hn _ _) h1) (fun _ _ z => z.mono l1) fun _ _ z => z)
theorem se_bin {op : Operator} {r : R2} {g : W → W → Hx → R W} (ho : OpR X (binaryOp op) r) (hn : ∀ x y A, NoExc (g x y A)) (hg : Op2 X.K r g) (ha : SE X xr a ma) (hb : SE X xr b mb) : SE X xr (.BinOp a op b pos) (mBin g ma mb) :=
  PE.imp (pe_op ho ha hb) (mBin.read hn hg)
theorem se_un {op : UnaryOp} {r : V → Hp → VK → Prop} {g : W → Hx → R W} (ho : UnR X (unaryOp op) r) (hn : ∀ x A, NoExc (g x A)) (hg : Op1 X.K r g) (ha : SE X xr a ma) : SE X xr (.UnaryOp op a pos) (mUn g ma) :=
  PE.imp (pe_un ho ha) (mUn.read hn hg)
theorem se_cmp {op : CmpOp} {r : R2} {g : W → W → Hx → R W} (ho : OpR X (compareOp op) r) (hn : ∀ x y A, NoExc (g x y A)) (hg : Op2 X.K r g) (ha : SE X xr a ma) (hb : SE X xr b mb) (hm : behindInMarks op b = false) : SE X xr (.Compare a [op] [b] pos) (mBin g ma mb) :=
  PE.imp (pe_cmpR ho ha hb hm) (mBin.read hn hg)
theorem tT.toM {K : PySem.W.Frag} {σ : St} {H : Hp} {Q : Bool → Hp → Prop} (h : tT K xr m σ H Q) : tM K xr m σ H fun x H' => ∃ k, x = .bl k ∧ Q k H' := by
  obtain ⟨φ, A, ρ, S, re, h⟩ := h
  refine tM.go S re h fun w A1 φ1 H1 v ⟨b, e, q⟩ l1 S1 q1 => ?_
  subst e
  exact ⟨b, q1, q φ1 H1 l1 S1⟩
theorem st_cmp {op : CmpOp} {r : R2} {g : W → W → Hx → R W} (ho : OpR X (compareOp op) r) (hn : ∀ x y A, NoExc (g x y A)) (hg : Op2 X.K r g) (ha : SE X xr a ma) (hb : SE X xr b mb) (hm : behindInMarks op b = false) : ST X xr (.Compare a [op] [b] pos) (mBin g ma mb) :=
  PT.imp (pt_cmpR ho ha hb hm) fun σ H Q h => mBin.read hn hg σ H _ h.toM
/-- a < b < c -/
noncomputable def mChain (g g' : W → W → Hx → R W) (a b c : Ev) : Ev := fun ρ A => (a ρ A).bind fun x A1 => (b ρ A1).bind fun y A2 => (g x y A2).bind fun z A3 => match z with
  | .bl true => (c ρ A3).bind fun w A4 => g' y w A4
  | .bl false => .ok (.bl false) A3
  | _ => .bad
theorem mChain.read {g g' : W → W → Hx → R W} {r r' : R2} (hn : ∀ x y A, NoExc (g x y A)) (hg : Op2 X.K r g) (hn' : ∀ x y A, NoExc (g' x y A)) (hg' : Op2 X.K r' g') :
    ∀ σ H Q, tM X.K xr (mChain g g' ma mb mc) σ H Q → tChain r r' (tM X.K xr ma) (tM X.K xr mb) (tM X.K xr mc) σ H Q := by
  rintro σ H Q ⟨φ, A, ρ, S, re, h⟩
  refine tM.go S re (post_bind.mp h) fun w A1 φ1 H1 v h1 l1 S1 q1 => ?_
  refine tM.go S1 (re.mono l1) (post_mono (post_bind.mp h1) (fun _ _ z => z) fun _ _ z => z.mono l1) fun w2 A2 φ2 H2 v2 h2 l2 S2 q2 => ?_
  have l02 := l1.trans l2
  have h2' := post_bind.mp h2
  have h3 : (g w w2 A2).post (PB X.K φ2 H2 fun z H3 => ∃ k, z = .bl k ∧ if k = true then tM X.K xr mc σ H3 fun w' H4 => r' v2 w' H4 Q else Q (.bl false) H3) noX := by
    refine post_mono (post_noX (hn _ _ _) h2') (fun z A3 h3 φ3 H3 zv l3 S3 q3 => ?_) fun _ _ z => z
    have l03 := l02.trans l3
    cases z with
    | bl k =>
      refine ⟨k, q3, ?_⟩
      cases k with
      | true =>
        rw [if_pos rfl]
        refine tM.go S3 (re.mono l03) (post_mono (post_bind.mp h3) (fun _ _ z => z) fun _ _ z => z.mono l03) fun w4 A4 φ4 H4 v4 h4 l4 S4 q4 => ?_
        exact hg' φ4 A4 H4 v2 v4 w2 w4 Q S4 ((q2.mono l3).mono l4) q4 (post_mono (post_noX (hn' _ _ _) h4) (fun _ _ z => z.mono (l03.trans l4)) fun _ _ z => z)
      | false =>
        rw [if_neg Bool.false_ne_true]
        exact h3 φ3 H3 _ l03 S3 rfl
    | non => cases h3
    | int _ => cases h3
    | str _ => cases h3
    | tup _ => cases h3
    | ref _ => cases h3
  exact hg φ2 A2 H2 v v2 w w2 _ S2 (q1.mono l2) q2 h3
theorem se_chain {c : Expr} {op op' : CmpOp} {r r' : R2} {g g' : W → W → Hx → R W} (ho : OpR X (compareOp op) r) (hn : ∀ x y A, NoExc (g x y A)) (hg : Op2 X.K r g) (ho' : OpR X (compareOp op') r') (hn' : ∀ x y A, NoExc (g' x y A)) (hg' : Op2 X.K r' g')
    (ha : SE X xr a ma) (hb : SE X xr b mb) (hc : SE X xr c mc) (hm : lastMarks [op, op'] [b, c] = false := by with_unfolding_all rfl) : SE X xr (.Compare a [op, op'] [b, c] pos) (mChain g g' ma mb mc) :=
  PE.imp (pe_chain ho ho' ha hb hc hm) (mChain.read hn hg hn' hg')
theorem st_chain {c : Expr} {op op' : CmpOp} {r r' : R2} {g g' : W → W → Hx → R W} (ho : OpR X (compareOp op) r) (hn : ∀ x y A, NoExc (g x y A)) (hg : Op2 X.K r g) (ho' : OpR X (compareOp op') r') (hn' : ∀ x y A, NoExc (g' x y A)) (hg' : Op2 X.K r' g')
    (ha : SE X xr a ma) (hb : SE X xr b mb) (hc : SE X xr c mc) (hm : lastMarks [op, op'] [b, c] = false := by with_unfolding_all rfl) : ST X xr (.Compare a [op, op'] [b, c] pos) (mChain g g' ma mb mc) :=
  PT.imp (pt_chain ho ho' ha hb hc hm) fun σ H Q h => mChain.read hn hg hn' hg' σ H _ h.toM

/-! ### and, or, not, if -/
noncomputable def mAnd (a b : Ev) : Ev := fun ρ A => (a ρ A).bind fun x A1 => match x with
  | .bl true => b ρ A1
  | .bl false => .ok (.bl false) A1
  | _ => .bad
noncomputable def mOr (a b : Ev) : Ev := fun ρ A => (a ρ A).bind fun x A1 => match x with
  | .bl true => .ok (.bl true) A1
  | .bl false => b ρ A1
  | _ => .bad
noncomputable def mNot (a : Ev) : Ev := fun ρ A => (a ρ A).bind fun x A1 => match x with
  | .bl k => .ok (.bl (!k)) A1
  | _ => .bad
noncomputable def mIf (c a b : Ev) : Ev := fun ρ A => (c ρ A).bind fun x A1 => match x with
  | .bl true => a ρ A1
  | .bl false => b ρ A1
  | _ => .bad
theorem se_one {op} (h : SE X xr a ma) : SE X xr (.BoolOp op [a] pos) ma := pe_one h
theorem se_and {rest : List Expr} (ha : SE X xr a ma) (hb : SE X xr (.BoolOp .And (b :: rest) pos) mb) : SE X xr (.BoolOp .And (a :: b :: rest) pos) (mAnd ma mb) :=
  PE.imp (pe_and ha hb) fun σ H Q ⟨φ, A, ρ, S, re, h⟩ => by
    refine tM.go S re (post_bind.mp h) fun w A1 φ1 H1 v h1 l1 S1 q1 => ?_
    cases w with
    | bl k =>
      refine ⟨k, q1, ?_⟩
      cases k with
      | true => rw [if_pos rfl]; exact ⟨φ1, A1, ρ, S1, re.mono l1, post_mono h1 (fun _ _ z => z.mono l1) fun _ _ z => z.mono l1⟩
      | false => rw [if_neg Bool.false_ne_true]; exact h1 φ1 H1 _ l1 S1 rfl
    | non => cases h1
    | int _ => cases h1
    | str _ => cases h1
    | tup _ => cases h1
    | ref _ => cases h1
theorem se_not (ha : SE X xr a ma) : SE X xr (.UnaryOp .Not a pos) (mNot ma) :=
  PE.imp (pe_not ha) fun σ H Q ⟨φ, A, ρ, S, re, h⟩ => by
    refine tM.go S re (post_bind.mp h) fun w A1 φ1 H1 v h1 l1 S1 q1 => ?_
    cases w with
    | bl k => exact ⟨k, q1, h1 φ1 H1 _ l1 S1 rfl⟩
    | non => cases h1
    | int _ => cases h1
    | str _ => cases h1
    | tup _ => cases h1
    | ref _ => cases h1
/-- a value that is a truth, as a test -/
theorem st_val (h : SE X xr e m) (he : ∀ whole, isTrue e X.env whole = (do let v ← whole; standAt e.pos; holding [v] (truthy v)) := by intro _; rfl) : ST X xr e m :=
  PT.imp (pt_val h he) fun σ H Q h => h.toM
theorem tT.mono {K : PySem.W.Frag} {φ φ1 : List Addr} {H H1 : Hp} {A1 : Hx} {ρ : En} {σ : St} {Q : Bool → Hp → Prop} (S1 : Sim K φ1 A1 H1) (l1 : Le K φ H φ1 H1) (re : RE K φ H ρ σ)
    (h : (m ρ A1).post (fun w A' => ∃ b, w = .bl b ∧ ∀ φ' H', Le K φ H φ' H' → Sim K φ' A' H' → Q b H') (EB K φ H xr)) : tT K xr m σ H1 Q :=
  ⟨φ1, A1, ρ, S1, re.mono l1, post_mono h (fun w A' ⟨b, e, q⟩ => ⟨b, e, fun φ' H' l s => q φ' H' (l1.trans l) s⟩) fun _ _ z => z.mono l1⟩
theorem sw_and1 (ha : ST X xr a ma) : SW X xr (.BoolOp .And [a] pos) ma := pw_and1 ha
theorem sw_or1 (ha : ST X xr a ma) : SW X xr (.BoolOp .Or [a] pos) ma := pw_or1 ha
theorem sw_and {rest : List Expr} (ha : ST X xr a ma) (hb : SW X xr (.BoolOp .And (b :: rest) pos) mb) : SW X xr (.BoolOp .And (a :: b :: rest) pos) (mAnd ma mb) :=
  PW.imp (pw_and ha hb) fun σ H Q ⟨φ, A, ρ, S, re, h⟩ => by
    refine tT.go S re (post_bind.mp h) fun w A1 h1 => ?_
    cases w with
    | bl k =>
      refine ⟨k, rfl, fun φ1 H1 l1 S1 => ?_⟩
      cases k with
      | true => rw [if_pos rfl]; exact tT.mono S1 l1 re h1
      | false => rw [if_neg Bool.false_ne_true]; obtain ⟨b, e, q⟩ := h1; cases e; exact q φ1 H1 l1 S1
    | non => cases h1
    | int _ => cases h1
    | str _ => cases h1
    | tup _ => cases h1
    | ref _ => cases h1
theorem sw_or {rest : List Expr} (ha : ST X xr a ma) (hb : SW X xr (.BoolOp .Or (b :: rest) pos) mb) : SW X xr (.BoolOp .Or (a :: b :: rest) pos) (mOr ma mb) :=
  PW.imp (pw_or ha hb) fun σ H Q ⟨φ, A, ρ, S, re, h⟩ => by
    refine tT.go S re (post_bind.mp h) fun w A1 h1 => ?_
    cases w with
    | bl k =>
      refine ⟨k, rfl, fun φ1 H1 l1 S1 => ?_⟩
      cases k with
      | false => rw [if_neg Bool.false_ne_true]; exact tT.mono S1 l1 re h1
      | true => rw [if_pos rfl]; obtain ⟨b, e, q⟩ := h1; cases e; exact q φ1 H1 l1 S1
    | non => cases h1
    | int _ => cases h1
    | str _ => cases h1
    | tup _ => cases h1
    | ref _ => cases h1
theorem st_bool (h : SW X xr e m) : ST X xr e m := PW.pt h
theorem st_not (ha : ST X xr a ma) : ST X xr (.UnaryOp .Not a pos) (mNot ma) :=
  PT.imp (pt_not ha) fun σ H Q ⟨φ, A, ρ, S, re, h⟩ => by
    refine tT.go S re (post_bind.mp h) fun w A1 h1 => ?_
    cases w with
    | bl k => obtain ⟨b, e, q⟩ := h1; cases e; exact ⟨k, rfl, fun φ1 H1 l1 S1 => q φ1 H1 l1 S1⟩
    | non => cases h1
    | int _ => cases h1
    | str _ => cases h1
    | tup _ => cases h1
    | ref _ => cases h1
theorem se_if {c : Expr} (hc : ST X xr c mc) (ha : SE X xr a ma) (hb : SE X xr b mb) : SE X xr (.IfExp c a b pos) (mIf mc ma mb) :=
  PE.imp (pe_ifExp hc ha hb) fun σ H Q ⟨φ, A, ρ, S, re, h⟩ => by
    refine tT.go S re (post_bind.mp h) fun w A1 h1 => ?_
    cases w with
    | bl k =>
      refine ⟨k, rfl, fun φ1 H1 l1 S1 => ?_⟩
      cases k with
      | true => rw [if_pos rfl]; exact ⟨φ1, A1, ρ, S1, re.mono l1, post_mono h1 (fun _ _ z => z.mono l1) fun _ _ z => z.mono l1⟩
      | false => rw [if_neg Bool.false_ne_true]; exact ⟨φ1, A1, ρ, S1, re.mono l1, post_mono h1 (fun _ _ z => z.mono l1) fun _ _ z => z.mono l1⟩
    | non => cases h1
    | int _ => cases h1
    | str _ => cases h1
    | tup _ => cases h1
    | ref _ => cases h1

/-! ### arguments, displays -/
noncomputable def aNil : Ea := fun _ A => .ok [] A
noncomputable def aCons (a : Ev) (r : Ea) : Ea := fun ρ A => (a ρ A).bind fun x A1 => (r ρ A1).bind fun xs A2 => .ok (x :: xs) A2
theorem sa_nil : SA X xr [] aNil := PA.imp pa_nil fun σ H Q ⟨φ, A, ρ, S, re, h⟩ => h φ H [] .refl S .nil
theorem sa_cons {mr : Ea} (ha : SE X xr e ma) (hr : SA X xr es mr) (hs : starEach (e :: es) X.env = (false, eval e X.env) :: starEach es X.env := by rfl) : SA X xr (e :: es) (aCons ma mr) :=
  PA.imp (pa_cons ha hr hs) fun σ H Q ⟨φ, A, ρ, S, re, h⟩ => by
    refine tM.go S re (post_bind.mp h) fun w A1 φ1 H1 v h1 l1 S1 q1 => ?_
    refine tAr.go S1 (re.mono l1) (post_mono (post_bind.mp h1) (fun _ _ z => z) fun _ _ z => z.mono l1) fun w2 A2 φ2 H2 v2 h2 l2 S2 q2 => ?_
    exact h2 φ2 H2 _ (l1.trans l2) S2 (.cons (q1.mono l2) q2)
noncomputable def mTup (a : Ea) : Ev := fun ρ A => (a ρ A).bind fun xs A1 => .ok (.tup xs) A1
noncomputable def mLst (a : Ea) : Ev := fun ρ A => (a ρ A).bind fun xs A1 => .ok (.ref A1.length) (A1 ++ [.lst xs])
theorem tupNew {K : PySem.W.Frag} {φ : List Addr} {A : Hx} {H : Hp} {p : Addr} {ws : List W} {vs : List V} (S : Sim K φ A H) (hp : H p = none) (r : RVs K φ H ws vs) :
    Le K φ H φ (upd H p (.tup vs)) ∧ Sim K φ A (upd H p (.tup vs)) ∧ RV K φ (upd H p (.tup vs)) (.tup ws) (.ref p) :=
  ⟨Le.new hp, S.lay hp, p, vs, rfl, SqT.of upd_same, r.mono (Le.new hp)⟩
theorem lstNew {K : PySem.W.Frag} {φ : List Addr} {A : Hx} {H : Hp} {p : Addr} {ws : List W} {vs : List V} (S : Sim K φ A H) (hp : H p = none) (r : RVs K φ H ws vs) :
    Le K φ H (φ ++ [p]) (upd H p (.lst vs)) ∧ Sim K (φ ++ [p]) (A ++ [.lst ws]) (upd H p (.lst vs)) ∧ RV K (φ ++ [p]) (upd H p (.lst vs)) (.ref A.length) (.ref p) := by
  have l : Le K φ H (φ ++ [p]) (upd H p (.lst vs)) := Le.alloc hp
  obtain ⟨h1, h2⟩ := S.alloc (o := .lst ws) hp ⟨vs, upd_same, r.mono l⟩
  exact ⟨h1, h2, p, rfl, by rw [← S.len]; simp⟩
theorem se_lst {mr : Ea} (h : SA X xr es mr) (hl : ∀ ρ A ws A', mr ρ A = .ok ws A' → ws.length ≤ sizeLine) : SE X xr (.List es pos) (mLst mr) :=
  PE.imp (pe_lst h) fun σ H Q ⟨φ, A, ρ, S, re, h⟩ => by
    have h' := post_bind.mp h
    cases e : mr ρ A with
    | ok ws A' =>
      rw [e] at h'
      refine ⟨φ, A, ρ, S, re, ?_⟩
      rw [e]
      intro φ1 H1 vs l1 S1 q1
      refine ⟨by rw [← q1.length]; exact hl ρ A ws A' e, fun p hp => ?_⟩
      obtain ⟨a1, a2, a3⟩ := lstNew S1 hp q1
      exact h' _ _ _ (l1.trans a1) a2 a3
    | exc x A' => rw [e] at h'; refine ⟨φ, A, ρ, S, re, ?_⟩; rw [e]; exact h'
    | bad => rw [e] at h'; exact h'.elim
end
end Mi
namespace Mi
open PySem PySem.Spec PyProof.Rows L2

/-! ### statements -/
inductive Fl where
  | nx (ρ : En) | rt (w : W) | bk (ρ : En) | ct (ρ : En)
noncomputable abbrev Ex := En → Hx → R Fl
noncomputable def FB (K : PySem.W.Frag) (φ : List Addr) (H : Hp) (D : Ends) : Fl → Hx → Prop
  | .nx ρ, A => ∀ φ' H' σ', Le K φ H φ' H' → Sim K φ' A H' → RE K φ' H' ρ σ' → D.nx σ' H'
  | .rt w, A => ∀ φ' H' v, Le K φ H φ' H' → Sim K φ' A H' → RV K φ' H' w v → D.rt v H'
  | .bk ρ, A => ∀ φ' H' σ', Le K φ H φ' H' → Sim K φ' A H' → RE K φ' H' ρ σ' → D.bk σ' H'
  | .ct ρ, A => ∀ φ' H' σ', Le K φ H φ' H' → Sim K φ' A H' → RE K φ' H' ρ σ' → D.ct σ' H'
theorem FB.mono {K : PySem.W.Frag} {φ φ1 : List Addr} {H H1 : Hp} {D : Ends} {fl : Fl} {A : Hx} (h : FB K φ H D fl A) (l : Le K φ H φ1 H1) : FB K φ1 H1 D fl A := by
  cases fl with
  | nx ρ => exact fun φ' H' v l' => h φ' H' v (l.trans l')
  | rt ρ => exact fun φ' H' v l' => h φ' H' v (l.trans l')
  | bk ρ => exact fun φ' H' v l' => h φ' H' v (l.trans l')
  | ct ρ => exact fun φ' H' v l' => h φ' H' v (l.trans l')
noncomputable def tS (K : PySem.W.Frag) (xr : XR) (m : Ex) : TS := fun D σ H => ∃ φ A ρ, Sim K φ A H ∧ RE K φ H ρ σ ∧ (m ρ A).post (FB K φ H D) (EB K φ H xr)
noncomputable def SS (X : Cx) (xr : XR) (st : Stmt) (m : Ex) : Prop := PS X st (tS X.K xr m)
noncomputable def SSs (X : Cx) (xr : XR) (st : List Stmt) (m : Ex) : Prop := PSs X st (tS X.K xr m)
section
variable {X : Cx} {xr : XR} {e a b c : Expr} {st : Stmt} {rest : List Stmt} {m ma mb mc : Ev} {m1 m2 : Ex} {pos : Pos}
theorem PS.imp {t t' : TS} (h : PS X st t) (i : ∀ D σ H, t' D σ H → t D σ H) : PS X st t' := fun pins s σ H D I hw => h pins s σ H D I (i D σ H hw)
theorem PSs.imp {t t' : TS} (h : PSs X rest t) (i : ∀ D σ H, t' D σ H → t D σ H) : PSs X rest t' := fun pins s σ H D I hw => h pins s σ H D I (i D σ H hw)
noncomputable def xNil : Ex := fun ρ A => .ok (.nx ρ) A
noncomputable def xSeq (m1 m2 : Ex) : Ex := fun ρ A => (m1 ρ A).bind fun fl A1 => match fl with
  | .nx ρ1 => m2 ρ1 A1
  | f => .ok f A1
theorem ss_nil : SSs X xr [] xNil := PSs.imp pss_nil fun D σ H ⟨φ, A, ρ, S, re, h⟩ => h φ H σ .refl S re
theorem ss_cons (h1 : SS X xr st m1) (h2 : SSs X xr rest m2) : SSs X xr (st :: rest) (xSeq m1 m2) :=
  PSs.imp (pss_cons h1 h2) fun D σ H ⟨φ, A, ρ, S, re, h⟩ => by
    refine ⟨φ, A, ρ, S, re, post_mono (post_bind.mp h) (fun fl A1 h1 => ?_) fun _ _ z => z⟩
    cases fl with
    | nx ρ1 => exact fun φ' H' σ' l S' r' => ⟨φ', A1, ρ1, S', r', post_mono h1 (fun _ _ z => z.mono l) fun _ _ z => z.mono l⟩
    | rt w => exact h1
    | bk ρ1 => exact h1
    | ct ρ1 => exact h1
noncomputable def xBrk : Ex := fun ρ A => .ok (.bk ρ) A
noncomputable def xCnt : Ex := fun ρ A => .ok (.ct ρ) A
noncomputable def xDo (m : Ev) : Ex := fun ρ A => (m ρ A).bind fun _ A1 => .ok (.nx ρ) A1
theorem ss_expr (he : SE X xr e m) (hs : swapsWith e none pos.line X.env = pure false := by rfl) : SS X xr (.Expr e pos) (xDo m) :=
  PS.imp (ps_expr he hs) fun D σ H ⟨φ, A, ρ, S, re, h⟩ => tM.go S re (post_bind.mp h) fun w A1 φ1 H1 v h1 l1 S1 q1 => h1 φ1 H1 σ l1 S1 (re.mono l1)
noncomputable def xRet (m : Ev) : Ex := fun ρ A => (m ρ A).bind fun w A1 => .ok (.rt w) A1
theorem ss_ret (he : SE X xr e m) : SS X xr (.Return (some e) pos) (xRet m) :=
  PS.imp (ps_ret he) fun D σ H ⟨φ, A, ρ, S, re, h⟩ => tM.go S re (post_bind.mp h) fun w A1 φ1 H1 v h1 l1 S1 q1 => h1 φ1 H1 v l1 S1 q1
noncomputable def xIf (c : Ev) (a b : Ex) : Ex := fun ρ A => (c ρ A).bind fun x A1 => match x with
  | .bl true => a ρ A1
  | .bl false => b ρ A1
  | _ => .bad
theorem ss_if {sa sb : List Stmt} (hc : ST X xr c mc) (ha : SSs X xr sa m1) (hb : SSs X xr sb m2) : SS X xr (.If c sa sb pos) (xIf mc m1 m2) :=
  PS.imp (ps_if hc ha hb) fun D σ H ⟨φ, A, ρ, S, re, h⟩ => by
    refine tT.go S re (post_bind.mp h) fun w A1 h1 => ?_
    cases w with
    | bl k =>
      refine ⟨k, rfl, fun φ1 H1 l1 S1 => ?_⟩
      cases k with
      | true => rw [if_pos rfl]; exact ⟨φ1, A1, ρ, S1, re.mono l1, post_mono h1 (fun _ _ z => z.mono l1) fun _ _ z => z.mono l1⟩
      | false => rw [if_neg Bool.false_ne_true]; exact ⟨φ1, A1, ρ, S1, re.mono l1, post_mono h1 (fun _ _ z => z.mono l1) fun _ _ z => z.mono l1⟩
    | non => cases h1
    | int _ => cases h1
    | str _ => cases h1
    | tup _ => cases h1
    | ref _ => cases h1
noncomputable def xSet (i : Nat) (m : Ev) : Ex := fun ρ A => (m ρ A).bind fun w A1 => .ok (.nx (ρ.set i (some w))) A1
theorem xSet.read {i : Nat} : ∀ D σ H, tS X.K xr (xSet i m) D σ H → tAsg (tM X.K xr m) (gName i) D σ H := by
  rintro D σ H ⟨φ, A, ρ, S, re, h⟩
  exact tM.go S re (post_bind.mp h) fun w A1 φ1 H1 v h1 l1 S1 q1 => h1 φ1 H1 _ l1 S1 ((re.mono l1).set q1)
theorem ss_set (i : Nat) {x : Str} {pos' : Pos} (hN : X.N.Nodup) (he : SE X xr e m) (hi : X.N[i]? = some x := by rfl) (hx : Loc X.env.scope x := by first | exact Or.inl rfl | exact Or.inr rfl) (hs : swapsWith e (some (.Name x pos')) pos.line X.env = pure false := by rfl)
    (hf : X.fn x = true ∨ X.env.scope.names.lookup x = some .local := by first | exact .inl rfl | exact .inr rfl) : SS X xr (.Assign [.Name x pos'] e pos) (xSet i m) :=
  PS.imp (ps_set hN hi hx he hs hf) xSet.read

/-! ### o[i] = e -/
noncomputable def xStore (g : W → W → W → Hx → R Unit) (me mo mi : Ev) : Ex := fun ρ A => (me ρ A).bind fun v A1 => (mo ρ A1).bind fun o A2 => (mi ρ A2).bind fun i A3 => (g o i v A3).bind fun _ A4 => .ok (.nx ρ) A4
noncomputable def SetOk (K : PySem.W.Frag) (t : TSet) (g : W → W → W → Hx → R Unit) : Prop := ∀ φ A H o i v wo wi wv Q, Sim K φ A H → RV K φ H wo o → RV K φ H wi i → RV K φ H wv v →
  (g wo wi wv A).post (fun _ A' => ∀ φ' H', Le K φ H φ' H' → Sim K φ' A' H' → Q H') noX → t o i v H Q
/-! ### loops -/
structure Itx where
  at_ : Hx → Nat → Option (Option W)
  len : Nat
noncomputable def ItR (K : PySem.W.Frag) (φ : List Addr) (H : Hp) (j : Itx) (J : It) : Prop := ∀ i φ' H' A', LeW K φ H φ' H' → Sim K φ' A' H' →
  (∀ w, j.at_ A' i = some (some w) → J.go i H' ∧ ∀ x H1, J.yld i H' x H1 → Le K φ' H' φ' H1 ∧ Sim K φ' A' H1 ∧ RV K φ' H1 w x) ∧ (j.at_ A' i = some none → J.stop i H')
noncomputable abbrev Ei := En → Hx → R Itx
noncomputable def tI (K : PySem.W.Frag) (xr : XR) (mi : Ei) : TI := fun σ H Rr => ∃ φ A ρ, Sim K φ A H ∧ RE K φ H ρ σ ∧ (mi ρ A).post (fun j A1 => ∀ φ1 H1 J, Le K φ H φ1 H1 → Sim K φ1 A1 H1 → ItR K φ1 H1 j J → Rr J H1) (EB K φ H xr)
noncomputable def SI (X : Cx) (xr : XR) (tg iter : Expr) (mi : Ei) : Prop := PI X tg iter (tI X.K xr mi)
theorem PI.imp {tg : Expr} {t t' : TI} (h : PI X tg e t) (i : ∀ σ H Q, t' σ H Q → t σ H Q) : PI X tg e t' := fun pins s σ H Q I hw => h pins s σ H Q I (i σ H Q hw)
/-- a target -/
noncomputable abbrev Tg := W → En → Option En
noncomputable def tG (K : PySem.W.Frag) (tw : Tg) : TG := fun v σ H Q => ∃ φ A ρ w ρ', Sim K φ A H ∧ RE K φ H ρ σ ∧ RV K φ H w v ∧ tw w ρ = some ρ' ∧ ∀ σ', RE K φ H ρ' σ' → Q σ' H
noncomputable def SG (X : Cx) (tg : Expr) (tw : Tg) : Prop := PG X tg (tG X.K tw)
theorem PG.imp {tg : Expr} {t t' : TG} (h : PG X tg t) (i : ∀ v σ H Q, t' v σ H Q → t v σ H Q) : PG X tg t' := fun pins s σ H v u Q I r hw => h pins s σ H v u Q I r (i v σ H Q hw)
noncomputable def gVar (i : Nat) : Tg := fun w ρ => some (ρ.set i (some w))
theorem sg_var (i : Nat) {x : Str} (hN : X.N.Nodup) (hi : X.N[i]? = some x := by rfl) (hx : Loc X.env.scope x := by first | exact Or.inl rfl | exact Or.inr rfl) (hf : X.fn x = true ∨ X.env.scope.names.lookup x = some .local := by first | exact .inl rfl | exact .inr rfl) : SG X (.Name x pos) (gVar i) :=
  PG.imp (pg_name hN hi hx hf) fun v σ H Q ⟨φ, A, ρ, w, ρ', S, re, q, e, k⟩ => by
    have e' : ρ.set i (some w) = ρ' := Option.some.inj e
    subst e'
    exact k _ (re.set q)
/-- (a, b) of two names -/
noncomputable def gPair (i j : Nat) : Tg := fun w ρ => match w with
  | .tup [x, y] => some ((ρ.set i (some x)).set j (some y))
  | _ => none
theorem sg_pair (i j : Nat) {x y : Str} {p q : Pos} {k : Nat} (hc : X.calm = true) (hN : X.N.Nodup) (hi : X.N[i]? = some x := by rfl) (hx : Loc X.env.scope x := by first | exact Or.inl rfl | exact Or.inr rfl) (hf : X.fn x = true ∨ X.env.scope.names.lookup x = some .local := by first | exact .inl rfl | exact .inr rfl)
    (hj : X.N[j]? = some y := by rfl) (hy : Loc X.env.scope y := by first | exact Or.inl rfl | exact Or.inr rfl) (hg : X.fn y = true ∨ X.env.scope.names.lookup y = some .local := by first | exact .inl rfl | exact .inr rfl) : SG X (.Tuple [.Name x p, .Name y q] k pos) (gPair i j) :=
  PG.imp (pg_tup hc (pgs_cons (pg_name hN hi hx hf) (pgs_cons (pg_name hN hj hy hg) pgs_nil))) fun v σ H Q ⟨φ, A, ρ, w, ρ', S, re, qq, e, kk⟩ => by
    unfold gPair at e
    split at e
    · rename_i x1 y1
      have e' := Option.some.inj e
      subst e'
      obtain ⟨a, vs, rfl, hs, rs⟩ := qq
      obtain ⟨v1, r1, rfl, h1, v2, r2, rfl, h2, rfl⟩ := rs
      exact ⟨a, [v1, v2], rfl, hs, rfl, v1, [v2], rfl, v2, [], rfl, rfl, kk _ ((re.set h1).set h2)⟩
    · cases e
noncomputable def forGo (j : Itx) (st : W → Ex) : Nat → Nat → Ex
  | 0, i, ρ, A => match j.at_ A i with
    | some none => .ok (.nx ρ) A
    | _ => .bad
  | f + 1, i, ρ, A => match j.at_ A i with
    | some none => .ok (.nx ρ) A
    | some (some w) => (st w ρ A).bind fun fl A1 => match fl with
      | .nx ρ1 => forGo j st f (i + 1) ρ1 A1
      | .ct ρ1 => forGo j st f (i + 1) ρ1 A1
      | .bk ρ1 => .ok (.nx ρ1) A1
      | .rt w => .ok (.rt w) A1
    | none => .bad
noncomputable def turn (tw : Tg) (body : Ex) (w : W) : Ex := fun ρ A => match tw w ρ with
  | some ρ1 => body ρ1 A
  | none => .bad
noncomputable def xFor (mi : Ei) (tw : Tg) (body : Ex) : Ex := fun ρ A => (mi ρ A).bind fun j A1 => forGo j (turn tw body) j.len 0 ρ A1
theorem ss_for {tg iter : Expr} {body : List Stmt} {mi : Ei} {tw : Tg} (hp : PassesOwn (model X.prog X.w) X.A X.env X.xe) (hc : X.calm = true) (hi : SI X xr tg iter mi) (hg : SG X tg tw) (hb : SSs X xr body m1)
    (hs : ∀ x, foldedSetIterable iter X.env x = pure x := by intro _; rfl) : SS X xr (.For tg iter body [] pos) (xFor mi tw m1) :=
  PS.imp (ps_for hp hc hi hg hb hs) fun D σ H ⟨φ, A, ρ, S, re, h⟩ => by
    refine ⟨φ, A, ρ, S, re, post_mono (post_bind.mp h) (fun j A1 h1 φ1 H1 J l1 S1 jr => ?_) fun _ _ z => z⟩
    refine ⟨fun i f σ' H' => ∃ φ2 A2 ρ2, Le X.K φ1 H1 φ2 H' ∧ Sim X.K φ2 A2 H' ∧ RE X.K φ2 H' ρ2 σ' ∧ (forGo j (turn tw m1) f i ρ2 A2).post (FB X.K φ2 H' D) (EB X.K φ2 H' xr),
      ⟨j.len, φ1, A1, ρ, .refl, S1, re.mono l1, post_mono h1 (fun _ _ z => z.mono l1) fun _ _ z => z.mono l1⟩, ?_⟩
    rintro i f σ2 H2 ⟨φ2, A2, ρ2, l2, S2, re2, h2⟩
    obtain ⟨j1, j2⟩ := jr i φ2 H2 A2 ⟨l2.ex, l2.tp, l2.fz⟩ S2
    cases ej : j.at_ A2 i with
    | none => cases f <;> (unfold forGo at h2; rw [ej] at h2; exact h2.elim)
    | some o =>
      cases o with
      | none =>
        left
        refine ⟨j2 ej, ?_⟩
        cases f <;> (unfold forGo at h2; rw [ej] at h2; exact h2 φ2 H2 σ2 .refl S2 re2)
      | some w =>
        right
        obtain ⟨go, yl⟩ := j1 w ej
        cases f with
        | zero => unfold forGo at h2; rw [ej] at h2; exact h2.elim
        | succ f =>
          unfold forGo at h2
          rw [ej] at h2
          refine ⟨go, fun σ' H' => ∃ φ2 A2 ρ2, Le X.K φ1 H1 φ2 H' ∧ Sim X.K φ2 A2 H' ∧ RE X.K φ2 H' ρ2 σ' ∧ (forGo j (turn tw m1) f (i + 1) ρ2 A2).post (FB X.K φ2 H' D) (EB X.K φ2 H' xr), fun σ' H' z => ⟨f, Nat.lt_succ_self _, z⟩, fun x H3 y => ?_⟩
          obtain ⟨l3, S3, q3⟩ := yl x H3 y
          have h3 := post_bind.mp h2
          unfold turn at h3
          cases et : tw w ρ2 with
          | none => rw [et] at h3; exact h3.elim
          | some ρ3 =>
            rw [et] at h3
            refine ⟨φ2, A2, ρ2, w, ρ3, S3, re2.mono l3, q3, et, fun σ3 re3 => ?_⟩
            refine ⟨φ2, A2, ρ3, S3, re3, post_mono h3 (fun fl A4 h4 => ?_) fun _ _ z => z.mono l3⟩
            cases fl with
            | nx ρ4 => exact fun φ4 H4 σ4 l4 S4 re4 => ⟨φ4, A4, ρ4, (l2.trans l3).trans l4, S4, re4, post_mono h4 (fun _ _ z => z.mono (l3.trans l4)) fun _ _ z => z.mono (l3.trans l4)⟩
            | ct ρ4 => exact fun φ4 H4 σ4 l4 S4 re4 => ⟨φ4, A4, ρ4, (l2.trans l3).trans l4, S4, re4, post_mono h4 (fun _ _ z => z.mono (l3.trans l4)) fun _ _ z => z.mono (l3.trans l4)⟩
            | bk ρ4 => exact fun φ4 H4 σ4 l4 S4 re4 => h4 φ4 H4 σ4 (l3.trans l4) S4 re4
            | rt w4 => exact fun φ4 H4 v4 l4 S4 q4 => h4 φ4 H4 v4 (l3.trans l4) S4 q4

/-! ### while -/
noncomputable def whGo (c : Ev) (body : Ex) : Nat → Ex
  | 0, ρ, A => .bad
  | f + 1, ρ, A => (c ρ A).bind fun x A1 => match x with
    | .bl true => (body ρ A1).bind fun fl A2 => match fl with
      | .nx ρ1 => whGo c body f ρ1 A2
      | .ct ρ1 => whGo c body f ρ1 A2
      | .bk ρ1 => .ok (.nx ρ1) A2
      | .rt w => .ok (.rt w) A2
    | .bl false => .ok (.nx ρ) A1
    | _ => .bad
noncomputable def xWhile (f : Nat) (c : Ev) (body : Ex) : Ex := whGo c body f
/-! ### comprehensions -/
noncomputable def ncapE (nl : Nat) (cap : List Nat) (ρ : En) : En := List.replicate nl none ++ cap.map fun i => (ρ[i]?).join
theorem RE.ncap {K : PySem.W.Frag} {φ : List Addr} {H : Hp} {ρ : En} {σ : St} {nl : Nat} {cap : List Nat} (r : RE K φ H ρ σ) : RE K φ H (ncapE nl cap ρ) (L2.ncap nl cap σ) := by
  refine ⟨by simp [ncapE, L2.ncap], fun i w e => ?_⟩
  unfold ncapE at e
  unfold L2.ncap
  by_cases hi : i < nl
  · rw [List.getElem?_append_left (by simpa using hi), List.getElem?_replicate] at e
    split at e <;> cases e
  · rw [List.getElem?_append_right (by simpa using hi), List.length_replicate, List.getElem?_map] at e
    rw [List.getElem?_append_right (by simpa using hi), List.length_replicate, List.getElem?_map]
    cases hc : cap[i - nl]? with
    | none => rw [hc] at e; cases e
    | some k =>
      rw [hc] at e
      have e2 : (ρ[k]?).join = some w := Option.some.inj e
      cases hk : ρ[k]? with
      | none => rw [hk] at e2; cases e2
      | some o => cases o with
        | none => rw [hk] at e2; cases e2
        | some w' =>
          rw [hk] at e2
          cases e2
          obtain ⟨v, h1, h2⟩ := r.get k w hk
          exact ⟨v, by simp [h1], h2⟩
noncomputable abbrev Em := En → List W → Hx → R (En × List W)
/-- so many items at most -/
noncomputable def cpMost : Nat := 100000
noncomputable def emElt (elt : Ev) : Em := fun ρ acc A => (elt ρ A).bind fun y A1 => if acc.length < cpMost then .ok (ρ, acc ++ [y]) A1 else .bad
noncomputable def emGo (j : Itx) (tw : Tg) (ifs : Ev) (em : Em) : Nat → Nat → Em
  | 0, i, ρ, acc, A => match j.at_ A i with
    | some none => .ok (ρ, acc) A
    | _ => .bad
  | f + 1, i, ρ, acc, A => match j.at_ A i with
    | some none => .ok (ρ, acc) A
    | some (some w) => match tw w ρ with
      | some ρ1 => (ifs ρ1 A).bind fun c A1 => match c with
        | .bl true => (em ρ1 acc A1).bind fun p A2 => emGo j tw ifs em f (i + 1) p.1 p.2 A2
        | .bl false => emGo j tw ifs em f (i + 1) ρ1 acc A1
        | _ => .bad
      | none => .bad
    | none => .bad
noncomputable def emFor (mi : Ei) (tw : Tg) (ifs : Ev) (em : Em) : Em := fun ρ acc A => (mi ρ A).bind fun j A1 => emGo j tw ifs em j.len 0 ρ acc A1
noncomputable abbrev Eq' := En → Hx → R (List W)
noncomputable def cItems (nl : Nat) (cap : List Nat) (mi : Ei) (tw : Tg) (ifs : Ev) (em : Em) : Eq' := fun ρ A => (mi ρ A).bind fun j A1 => (emGo j tw ifs em j.len 0 (ncapE nl cap ρ) [] A1).nox.bind fun p A2 => .ok p.2 A2
/-- what an element, or a clause, does to the list at D that nothing else names -/
noncomputable def tE (K : PySem.W.Frag) (em : Em) : TEm := fun D σ H Q => ∃ φ A ρ acc ys, Sim K φ A H ∧ RE K φ H ρ σ ∧ H D = some (.lst ys) ∧ (∀ k : Nat, φ[k]? ≠ some D) ∧ RVs K φ H acc ys ∧
  (em ρ acc A).post (fun p A1 => ∀ φ1 H1 σ1 zs, LeD K D φ H φ1 H1 → (∀ k : Nat, φ1[k]? ≠ some D) → Sim K φ1 A1 H1 → RE K φ1 H1 p.1 σ1 → H1 D = some (.lst zs) → RVs K φ1 H1 p.2 zs → Q σ1 H1) noX
noncomputable abbrev xr0 : XR := fun _ _ => False
noncomputable def SM (X : Cx) (elt : Expr) (gens : List Comprehension) (sc : Scope) (cpos : Pos) (d : Nat) (em : Em) : Prop := PEm X elt gens sc cpos d (tE X.K em)
theorem PEm.imp {elt : Expr} {gens : List Comprehension} {sc : Scope} {d : Nat} {t t' : TEm} (h : PEm X elt gens sc pos d t) (i : ∀ D σ H Q, t' D σ H Q → t D σ H Q) : PEm X elt gens sc pos d t' :=
  fun pins s σ H D Q k Q' E I hw hk => h pins s σ H D Q k Q' E I (i D σ H Q hw) hk
theorem post_xr0 {α : Type} {K : PySem.W.Frag} {φ : List Addr} {H : Hp} {r : R α} {P : α → Hx → Prop} (h : r.post P noX) : r.post P (EB K φ H xr0) := post_mono h (fun _ _ z => z) fun _ _ z => z.elim
theorem sm_elt {elt : Expr} {gens : List Comprehension} {sc : Scope} {d : Nat} {me : Ev} (hx : ∀ e s, X.xe e s → False) (he : SE X xr0 elt me) (hg : gens[d + 1]? = none) : SM X elt gens sc pos d (emElt me) :=
  PEm.imp (pem_emit hx he hg) fun D σ H Q ⟨φ, A, ρ, acc, ys, S, re, hD, nD, ra, h⟩ => by
    refine tM.go S re (post_xr0 (post_bind.mp h)) fun w A1 φ1 H1 v h1 l1 S1 q1 => ?_
    obtain ⟨d1, n1⟩ := l1.off hD nD
    by_cases hz : acc.length < cpMost
    · rw [if_pos hz] at h1
      have hl := ra.length
      refine ⟨ys, d1, ?_, ?_⟩
      · rw [← hl]
        have : sizeLine = 16777216 := sizeLine_eq
        unfold cpMost at hz
        omega
      · exact h1 φ1 _ σ _ (l1.toD.trans (LeD.upd d1)) n1 (S1.off d1 n1) ⟨re.len, fun i w e => let ⟨v, a, b⟩ := re.get i w e; ⟨v, a, (b.mono l1).monoD (LeD.upd d1)⟩⟩ upd_same
          (((ra.mono l1).monoD (LeD.upd d1)).append (.one (q1.monoD (LeD.upd d1))))
    · rw [if_neg hz] at h1; exact h1.elim
noncomputable def STs (X : Cx) (ifs : List Expr) (m : Ev) : Prop := PIfs X ifs (tT X.K xr0 m)
theorem sts_nil : STs X [] (mLit (.bl true)) := fun pins s σ H Q I ⟨φ, A, ρ, S, re, h⟩ => pifs_nil pins s σ H Q I (by
  obtain ⟨b, e, q⟩ := h
  cases e
  exact q φ H .refl S)
theorem sts_one (h : ST X xr0 c mc) : STs X [c] mc := pifs_one h
/-- the loop of a clause -/
theorem emGo.read {tw : Tg} {ifs : Ev} {em : Em} {j : Itx} {J : It} {K : PySem.W.Frag} {D : Addr} {φ : List Addr} {A : Hx} {H : Hp} {ρ : En} {σ : St} {acc : List W} {ys : List V} {Q : St → Hp → Prop} {f : Nat}
    (jr : ItR K φ H j J)
    (S : Sim K φ A H) (re : RE K φ H ρ σ) (hD : H D = some (.lst ys)) (nD : ∀ k : Nat, φ[k]? ≠ some D) (ra : RVs K φ H acc ys)
    (h : (emGo j tw ifs em f 0 ρ acc A).post (fun p A1 => ∀ φ1 H1 σ1 zs, LeD K D φ H φ1 H1 → (∀ k : Nat, φ1[k]? ≠ some D) → Sim K φ1 A1 H1 → RE K φ1 H1 p.1 σ1 → H1 D = some (.lst zs) → RVs K φ1 H1 p.2 zs → Q σ1 H1) noX) :
    tLoop J (tG K tw) (tT K xr0 ifs) (tE K em) D σ H Q := by
  refine ⟨fun i f σ' H' => ∃ φ2 A2 ρ2 acc2 ys2, LeD K D φ H φ2 H' ∧ Sim K φ2 A2 H' ∧ RE K φ2 H' ρ2 σ' ∧ H' D = some (.lst ys2) ∧ (∀ k : Nat, φ2[k]? ≠ some D) ∧ RVs K φ2 H' acc2 ys2 ∧
    (emGo j tw ifs em f i ρ2 acc2 A2).post (fun p A1 => ∀ φ1 H1 σ1 zs, LeD K D φ H φ1 H1 → (∀ k : Nat, φ1[k]? ≠ some D) → Sim K φ1 A1 H1 → RE K φ1 H1 p.1 σ1 → H1 D = some (.lst zs) → RVs K φ1 H1 p.2 zs → Q σ1 H1) noX,
    ⟨f, φ, A, ρ, acc, ys, .refl, S, re, hD, nD, ra, h⟩, ?_⟩
  rintro i f σ2 H2 ⟨φ2, A2, ρ2, acc2, ys2, l2, S2, re2, hD2, nD2, ra2, h2⟩
  obtain ⟨j1, j2⟩ := jr i φ2 H2 A2 ⟨l2.ex, l2.tp, l2.fz⟩ S2
  cases ej : j.at_ A2 i with
  | none => cases f <;> (unfold emGo at h2; rw [ej] at h2; exact h2.elim)
  | some o =>
    cases o with
    | none =>
      left
      refine ⟨j2 ej, ?_⟩
      cases f <;> (unfold emGo at h2; rw [ej] at h2; exact h2 φ2 H2 σ2 ys2 l2 nD2 S2 re2 hD2 ra2)
    | some w =>
      right
      obtain ⟨go, yl⟩ := j1 w ej
      cases f with
      | zero => unfold emGo at h2; rw [ej] at h2; exact h2.elim
      | succ f =>
        unfold emGo at h2
        rw [ej] at h2
        refine ⟨go, fun σ' H' => ∃ φ2 A2 ρ2 acc2 ys2, LeD K D φ H φ2 H' ∧ Sim K φ2 A2 H' ∧ RE K φ2 H' ρ2 σ' ∧ H' D = some (.lst ys2) ∧ (∀ k : Nat, φ2[k]? ≠ some D) ∧ RVs K φ2 H' acc2 ys2 ∧
          (emGo j tw ifs em f (i + 1) ρ2 acc2 A2).post (fun p A1 => ∀ φ1 H1 σ1 zs, LeD K D φ H φ1 H1 → (∀ k : Nat, φ1[k]? ≠ some D) → Sim K φ1 A1 H1 → RE K φ1 H1 p.1 σ1 → H1 D = some (.lst zs) → RVs K φ1 H1 p.2 zs → Q σ1 H1) noX, fun σ' H' z => ⟨f, Nat.lt_succ_self _, z⟩, fun x H3 y => ?_⟩
        obtain ⟨l3, S3, q3⟩ := yl x H3 y
        obtain ⟨hD3, nD3⟩ := l3.off hD2 nD2
        dsimp only at h2
        cases et : tw w ρ2 with
        | none => rw [et] at h2; exact h2.elim
        | some ρ3 =>
          rw [et] at h2
          refine ⟨φ2, A2, ρ2, w, ρ3, S3, re2.mono l3, q3, et, fun σ3 re3 => ?_⟩
          refine tT.go S3 re3 (post_xr0 (post_bind.mp h2)) fun c A4 h4 => ?_
          cases c with
          | bl k =>
            refine ⟨k, rfl, fun φ4 H4 l4 S4 => ?_⟩
            obtain ⟨hD4, nD4⟩ := l4.off hD3 nD3
            have l04 := (l2.trans (l3.trans l4).toD)
            cases k with
            | true =>
              rw [if_pos rfl]
              refine ⟨φ4, A4, ρ3, acc2, ys2, S4, re3.mono l4, hD4, nD4, ra2.mono (l3.trans l4), post_mono (post_bind.mp h4) (fun p A5 h5 φ5 H5 σ5 zs l5 n5 S5 re5 d5 r5 => ?_) fun _ _ z => z⟩
              exact ⟨φ5, A5, p.1, p.2, zs, l04.trans l5, S5, re5, d5, n5, r5, h5⟩
            | false =>
              rw [if_neg Bool.false_ne_true]
              exact ⟨φ4, A4, ρ3, acc2, ys2, l04, S4, re3.mono l4, hD4, nD4, ra2.mono (l3.trans l4), h4⟩
          | non => cases h4
          | int _ => cases h4
          | str _ => cases h4
          | tup _ => cases h4
          | ref _ => cases h4
theorem ItR.mono {K : PySem.W.Frag} {φ φ1 : List Addr} {H H1 : Hp} {j : Itx} {J : It} (h : ItR K φ H j J) (l : LeW K φ H φ1 H1) : ItR K φ1 H1 j J :=
  fun i φ' H' A' l' => h i φ' H' A' ⟨fun n a e => l'.ex n a (l.ex n a e), fun a vs e => l'.tp a vs (l.tp a vs e), fun a o u e => l'.fz a o u (l.fz a o u e)⟩
theorem sm_for {elt tg iter : Expr} {ifs : List Expr} {gens : List Comprehension} {sc : Scope} {d : Nat} {mi : Ei} {tw : Tg} {mf : Ev} {em : Em} (hx : ∀ e s, X.xe e s → False) (hc : X.calm = true) (hg : gens[d + 1]? = some ⟨tg, iter, ifs, 0⟩) (ha : ∀ g', gens[d + 2]? = some g' → g'.is_async = 0)
    (hw : SI X xr0 tg iter mi) (hgt : SG X tg tw) (hi : STs X ifs mf) (hm : SM X elt gens sc pos (d + 1) em) (hs : ∀ x, foldedSetIterable iter X.env x = pure x := by intro _; rfl) : SM X elt gens sc pos d (emFor mi tw mf em) :=
  PEm.imp (pem_nest hx hc hg ha hw hgt hi hm hs) fun D σ H Q ⟨φ, A, ρ, acc, ys, S, re, hD, nD, ra, h⟩ => by
    refine ⟨φ, A, ρ, S, re, post_mono (post_xr0 (post_bind.mp h)) (fun j A1 h1 φ1 H1 J l1 S1 jr => ?_) fun _ _ z => z⟩
    obtain ⟨d1, n1⟩ := l1.off hD nD
    exact emGo.read jr S1 (re.mono l1) d1 n1 (ra.mono l1) (post_mono h1 (fun p A2 h2 φ2 H2 σ2 zs l2 n2 S2 re2 d2 r2 => h2 φ2 H2 σ2 zs (l1.toD.trans l2) n2 S2 re2 d2 r2) fun _ _ z => z)
/-- an expression whose value is a new list that nothing else names -/
noncomputable def tF (K : PySem.W.Frag) (xr : XR) (mq : Eq') : TE := fun σ H Q => ∃ φ A ρ, Sim K φ A H ∧ RE K φ H ρ σ ∧ (mq ρ A).post (fun ws A1 => ∀ φ1 H1 D ys, Le K φ H φ1 H1 → Sim K φ1 A1 H1 → H D = none → H1 D = some (.lst ys) → (∀ k : Nat, φ1[k]? ≠ some D) → RVs K φ1 H1 ws ys → Q (.ref D) H1) (EB K φ H xr)
noncomputable def SF (X : Cx) (xr : XR) (e : Expr) (mq : Eq') : Prop := PE X e (tF X.K xr mq)
theorem cItems.read {mi : Ei} {tw : Tg} {mf : Ev} {em : Em} {nl : Nat} {cap : List Nat} : ∀ σ H Q, tF X.K xr (cItems nl cap mi tw mf em) σ H Q → tComp X.K (tI X.K xr mi) (tG X.K tw) (tT X.K xr0 mf) (tE X.K em) nl cap σ H Q := by
  rintro σ H Q ⟨φ, A, ρ, S, re, h⟩
  refine ⟨φ, A, ρ, S, re, post_mono (post_bind.mp h) (fun j A1 h1 φ1 H1 J l1 S1 jr D hD hK => ?_) fun _ _ z => z⟩
  have ln : Le X.K φ1 H1 φ1 (upd H1 D (.lst [])) := Le.new hD
  have h1' := post_bind.mp h1
  refine emGo.read (jr.mono ⟨ln.ex, ln.tp, ln.fz⟩) (S1.lay hD) ((re.mono (l1.trans ln)).ncap) upd_same (S1.notin hD hK) .nil ?_ (f := j.len) (acc := [])
  cases er : emGo j tw mf em j.len 0 (ncapE nl cap ρ) [] A1 with
  | ok p A2 =>
    rw [er] at h1'
    intro φ2 H2 σ2 zs l2 n2 S2 re2 d2 r2
    have l02 := l1.trans (Le.ofD hD l2)
    exact h1' φ2 H2 D zs l02 S2 (l1.st D hD) d2 n2 r2
  | exc x A2 => rw [er] at h1'; exact h1'.elim
  | bad => rw [er] at h1'; exact h1'.elim
theorem sf_comp {elt tg iter : Expr} {ifs : List Expr} {gs : List Comprehension} {sc : Scope} {mi : Ei} {tw : Tg} {mf : Ev} {em : Em} {N : List Str} (nl : Nat) (cap : List Nat) (hc : X.calm = true) (S : CpScope X sc) (hcap : capOk X.N N sc nl cap = true) (hw : SI X xr tg iter mi)
    (hin : ∀ s H fp, SG (cpCx X N sc s H fp noxe) tg tw ∧ STs (cpCx X N sc s H fp noxe) ifs mf ∧ SM (cpCx X N sc s H fp noxe) elt (⟨tg, iter, ifs, 0⟩ :: gs) sc pos 0 em)
    (ha : ∀ g', gs[0]? = some g' → g'.is_async = 0 := by intro _ h; cases h <;> rfl)
    (hs : ∀ x, foldedSetIterable iter X.env x = pure x := by intro _; rfl) : SF X xr (.ListComp elt (⟨tg, iter, ifs, 0⟩ :: gs) sc pos) (cItems nl cap mi tw mf em) :=
  PE.imp (pe_comp (g := tG X.K tw) (ti := tT X.K xr0 mf) (tm := tE X.K em) hc S hcap ha hw hin hs) cItems.read
/-- a new list as a value -/
noncomputable def mList (q : Eq') : Ev := fun ρ A => (q ρ A).bind fun ws A1 => .ok (.ref A1.length) (A1 ++ [.lst ws])
theorem mList.read {q : Eq'} {K : PySem.W.Frag} : ∀ σ H Q, tM K xr (mList q) σ H Q → tF K xr q σ H Q := by
  rintro σ H Q ⟨φ, A, ρ, S, re, h⟩
  refine ⟨φ, A, ρ, S, re, post_mono (post_bind.mp h) (fun ws A1 h1 φ1 H1 D ys l1 S1 h0 hD nD r => ?_) fun _ _ z => z⟩
  have ll : Le K φ H (φ1 ++ [D]) H1 := l1.track h0
  have lw : LeW K φ1 H1 (φ1 ++ [D]) H1 := ⟨fun n a h => by
    have := (List.getElem?_eq_some_iff.mp h).1
    rw [List.getElem?_append_left this]; exact h, fun _ _ h => h, fun _ _ _ h => h⟩
  refine h1 _ _ _ ll (S1.track (o := .lst ws) hD nD ⟨ys, hD, r.monoW lw⟩) ⟨D, rfl, ?_⟩
  rw [← S1.len]; simp
theorem se_list {q : Eq'} (h : SF X xr e q) : SE X xr e (mList q) := PE.imp h mList.read
theorem ss_setComp (i : Nat) {x : Str} {elt tg iter : Expr} {ifs : List Expr} {gs : List Comprehension} {sc : Scope} {mi : Ei} {tw : Tg} {mf : Ev} {em : Em} {N : List Str} {px spos : Pos} (nl : Nat) (cap : List Nat) (hN : X.N.Nodup)
    (hc : X.calm = true) (S : CpScope X sc) (hcap : capOk X.N N sc nl cap = true) (hw : SI X xr tg iter mi)
    (hin : ∀ s H fp, SG (cpCx X N sc s H fp noxe) tg tw ∧ STs (cpCx X N sc s H fp noxe) ifs mf ∧ SM (cpCx X N sc s H fp noxe) elt (⟨tg, iter, ifs, 0⟩ :: gs) sc pos 0 em)
    (hi' : X.N[i]? = some x := by rfl) (hx : X.env.scope.names.lookup x = some .local := by rfl)
    (hsw : swapsWith (.ListComp elt (⟨tg, iter, ifs, 0⟩ :: gs) sc pos) (some (.Name x px)) spos.line X.env = pure true := by rfl)
    (ha : ∀ g', gs[0]? = some g' → g'.is_async = 0 := by intro _ h; cases h <;> rfl)
    (hs : ∀ x, foldedSetIterable iter X.env x = pure x := by intro _; rfl) : SS X xr (.Assign [.Name x px] (.ListComp elt (⟨tg, iter, ifs, 0⟩ :: gs) sc pos) spos) (xSet i (mList (cItems nl cap mi tw mf em))) :=
  PS.imp (L2.ps_setComp (g := tG X.K tw) (ti := tT X.K xr0 mf) (tm := tE X.K em) hN hi' hx hsw hc S hcap ha hw hin hs) fun D σ H h => cItems.read σ H _ (mList.read σ H _ (xSet.read D σ H h))

/-! ### sequences that are read at once -/
noncomputable def tQ (K : PySem.W.Frag) (xr : XR) (mq : Eq') : TE := fun σ H Q => ∃ φ A ρ, Sim K φ A H ∧ RE K φ H ρ σ ∧ (mq ρ A).post (fun ws A1 => ∀ φ1 H1 a ys, Le K φ H φ1 H1 → Sim K φ1 A1 H1 → (SqL K H1 a ys ∨ SqT K H1 a ys) → RVs K φ1 H1 ws ys → Q (.ref a) H1) (EB K φ H xr)
noncomputable def SQ (X : Cx) (xr : XR) (e : Expr) (mq : Eq') : Prop := PE X e (tQ X.K xr mq)
theorem sq_F {q : Eq'} (h : SF X xr e q) : SQ X xr e q := PE.imp h fun σ H Q ⟨φ, A, ρ, S, re, h⟩ =>
  ⟨φ, A, ρ, S, re, post_mono h (fun ws A1 h1 φ1 H1 D ys l1 S1 h0 hD nD r => h1 φ1 H1 D ys l1 S1 (.inl (SqL.of hD)) r) fun _ _ z => z⟩
noncomputable def seqOf (w : W) (A : Hx) : Option (List W) := match w with
  | .tup ws => some ws
  | .ref n => match A[n]? with
    | some (.lst ws) => some ws
    | some (.ro ws) => some ws
    | _ => none
  | _ => none
theorem seqOf_read {K : PySem.W.Frag} {φ : List Addr} {A : Hx} {H : Hp} {w : W} {ws : List W} {v : V} (S : Sim K φ A H) (q : RV K φ H w v) (e : seqOf w A = some ws) : ∃ a ys, v = .ref a ∧ (SqL K H a ys ∨ SqT K H a ys) ∧ RVs K φ H ws ys := by
  unfold seqOf at e
  cases w with
  | tup xs => cases e; obtain ⟨a, ys, e1, e2, e3⟩ := q; exact ⟨a, ys, e1, .inr e2, e3⟩
  | ref n =>
    obtain ⟨a, e1, e2⟩ := q
    dsimp only at e
    cases ea : A[n]? with
    | none => rw [ea] at e; cases e
    | some o =>
      rw [ea] at e
      obtain ⟨a', e3, r⟩ := S.ob n o ea
      rw [e2] at e3; cases e3
      cases o with
      | lst xs => cases e; obtain ⟨ys, h1, h2⟩ := r; exact ⟨a, ys, e1, .inl (SqL.of h1), h2⟩
      | ro xs => cases e; obtain ⟨ys, h1, h2⟩ := r; exact ⟨a, ys, e1, .inl h1.sq, h2⟩
      | dct xs => cases e
  | non => cases e
  | bl _ => cases e
  | int _ => cases e
  | str _ => cases e
noncomputable def mSeq (m : Ev) : Eq' := fun ρ A => (m ρ A).bind fun w A1 => match seqOf w A1 with
  | some ws => .ok ws A1
  | none => .bad
theorem sq_E (h : SE X xr e m) : SQ X xr e (mSeq m) := PE.imp h fun σ H Q ⟨φ, A, ρ, S, re, h⟩ => by
  refine tM.go S re (post_bind.mp h) fun w A1 φ1 H1 v h1 l1 S1 q1 => ?_
  cases e : seqOf w A1 with
  | none => rw [e] at h1; exact h1.elim
  | some ws =>
    rw [e] at h1
    obtain ⟨a, ys, rfl, e2, e3⟩ := seqOf_read S1 q1 e
    exact h1 φ1 H1 a ys l1 S1 e2 e3
/-- what a loop walks: a tuple, or a list as it stands at each turn -/
noncomputable def itOf (w : W) (A : Hx) : Option Itx := match seqOf w A with
  | some ws => some ⟨fun A i => (seqOf w A).map fun ws => ws[i]?, ws.length⟩
  | none => none
noncomputable def mIt (m : Ev) : Ei := fun ρ A => (m ρ A).bind fun w A1 => match itOf w A1 with
  | some j => .ok j A1
  | none => .bad
noncomputable def iSeq (K : PySem.W.Frag) (tl : TE) : TI := fun σ H Rr => tl σ H fun x H1 => ∃ a, x = .ref a ∧ (((∃ xs, SqL K H1 a xs) ∧ Rr (Itl K a) H1) ∨ ((∃ xs, SqT K H1 a xs) ∧ Rr (Itt K a) H1))
theorem pi_seq {tg l : Expr} {tl : TE} (hl : PE X l tl) : PI X tg l (iSeq X.K tl) := by
  intro pins s σ H Rr I h
  refine thn (hl pins s σ H _ I h) fun v s1 ⟨x, H1, I1, r1, q1⟩ => ?_
  obtain ⟨a, e, q⟩ := q1
  subst e
  cases r1
  have fpo : ∀ b ∈ [s1.heap.objs.size], FpOk X pins H1 b := fun b hb => by
    have e : b = s1.heap.objs.size := by simpa using hb
    subst e
    exact I1.fpOk (Nat.le_refl _) (I1.hok.fresh (Nat.le_refl _))
  rcases q with ⟨⟨xs, hq⟩, q⟩ | ⟨⟨xs, hq⟩, q⟩
  · obtain ⟨its, rv, p, hz⟩ := I1.list hq
    refine wpAny_pyIter_list p.isList ?_
    exact ⟨s1.heap.objs.size, [s1.heap.objs.size], _, _, H1, rfl, I1.kept (t' := s1.toks) fun b o e => Heap.get?_push_of_some _ e, turn_list a _, ⟨_, Heap.get?_push_size _ rfl, rfl, rfl⟩, fpo, q⟩
  · obtain ⟨its, rv, p, hz⟩ := I1.tuple hq
    refine wpAny_pyIter_tuple (show s1.heap.IsTuple a its.toArray from p) ?_
    exact ⟨s1.heap.objs.size, [s1.heap.objs.size], _, _, H1, rfl, I1.kept (t' := s1.toks) fun b o e => Heap.get?_push_of_some _ e, turn_tuple a _, ⟨_, Heap.get?_push_size _ rfl, rfl, rfl⟩, fpo, q⟩
theorem si_E {tg : Expr} (h : SE X xr e m) : SI X xr tg e (mIt m) := PI.imp (pi_seq h) fun σ H Rr ⟨φ, A, ρ, S, re, h⟩ => by
  refine tM.go S re (post_bind.mp h) fun w A1 φ1 H1 v h1 l1 S1 q1 => ?_
  unfold itOf at h1
  cases e : seqOf w A1 with
  | none => rw [e] at h1; exact h1.elim
  | some ws =>
    rw [e] at h1
    dsimp only at h1
    cases w with
    | tup us =>
      obtain ⟨a, ys, rfl, e2, e3⟩ := q1
      refine ⟨a, rfl, .inr ⟨⟨ys, e2⟩, h1 φ1 H1 _ l1 S1 fun i φ' H' A' lw S' => ⟨fun w' ew => ?_, fun ew => ?_⟩⟩⟩
      · have ew' : us[i]? = some w' := Option.some.inj ew
        obtain ⟨y, h3, h4⟩ := (e3.monoW lw).get ew'
        refine ⟨⟨ys, y, lw.tp _ _ e2, h3⟩, fun x H3 yl => ?_⟩
        obtain ⟨e5, e6⟩ := yl
        subst e5
        have e7 := e6 ys (lw.tp _ _ e2)
        rw [h3] at e7; cases e7
        exact ⟨.refl, S', h4⟩
      · have ew' : us[i]? = none := Option.some.inj ew
        refine ⟨ys, lw.tp _ _ e2, ?_⟩
        rw [← e3.length]
        exact List.getElem?_eq_none_iff.mp ew'
    | ref n =>
      obtain ⟨a, rfl, e2⟩ := q1
      have read : ∀ {φ' H' A' us}, LeW X.K φ1 H1 φ' H' → Sim X.K φ' A' H' → seqOf (.ref n) A' = some us → ∃ ys, SqL X.K H' a ys ∧ RVs X.K φ' H' us ys := fun {φ' H' A' us} lw S' es => by
        obtain ⟨a', ys, ea, z, r⟩ := seqOf_read (w := .ref n) (v := .ref a) S' ⟨a, rfl, lw.ex _ _ e2⟩ es
        cases ea
        unfold seqOf at es
        dsimp only at es
        cases ec : A'[n]? with
        | none => rw [ec] at es; cases es
        | some o =>
          rw [ec] at es
          obtain ⟨a', e3, r⟩ := S'.ob n o ec
          rw [lw.ex _ _ e2] at e3; cases e3
          cases o with
          | lst xs => cases es; obtain ⟨ys, h1, h2⟩ := r; exact ⟨ys, SqL.of h1, h2⟩
          | ro xs => cases es; obtain ⟨ys, h1, h2⟩ := r; exact ⟨ys, h1.sq, h2⟩
          | dct xs => cases es
      obtain ⟨ys0, hq0, _⟩ := read ⟨fun _ _ h => h, fun _ _ h => h, fun _ _ _ h => h⟩ S1 e
      refine ⟨a, rfl, .inl ⟨⟨ys0, hq0⟩, h1 φ1 H1 _ l1 S1 fun i φ' H' A' lw S' => ⟨fun w' ew => ?_, fun ew => ?_⟩⟩⟩
      · dsimp only at ew
        cases es : seqOf (.ref n) A' with
        | none => rw [es] at ew; cases ew
        | some us =>
          rw [es] at ew
          have ew' : us[i]? = some w' := Option.some.inj ew
          obtain ⟨ys, hq, r⟩ := read lw S' es
          obtain ⟨y, h3, h4⟩ := r.get ew'
          refine ⟨⟨ys, y, hq, h3⟩, fun x H3 yl => ?_⟩
          obtain ⟨e5, e6⟩ := yl
          subst e5
          have e7 := e6 ys hq
          rw [h3] at e7; cases e7
          exact ⟨.refl, S', h4⟩
      · dsimp only at ew
        cases es : seqOf (.ref n) A' with
        | none => rw [es] at ew; cases ew
        | some us =>
          rw [es] at ew
          have ew' : us[i]? = none := Option.some.inj ew
          obtain ⟨ys, hq, r⟩ := read lw S' es
          refine ⟨ys, hq, ?_⟩
          rw [← r.length]
          exact List.getElem?_eq_none_iff.mp ew'
    | non => cases e
    | bl _ => cases e
    | int _ => cases e
    | str _ => cases e
/-- range(n), range(a, b) -/
noncomputable def rngIt (lo : Int) (n : Nat) : Itx := ⟨fun _ i => if i < n then some (some (.int (lo + i))) else some none, n⟩
theorem rng_ok {K : PySem.W.Frag} {φ : List Addr} {H : Hp} {lo : Int} {n : Nat} : ItR K φ H (rngIt lo n) (Itr lo n) := fun i φ' H' A' lw S' => by
  unfold rngIt
  dsimp only
  by_cases hi : i < n
  · rw [if_pos hi]
    refine ⟨fun w e => ?_, fun e => by cases e⟩
    cases e
    exact ⟨hi, fun x H1 ⟨e1, e2⟩ => by subst e1; exact ⟨.refl, S', e2⟩⟩
  · rw [if_neg hi]
    exact ⟨fun w e => (by cases e), fun _ => Nat.le_of_not_lt hi⟩
noncomputable def small62 (i : Int) : Bool := decide (-(2 ^ 62) ≤ i) && decide (i < 2 ^ 62)
theorem small62_of {i : Int} (h : small62 i = true) : -(2 ^ 62) ≤ i ∧ i < 2 ^ 62 := by
  unfold small62 at h
  rw [Bool.and_eq_true, decide_eq_true_iff, decide_eq_true_iff] at h
  exact h
noncomputable def mRng1 (m : Ev) : Ei := fun ρ A => (m ρ A).bind fun w A1 => match w with
  | .int j => if small62 j then .ok (rngIt 0 j.toNat) A1 else .bad
  | _ => .bad
noncomputable def mRng2 (m m' : Ev) : Ei := fun ρ A => (m ρ A).bind fun w A1 => (m' ρ A1).bind fun w' A2 => match w, w' with
  | .int i, .int j => if small62 i && small62 j then .ok (rngIt i (j - i).toNat) A2 else .bad
  | _, _ => .bad
theorem si_rng1 {tg : Expr} {p : Pos} (hg : Gl X "range") (hm : X.mg "range" = none) (ha : SE X xr a ma) (hs : starEach [a] X.env = [(false, eval a X.env)] := by rfl) : SI X xr tg (.Call (.Name "range" p) [a] [] pos) (mRng1 ma) :=
  PI.imp (pi_range1 hg hm (pa_cons ha pa_nil (by rw [hs]; rfl)) hs) fun σ H Rr ⟨φ, A, ρ, S, re, h⟩ => by
    refine tM.go S re (post_bind.mp h) fun w A1 φ1 H1 v h1 l1 S1 q1 => ?_
    cases w with
    | int j =>
      obtain rfl := q1
      dsimp only at h1
      by_cases hj : small62 j = true
      · rw [if_pos hj] at h1
        obtain ⟨b1, b2⟩ := small62_of hj
        exact ⟨j, rfl, b1, b2, h1 φ1 H1 _ l1 S1 rng_ok⟩
      · rw [if_neg hj] at h1; exact h1.elim
    | non => exact h1.elim
    | bl _ => exact h1.elim
    | str _ => exact h1.elim
    | tup _ => exact h1.elim
    | ref _ => exact h1.elim
theorem si_rng2 {tg : Expr} {p : Pos} (hg : Gl X "range") (hm : X.mg "range" = none) (ha : SE X xr a ma) (hb : SE X xr b mb) (hs : starEach [a, b] X.env = [(false, eval a X.env), (false, eval b X.env)] := by rfl) (hs2 : starEach [b] X.env = [(false, eval b X.env)] := by rfl) : SI X xr tg (.Call (.Name "range" p) [a, b] [] pos) (mRng2 ma mb) :=
  PI.imp (pi_range2 hg hm (pa_cons ha (pa_cons hb pa_nil (by rw [hs2]; rfl)) (by rw [hs, hs2])) hs hs2) fun σ H Rr ⟨φ, A, ρ, S, re, h⟩ => by
    refine tM.go S re (post_bind.mp h) fun w A1 φ1 H1 v h1 l1 S1 q1 => ?_
    refine tM.go S1 (re.mono l1) (post_mono (post_bind.mp h1) (fun _ _ z => z) fun _ _ z => z.mono l1) fun w2 A2 φ2 H2 v2 h2 l2 S2 q2 => ?_
    cases w with
    | int i =>
      obtain rfl := q1
      cases w2 with
      | int j =>
        obtain rfl := q2
        dsimp only at h2
        by_cases hj : (small62 i && small62 j) = true
        · rw [if_pos hj] at h2
          rw [Bool.and_eq_true] at hj
          obtain ⟨b1, b2⟩ := small62_of hj.1
          obtain ⟨b3, b4⟩ := small62_of hj.2
          exact ⟨i, j, rfl, ⟨b1, b2, b3, b4⟩, h2 φ2 H2 _ (l1.trans l2) S2 rng_ok⟩
        · rw [if_neg hj] at h2; exact h2.elim
      | non => exact h2.elim
      | bl _ => exact h2.elim
      | str _ => exact h2.elim
      | tup _ => exact h2.elim
      | ref _ => exact h2.elim
    | non => exact h2.elim
    | bl _ => exact h2.elim
    | str _ => exact h2.elim
    | tup _ => exact h2.elim
    | ref _ => exact h2.elim
end
end Mi
namespace Mi
open PySem PySem.Spec PyProof.Rows L2

/-! ### calls of the text's own defs -/
noncomputable abbrev Fn := List W → Hx → R W
noncomputable def ClsOf (K : PySem.W.Frag) (x : Str) (C : Value) : Prop := PySem.W.nsIn K mainGlobals x = some (some C)
noncomputable def XE (K : PySem.W.Frag) (E : XK) (x : Str) (H : Hp) : Prop := ∀ C d, ClsOf K x C → E C d H
noncomputable def spM (K : PySem.W.Frag) (n : Nat) (f : Fn) : Sp := fun vs H Q E => vs.length = n ∧ ∃ φ A ws, Sim K φ A H ∧ RVs K φ H ws vs ∧ (f ws A).post (PB K φ H Q) (EB K φ H (XE K E))
structure FnM (P : Program) (w : World) (K : PySem.W.Frag) (mg : Str → Option Value) (base : Heap) (k : Nat) (x : Str) (n : Nat) (f : Fn) : Prop where
  ex : ∃ (fa : Addr) (fd : FuncData) (ps : List Str), FnOk P w K mg base CX0 k fa fd ps (spM K n f) ∧ mg x = some (.ref fa) ∧ PySem.W.keepIn K (.ref fa) = true ∧ Binds K fd ps []
noncomputable def mCall (f : Fn) (a : Ea) : Ev := fun ρ A => (a ρ A).bind fun ws A1 => f ws A1
section
variable {X : Cx} {xr : XR} {e a b c : Expr} {es : List Expr} {m ma mb mc : Ev} {m1 m2 : Ex} {pos : Pos}
/-- so many arguments -/
noncomputable def ALen (m : Ea) (n : Nat) : Prop := ∀ ρ A ws A', m ρ A = .ok ws A' → ws.length = n
theorem al_nil : ALen aNil 0 := fun _ _ _ _ h => by unfold aNil at h; cases h; rfl
theorem al_cons {mr : Ea} {n : Nat} (h : ALen mr n) : ALen (aCons ma mr) (n + 1) := fun ρ A ws A' e => by
  unfold aCons at e
  cases h1 : ma ρ A with
  | ok x A1 =>
    rw [h1, bind_ok] at e
    cases h2 : mr ρ A1 with
    | ok xs A2 => rw [h2, bind_ok] at e; cases e; simp [h ρ A1 xs _ h2]
    | exc x A2 => rw [h2] at e; cases e
    | bad => rw [h2] at e; cases e
  | exc x A1 => rw [h1] at e; cases e
  | bad => rw [h1] at e; cases e
theorem se_call {k n : Nat} {x : Str} {p : Pos} {f : Fn} {mr : Ea} (F : FnM X.prog X.w X.K X.mg X.base k x n f) (hr : Room k X.A) (ha : SA X xr0 (e :: es) mr) (hl : ALen mr n) (hg : Gl X x := by rfl)
    (hdb : (x == ("__debug__" : Str)) = false := by decide) (he : starEach (e :: es) X.env = (false, eval e X.env) :: starEach es X.env := by rfl) (hpl : (backTo pos (starEach es X.env)).any (·.1) = false := by rfl) :
    SE X xr0 (.Call (.Name x p) (e :: es) [] pos) (mCall f mr) := by
  obtain ⟨fa, fd, ps, F, hm, hk, hb⟩ := F.ex
  refine PE.imp (pe_call F hr hg hm hk hb .nil pass0 ha hdb he hpl) fun σ H Q ⟨φ, A, ρ, S, re, h⟩ => ?_
  have h' := post_bind.mp h
  refine ⟨φ, A, ρ, S, re, ?_⟩
  cases er : mr ρ A with
  | ok ws A1 =>
    rw [er] at h'
    intro φ1 H1 vs l1 S1 q1
    have hv : vs.length = n := by rw [← q1.length]; exact hl ρ A ws A1 er
    rw [List.append_nil]
    exact ⟨hv, φ1, A1, ws, S1, q1, post_mono h' (fun _ _ z => z.mono l1) fun x A2 z φ2 H2 l2 S2 => (z φ2 H2 (l1.trans l2) S2).elim⟩
  | exc x A1 => rw [er] at h'; exact h'
  | bad => rw [er] at h'; exact h'
end
/-- a def's body, run -/
noncomputable def runB (n : Nat) (m : Ex) : Fn := fun ws A => (m (ws.map some ++ List.replicate (n - ws.length) none) A).nox.bind fun fl A1 => match fl with
  | .rt w => .ok w A1
  | .nx _ => .ok .non A1
  | _ => .bad
theorem RE.start {K : PySem.W.Frag} {φ : List Addr} {H : Hp} {N : List Str} {ws : List W} {vs : List V} (h : RVs K φ H ws vs) : RE K φ H (ws.map some ++ List.replicate (N.length - ws.length) none) (L2.start N vs) := by
  unfold L2.start
  refine ⟨by simp [h.length], fun i w e => ?_⟩
  by_cases hi : i < ws.length
  · rw [List.getElem?_append_left (by simpa using hi), List.getElem?_map] at e
    cases hw : ws[i]? with
    | none => rw [hw] at e; cases e
    | some w' =>
      rw [hw] at e; cases e
      obtain ⟨v, h1, h2⟩ := h.get hw
      refine ⟨v, ?_, h2⟩
      rw [List.getElem?_append_left (by rw [List.length_map, ← h.length]; exact hi), List.getElem?_map, h1]; rfl
  · rw [List.getElem?_append_right (by simpa using hi), List.getElem?_replicate] at e
    split at e <;> cases e
section
variable {P : Program} {w : World} {K : PySem.W.Frag} {mg : Str → Option Value} {base : Heap}
/-- THE RULE for a def -/
theorem fnM {x : Str} {st : Stmt} {f : Addr} {fd : FuncData} {N ps : List Str} {k : Nat} {m : Ex} (F : Fun K x x st f fd) (hm : mg x = some (.ref f)) (S : FnScope N ps (defScope st))
    (hb : ∀ (kV doc pm : Value) (an : Option Addr) (cdv ct : Value) (us : List Value), us.length = ps.length → bindArgs (PySem.W.fnOf x x (defArgs st) (defBody st) (defScope st) .none kV doc pm an cdv ct) ⟨us, []⟩ = pure (ps.zip us))
    (hbody : ∀ (cdv : Value) (A : Around) (outer : List Env) (s : Shared) (H : Hp) (E : XK), Room k (A.deeper (envOfC x (defScope st) s.heap.objs.size f cdv)) → SSs (cxOf CX0 P w K mg base N x (defScope st) f cdv A outer s H E).nox xr0 (defBody st) m) :
    FnM P w K mg base (k + 1) x ps.length (runB N.length m) := by
  refine ⟨f, fd, ps, ?_, hm, F.kp, F.binds hb⟩
  refine F.ok S (fun vs H Q E h => h.1) fun cdv A outer s H vs Q E hr ⟨hl, φ, A1, ws, Sm, r, h⟩ => ⟨_, hbody cdv A outer s H E hr, ?_⟩
  refine ⟨φ, A1, ws.map some ++ List.replicate (N.length - ws.length) none, Sm, RE.start r, ?_⟩
  have h' := post_bind.mp h
  show R.post _ (FB K φ H _) _
  cases er : m (ws.map some ++ List.replicate (N.length - ws.length) none) A1 with
  | ok fl A2 =>
    rw [er] at h'
    cases fl with
    | rt w => exact h'
    | nx ρ => exact fun φ' H' σ' l S' _ => h' φ' H' .non l S' rfl
    | bk ρ => exact h'.elim
    | ct ρ => exact h'.elim
  | exc y A2 =>
    rw [er] at h'
    exact h'.elim
  | bad => rw [er] at h'; exact h'.elim
theorem FnM.mono {j k n : Nat} {x : Str} {f : Fn} (F : FnM P w K mg base j x n f) (h : j ≤ k) : FnM P w K mg base k x n f := let ⟨fa, fd, ps, F, a, b, c⟩ := F.ex; ⟨fa, fd, ps, F.mono h, a, b, c⟩
/-- a function of one's own that says no more than the def does -/
theorem FnM.imp {k n : Nat} {x : Str} {f g : Fn} (F : FnM P w K mg base k x n f) (h : ∀ ws A, ws.length = n → g ws A = .bad ∨ f ws A = g ws A) : FnM P w K mg base k x n g := by
  obtain ⟨fa, fd, ps, F, a, b, c⟩ := F.ex
  refine ⟨fa, fd, ps, F.imp fun vs H Q E ⟨hl, φ, A, ws, S, r, q⟩ => ⟨hl, φ, A, ws, S, r, ?_⟩, a, b, c⟩
  rcases h ws A (by rw [r.length]; exact hl) with e | e
  · rw [e] at q; exact q.elim
  · rw [e]; exact q
end

/-! ### operations on values -/
section
variable {X : Cx} {K : PySem.W.Frag}
theorem ne_ok {α : Type} {a : α} {A : Hx} : NoExc (R.ok a A) := fun _ _ h => by cases h
theorem ne_bad {α : Type} : NoExc (R.bad : R α) := fun _ _ h => by cases h
theorem ne_ite {α : Type} {c : Prop} [Decidable c] {a b : R α} (h1 : NoExc a) (h2 : NoExc b) : NoExc (if c then a else b) := by split <;> assumption
/-- two ints -/
noncomputable def gII (f : Int → Int → W) : W → W → Hx → R W
  | .int i, .int j, A => .ok (f i j) A
  | _, _, _ => .bad
theorem ne_II {f : Int → Int → W} : ∀ x y A, NoExc (gII f x y A) := fun x y A => by
  unfold gII; split
  · exact ne_ok
  · exact ne_bad
noncomputable def gIC (c : Int → Int → Bool) (f : Int → Int → W) : W → W → Hx → R W
  | .int i, .int j, A => if c i j then .ok (f i j) A else .bad
  | _, _, _ => .bad
theorem ne_IC {c : Int → Int → Bool} {f : Int → Int → W} : ∀ x y A, NoExc (gIC c f x y A) := fun x y A => by
  unfold gIC; split
  · exact ne_ite ne_ok ne_bad
  · exact ne_bad
theorem op2_II {f : Int → Int → W} {g : Int → Int → V} (h : ∀ i j φ H, RV K φ H (f i j) (g i j)) : Op2 K (rI0 g) (gII f) := fun φ A H x y u v Q S q1 q2 p => by
  cases u with
  | int i => cases v with
    | int j => obtain rfl := q1; obtain rfl := q2; exact ⟨i, j, rfl, rfl, p φ H _ .refl S (h i j φ H)⟩
    | _ => exact p.elim
  | _ => exact p.elim
theorem op2_IC {c : Int → Int → Bool} {C : Int → Int → Prop} {f : Int → Int → W} {g : Int → Int → V} (hc : ∀ i j, c i j = true → C i j) (h : ∀ i j φ H, RV K φ H (f i j) (g i j)) : Op2 K (rI C g) (gIC c f) := fun φ A H x y u v Q S q1 q2 p => by
  cases u with
  | int i => cases v with
    | int j =>
      obtain rfl := q1; obtain rfl := q2
      unfold gIC at p
      dsimp only at p
      by_cases hh : c i j = true
      · rw [if_pos hh] at p; exact ⟨i, j, rfl, rfl, hc i j hh, p φ H _ .refl S (h i j φ H)⟩
      · rw [if_neg hh] at p; exact p.elim
    | _ => exact p.elim
  | _ => exact p.elim
noncomputable def cMul (i j : Int) : Bool := (decide (-(2 ^ 64) < i) && decide (i < 2 ^ 64)) || (decide (-(2 ^ 64) < j) && decide (j < 2 ^ 64))
noncomputable def cDiv (_ j : Int) : Bool := decide (0 < j) && decide (j < 1073741824)
noncomputable def cMod (_ j : Int) : Bool := decide (0 < j)
theorem cMul_of (i j : Int) (h : cMul i j = true) : CMul i j := by
  unfold cMul at h
  simp only [Bool.or_eq_true, Bool.and_eq_true, decide_eq_true_eq] at h
  exact h
theorem cDiv_of (i j : Int) (h : cDiv i j = true) : CDiv i j := by
  unfold cDiv at h
  simp only [Bool.and_eq_true, decide_eq_true_eq] at h
  exact h
theorem cMod_of (i j : Int) (h : cMod i j = true) : (fun _ j => 0 < j) i j := by
  unfold cMod at h
  simpa using h
noncomputable def gSub := gII fun i j => .int (i - j)
noncomputable def gMulI := gIC cMul fun i j => .int (i * j)
noncomputable def gDiv := gIC cDiv fun i j => .int (i / j)
noncomputable def gModI := gIC cMod fun i j => .int (i % j)
noncomputable def gXor := gII fun i j => .int (Builtin.bitXor i j)
noncomputable def gLt := gII fun i j => .bl (decide (i < j))
noncomputable def gLe := gII fun i j => .bl (decide (i ≤ j))
noncomputable def gGt := gII fun i j => .bl (decide (j < i))
noncomputable def gGe := gII fun i j => .bl (decide (j ≤ i))
noncomputable def cPow (i j : Int) : Bool := decide (0 ≤ j) && decide (j ≤ 1000000) && decide (i.natAbs < 2 ^ 64)
noncomputable def gPow := gIC cPow fun i j => .int (i ^ j.toNat)
variable {xr : XR} {a b c : Expr} {ma mb mc : Ev} {pos : Pos}
theorem se_sub (ha : SE X xr a ma) (hb : SE X xr b mb) : SE X xr (.BinOp a .Sub b pos) (mBin gSub ma mb) := se_bin op_sub ne_II (op2_II fun _ _ _ _ => rfl) ha hb
theorem se_div (ha : SE X xr a ma) (hb : SE X xr b mb) : SE X xr (.BinOp a .FloorDiv b pos) (mBin gDiv ma mb) := se_bin op_fdiv ne_IC (op2_IC cDiv_of fun _ _ _ _ => rfl) ha hb
theorem se_mod (ha : SE X xr a ma) (hb : SE X xr b mb) : SE X xr (.BinOp a .Mod b pos) (mBin gModI ma mb) := se_bin op_mod ne_IC (op2_IC cMod_of fun _ _ _ _ => rfl) ha hb
noncomputable def gNeg : W → Hx → R W
  | .int i, A => .ok (.int (-i)) A
  | _, _ => .bad
theorem se_neg (ha : SE X xr a ma) : SE X xr (.UnaryOp .USub a pos) (mUn gNeg ma) := se_un un_neg (fun x A => by unfold gNeg; split; exact ne_ok; exact ne_bad) (fun φ A H x u Q S q p => by
  cases u with
  | int i => obtain rfl := q; exact ⟨i, rfl, p φ H _ .refl S rfl⟩
  | _ => exact p.elim) ha
/-- what == and != say of plain values -/
noncomputable def eqS : W → W → Option Bool
  | .non, .non => some true
  | .non, .int _ => some false | .int _, .non => some false | .non, .bl _ => some false | .bl _, .non => some false | .non, .str _ => some false | .str _, .non => some false
  | .int i, .int j => some (decide (i = j)) | .bl i, .bl j => some (decide (i = j)) | .str i, .str j => some (decide (i = j))
  | .int _, .str _ => some false | .str _, .int _ => some false | .bl _, .str _ => some false | .str _, .bl _ => some false
  | _, _ => none
noncomputable def gEqS (neg : Bool) : W → W → Hx → R W := fun x y A => match eqS x y with
  | some k => .ok (.bl (if neg then !k else k)) A
  | none => .bad
/-- the comparisons: rule, no refusal, reading -/
structure CmpOk (X : Cx) (op : CmpOp) (g : W → W → Hx → R W) : Prop where
  ex : ∃ r : R2, OpR X (compareOp op) r ∧ (∀ x y A, NoExc (g x y A)) ∧ Op2 X.K r g
  mks : ∀ b, op ≠ .In → op ≠ .NotIn → behindInMarks op b = false
theorem cmp_of {op : CmpOp} {r : R2} {g : W → W → Hx → R W} (h1 : OpR X (compareOp op) r) (h2 : ∀ x y A, NoExc (g x y A)) (h3 : Op2 X.K r g) : CmpOk X op g := ⟨⟨r, h1, h2, h3⟩, fun b a1 a2 => nobehind b a1 a2⟩
theorem c_lt : CmpOk X .Lt gLt := cmp_of op_lt ne_II (op2_II fun _ _ _ _ => rfl)
theorem c_le : CmpOk X .LtE gLe := cmp_of op_le ne_II (op2_II fun _ _ _ _ => rfl)
theorem c_gt : CmpOk X .Gt gGt := cmp_of op_gt ne_II (op2_II fun _ _ _ _ => rfl)
theorem c_ge : CmpOk X .GtE gGe := cmp_of op_ge ne_II (op2_II fun _ _ _ _ => rfl)
theorem se_c {op : CmpOp} {g : W → W → Hx → R W} (h : CmpOk X op g) (ha : SE X xr a ma) (hb : SE X xr b mb) (h1 : op ≠ .In := by decide) (h2 : op ≠ .NotIn := by decide) : SE X xr (.Compare a [op] [b] pos) (mBin g ma mb) :=
  let ⟨r, a1, a2, a3⟩ := h.ex; se_cmp a1 a2 a3 ha hb (h.mks b h1 h2)
theorem st_c {op : CmpOp} {g : W → W → Hx → R W} (h : CmpOk X op g) (ha : SE X xr a ma) (hb : SE X xr b mb) (h1 : op ≠ .In := by decide) (h2 : op ≠ .NotIn := by decide) : ST X xr (.Compare a [op] [b] pos) (mBin g ma mb) :=
  let ⟨r, a1, a2, a3⟩ := h.ex; st_cmp a1 a2 a3 ha hb (h.mks b h1 h2)
theorem se_c2 {op op' : CmpOp} {g g' : W → W → Hx → R W} (h : CmpOk X op g) (h' : CmpOk X op' g') (ha : SE X xr a ma) (hb : SE X xr b mb) (hc : SE X xr c mc) (hm : lastMarks [op, op'] [b, c] = false := by with_unfolding_all rfl) :
    SE X xr (.Compare a [op, op'] [b, c] pos) (mChain g g' ma mb mc) := let ⟨r, a1, a2, a3⟩ := h.ex; let ⟨r', b1, b2, b3⟩ := h'.ex; se_chain a1 a2 a3 b1 b2 b3 ha hb hc hm
theorem st_c2 {op op' : CmpOp} {g g' : W → W → Hx → R W} (h : CmpOk X op g) (h' : CmpOk X op' g') (ha : SE X xr a ma) (hb : SE X xr b mb) (hc : SE X xr c mc) (hm : lastMarks [op, op'] [b, c] = false := by with_unfolding_all rfl) :
    ST X xr (.Compare a [op, op'] [b, c] pos) (mChain g g' ma mb mc) := let ⟨r, a1, a2, a3⟩ := h.ex; let ⟨r', b1, b2, b3⟩ := h'.ex; st_chain a1 a2 a3 b1 b2 b3 ha hb hc hm
end
end Mi
namespace Mi
open PySem PySem.Spec PyProof.Rows L2

/-! ### isinstance -/
inductive Ty where
  | non | bl | int | str | tup | lst | dct
  deriving DecidableEq
noncomputable def Ty.nm : Ty → String
  | .non => "NoneType" | .bl => "bool" | .int => "int" | .str => "str" | .tup => "tuple" | .lst => "list" | .dct => "dict"
noncomputable def tyW (w : W) (A : Hx) : Option Ty := match w with
  | .non => some .non
  | .bl _ => some .bl
  | .int _ => some .int
  | .str _ => some .str
  | .tup _ => some .tup
  | .ref n => match A[n]? with
    | some (.lst _) => some .lst
    | some (.dct _) => some .dct
    | _ => none
noncomputable def subT (a b : Ty) : Bool := a == b || (a == .bl && b == .int)
theorem kit_one {K : PySem.W.Frag} (a b : Ty) : PySem.W.kitOne K (.type a.nm) (.type b.nm) = some (subT a b) := by
  cases a <;> cases b <;> rfl
section
variable {X : Cx} {xr : XR} {K : PySem.W.Frag} {e a b c : Expr} {es : List Expr} {m ma mb mc : Ev} {pos : Pos}
/-- the class of a value, by what stands for it -/
noncomputable def TyR (K : PySem.W.Frag) (H : Hp) (x : V) (t : Ty) : Prop := TyOf K H x (.type t.nm) ∨ ∃ a xs, x = .ref a ∧ SqT K H a xs ∧ t = .tup
theorem tyW_read {φ : List Addr} {A : Hx} {H : Hp} {w : W} {v : V} {t : Ty} (S : Sim K φ A H) (q : RV K φ H w v) (e : tyW w A = some t) : TyR K H v t := by
  cases w with
  | non => cases e; obtain rfl := q; exact .inl .non
  | bl k => cases e; obtain rfl := q; exact .inl (.bl k)
  | int k => cases e; obtain rfl := q; exact .inl (.int k)
  | str k => cases e; obtain rfl := q; exact .inl (.str k)
  | tup ws => cases e; obtain ⟨a, vs, rfl, h, _⟩ := q; exact .inr ⟨a, vs, rfl, h, rfl⟩
  | ref n =>
    obtain ⟨a, rfl, h1⟩ := q
    unfold tyW at e
    dsimp only at e
    cases eo : A[n]? with
    | none => rw [eo] at e; cases e
    | some o =>
      rw [eo] at e
      obtain ⟨a', h2, r⟩ := S.ob n o eo
      rw [h1] at h2; cases h2
      cases o with
      | lst ws => cases e; obtain ⟨vs, z, _⟩ := r; exact .inl (.lst z)
      | dct ws => cases e; obtain ⟨vs, z, _⟩ := r; exact .inl (.dK z)
      | ro ws => cases e
theorem TyR.kit {pins : List (Addr × Obj)} {σ : St} {H : Hp} {s : Shared} {x : V} {u : Value} {t : Ty} (I : Inv X pins σ H s) (r : RelV x u) (h : TyR X.K H x t) :
    (∀ {Q : Value → Shared → Prop} {E : Value → Shared → Prop} {A : Around} {c : Ty}, (∀ tk, Q (.bool (subT t c)) { s with toks := tk }) → wpAny (model X.prog X.w) A (call (.builtin "isinstance") [u, .type c.nm]) Q E s) := by
  intro Q E A c hq
  rcases h with h | ⟨a, xs, rfl, h, rfl⟩
  · exact isinst_ok I r h (kit_one t c) hq
  · cases (show u = Value.ref a from r)
    obtain ⟨its, _, ⟨o, h1, h2, _⟩, _⟩ := I.tuple h
    exact PySem.W.kia_one PySem.W.kitx_tuple I.kIn ⟨o, h1, h2⟩ (kit_one .tup c) (fun z => nomatch z) hq
noncomputable def rIs (K : PySem.W.Frag) : List V → Hp → VK → Prop := fun xs H Q => ∃ x t c, xs = [x, .ty (Ty.nm c)] ∧ TyR K H x t ∧ Q (.bl (subT t c)) H
theorem call_is : CallR X (.builtin "isinstance") (rIs X.K) := by
  intro pins s σ H xs us Q I r h
  obtain ⟨x, t, c, rfl, ht, q⟩ := h
  obtain ⟨u, u', rfl, ru, ru'⟩ := vals2 r
  cases (show u' = Value.type c.nm from ru')
  exact ht.kit I ru fun tk => ⟨.bl (subT t c), H, I.tok tk, rfl, q⟩
noncomputable def mIs (t : Ty) (m : Ev) : Ev := fun ρ A => (m ρ A).bind fun w A1 => match tyW w A1 with
  | some t' => .ok (.bl (subT t' t)) A1
  | none => .bad
theorem se_is (t : Ty) {x : Str} {p p' : Pos} (hm : X.mg "isinstance" = none) (hm' : X.mg x = none) (hx : bootBuiltins x = some (.type t.nm)) (ha : SE X xr e m) (hg : Gl X "isinstance" := by rfl) (hg' : Gl X x := by rfl)
    (hn : x ≠ "__name__" := by decide) (hd : (x == ("__debug__" : Str)) = false := by decide)
    (h1 : starEach [e, .Name x p'] X.env = (false, eval e X.env) :: starEach [.Name x p'] X.env := by rfl) (h2 : (backTo pos (starEach [.Name x p'] X.env)).any (·.1) = false := by rfl) :
    SE X xr (.Call (.Name "isinstance" p) [e, .Name x p'] [] pos) (mIs t m) :=
  PE.imp (pe_callB call_is hg hm (by rfl) (pa_cons ha (pa_cons (pe_bltn hg' hm' hx (v := .ty t.nm) rfl hn hd) pa_nil) h1) (by decide) (by decide) h1 h2) fun σ H Q ⟨φ, A, ρ, S, re, h⟩ => by
    refine tM.go S re (post_bind.mp h) fun w A1 φ1 H1 v h1 l1 S1 q1 => ?_
    cases et : tyW w A1 with
    | none => rw [et] at h1; exact h1.elim
    | some t' =>
      rw [et] at h1
      exact ⟨v, t', t, rfl, tyW_read S1 q1 et, h1 φ1 H1 _ l1 S1 rfl⟩

/-! ### items -/
noncomputable def gIx : W → W → Hx → R W := fun x y A => match seqOf x A, y with
  | some ws, .int i => match atI ws i with
    | some w => .ok w A
    | none => .bad
  | _, _ => .bad
theorem ne_Ix : ∀ x y A, NoExc (gIx x y A) := fun x y A => by
  unfold gIx; split
  · split
    · exact ne_ok
    · exact ne_bad
  · exact ne_bad
theorem atI_read {φ : List Addr} {H : Hp} {ws : List W} {ys : List V} {i : Int} {w : W} (r : RVs K φ H ws ys) (e : atI ws i = some w) : ∃ y, atI ys i = some y ∧ RV K φ H w y := by
  unfold atI at e ⊢
  rw [← r.length]
  cases h : ixN ws.length i with
  | none => rw [h] at e; cases e
  | some j =>
    rw [h] at e
    obtain ⟨y, h1, h2⟩ := r.get (i := j) e
    exact ⟨y, h1, h2⟩
theorem op2_ix : Op2 K (rIx K) gIx := fun φ A H x y u v Q S q1 q2 p => by
  unfold gIx at p
  cases es : seqOf u A with
  | none => rw [es] at p; exact p.elim
  | some ws =>
    rw [es] at p
    cases v with
    | int i =>
      obtain rfl := q2
      dsimp only at p
      cases ei : atI ws i with
      | none => rw [ei] at p; exact p.elim
      | some w =>
        rw [ei] at p
        obtain ⟨a, ys, rfl, z, r⟩ := seqOf_read S q1 es
        obtain ⟨y', h1, h2⟩ := atI_read r ei
        rcases z with z | z
        · exact .inl ⟨a, ys, i, y', rfl, rfl, z, h1, p φ H _ .refl S h2⟩
        · exact .inr (.inl ⟨a, ys, i, y', rfl, rfl, z, h1, p φ H _ .refl S h2⟩)
    | non => exact p.elim
    | bl _ => exact p.elim
    | str _ => exact p.elim
    | tup _ => exact p.elim
    | ref _ => exact p.elim
theorem se_ix (ha : SE X xr a ma) (hb : SE X xr b mb) (hs : PlainIx b := by intro _ _; rfl) : SE X xr (.Subscript a b pos) (mBin gIx ma mb) := PE.imp (pe_ix ix_seq ha hb hs) (mBin.read ne_Ix op2_ix)

/-! ### calls with one sequence -/
noncomputable def OpQ (K : PySem.W.Frag) (r : List V → Hp → VK → Prop) (g : List W → Hx → R W) : Prop := ∀ φ A H a ys ws Q, Sim K φ A H → (SqL K H a ys ∨ SqT K H a ys) → RVs K φ H ws ys → (g ws A).post (PB K φ H Q) noX → r [.ref a] H Q
noncomputable def mQ (g : List W → Hx → R W) (q : Eq') : Ev := fun ρ A => (q ρ A).bind fun ws A1 => g ws A1
theorem mQ.read {r : List V → Hp → VK → Prop} {g : List W → Hx → R W} {q : Eq'} (hn : ∀ ws A, NoExc (g ws A)) (hq : OpQ X.K r g) : ∀ σ H Q, tM X.K xr (mQ g q) σ H Q → tCB r (tCons (tQ X.K xr q) tNil) σ H Q := by
  rintro σ H Q ⟨φ, A, ρ, S, re, h⟩
  refine ⟨φ, A, ρ, S, re, post_mono (post_bind.mp h) (fun ws A1 h1 φ1 H1 a ys l1 S1 z r => ?_) fun _ _ z => z⟩
  exact hq φ1 A1 H1 a ys ws Q S1 z r (post_mono (post_noX (hn _ _) h1) (fun _ _ z => z.mono l1) fun _ _ z => z)
theorem se_qB {id : String} {x : Str} {p : Pos} {r : List V → Hp → VK → Prop} {g : List W → Hx → R W} {q : Eq'} (hc : CallR X (.builtin id) r) (hn : ∀ ws A, NoExc (g ws A)) (hq : OpQ X.K r g) (hm : X.mg x = none) (hv : bootBuiltins x = some (.builtin id)) (ha : SQ X xr e q) (hg : Gl X x := by rfl)
    (hn' : x ≠ "__name__" := by decide) (hdb : (x == ("__debug__" : Str)) = false := by decide) (he : starEach [e] X.env = (false, eval e X.env) :: starEach [] X.env := by rfl) (hpl : (backTo pos (starEach [] X.env)).any (·.1) = false := by rfl) :
    SE X xr (.Call (.Name x p) [e] [] pos) (mQ g q) := PE.imp (pe_callB hc hg hm hv (pa_cons ha pa_nil he) hn' hdb he hpl) (mQ.read hn hq)
theorem se_qT {id : String} {x : Str} {p : Pos} {r : List V → Hp → VK → Prop} {g : List W → Hx → R W} {q : Eq'} (hc : CallR X (.type id) r) (hn : ∀ ws A, NoExc (g ws A)) (hq : OpQ X.K r g) (hm : X.mg x = none) (hv : bootBuiltins x = some (.type id)) (ha : SQ X xr e q) (hg : Gl X x := by rfl)
    (hn' : x ≠ "__name__" := by decide) (hdb : (x == ("__debug__" : Str)) = false := by decide) (he : starEach [e] X.env = (false, eval e X.env) :: starEach [] X.env := by rfl) (hpl : (backTo pos (starEach [] X.env)).any (·.1) = false := by rfl) :
    SE X xr (.Call (.Name x p) [e] [] pos) (mQ g q) := PE.imp (pe_callTy hc hg hm hv (pa_cons ha pa_nil he) hn' hdb he hpl) (mQ.read hn hq)
/-- len -/
noncomputable def gLen : List W → Hx → R W := fun ws A => .ok (.int ws.length) A
theorem opQ_len : OpQ K (fun xs H Q => ∃ p ys, xs = [.ref p] ∧ (SqL K H p ys ∨ SqT K H p ys) ∧ Q (.int ys.length) H) gLen := fun φ A H a ys ws Q S z r p =>
  ⟨a, ys, rfl, z, by rw [← r.length]; exact p φ H _ .refl S rfl⟩
theorem se_len {p : Pos} {q : Eq'} (hm : X.mg "len" = none) (ha : SQ X xr e q) (hg : Gl X "len" := by rfl) (he : starEach [e] X.env = (false, eval e X.env) :: starEach [] X.env := by rfl) :
    SE X xr (.Call (.Name "len" p) [e] [] pos) (mQ gLen q) := se_qB call_len_seq (fun _ _ => ne_ok) opQ_len hm (by rfl) ha hg (by decide) (by decide) he (by rfl)
/-- tuple(..), list(..) -/
noncomputable def gTup : List W → Hx → R W := fun ws A => .ok (.tup ws) A
theorem opQ_tup : OpQ K (fun xs H Q => ∃ p ys, xs = [.ref p] ∧ ((SqL K H p ys ∧ ∀ l, H l = none → Q (.ref l) (upd H l (.tup ys))) ∨ (SqT K H p ys ∧ Q (.ref p) H))) gTup := fun φ A H a ys ws Q S z r p => by
  refine ⟨a, ys, rfl, ?_⟩
  rcases z with z | z
  · refine .inl ⟨z, fun l hl => ?_⟩
    obtain ⟨a1, a2, a3⟩ := tupNew S hl r
    exact p _ _ _ a1 a2 a3
  · exact .inr ⟨z, p φ H _ .refl S ⟨a, ys, rfl, z, r⟩⟩
theorem se_tuple {p : Pos} {q : Eq'} (hm : X.mg "tuple" = none) (ha : SQ X xr e q) (hg : Gl X "tuple" := by rfl) (he : starEach [e] X.env = (false, eval e X.env) :: starEach [] X.env := by rfl) :
    SE X xr (.Call (.Name "tuple" p) [e] [] pos) (mQ gTup q) := se_qT call_tuple_of (fun _ _ => ne_ok) opQ_tup hm (by rfl) ha hg (by decide) (by decide) he (by rfl)
end
end Mi
namespace Mi
open PySem PySem.Spec PyProof.Rows L2
section
variable {X : Cx} {xr : XR} {K : PySem.W.Frag} {e a b c : Expr} {es : List Expr} {m ma mb mc : Ev} {pos : Pos}

/-! ### a sequence walked by a builtin -/
/-- the iterator over a list or a tuple, and what is kept -/
theorem seq_walk {pins : List (Addr × Obj)} {σ : St} {H : Hp} {s : Shared} {a : Addr} {ys : List V} (I : Inv X pins σ H s) (hc : X.calm = true) (z : SqL X.K H a ys ∨ SqT X.K H a ys) {E : Value → Shared → Prop} {Q : Value → Shared → Prop}
    (h : ∀ (its : List Value) (I' : Addr) (fp wr : List Addr) (St' : Nat → Heap → Prop) (s2 : Shared), Vals ys its → ys.length ≤ sizeLine → Walks X.prog X.w X.A.in1 I' fp wr its.length (fun i v => its[i]? = some v) St' → St' 0 s2.heap → (∀ b ∈ fp, b < s2.heap.objs.size) →
      (∀ (h' : Heap) (tk : Nat), (∀ b o, b ∉ wr → s2.heap.get? b = some o → h'.get? b = some o) → Inv X pins σ H { s2 with heap := h', toks := tk }) → Q (.ref I') s2) :
    wpAny (model X.prog X.w) X.A.in1 (pyIter (.ref a)) Q E s := by
  have hh : X.A.in1.handled = none := I.ok.hd hc
  have keep : ∀ (o : Obj) (h' : Heap) (tk : Nat), (∀ b u, b ∉ [s.heap.objs.size] → (s.heap.push o).get? b = some u → h'.get? b = some u) → Inv X pins σ H { s with heap := h', toks := tk } := fun o h' tk k => I.kept fun b u e => k b u (by
    intro hm
    have e1 : b = s.heap.objs.size := by simpa using hm
    exact absurd (e1 ▸ Heap.lt_size e) (Nat.lt_irrefl _)) (Heap.get?_push_of_some _ e)
  rcases z with z | z
  · obtain ⟨its, rv, p, hz⟩ := I.list z
    have hlt : a < s.heap.objs.size := by obtain ⟨o, n, e, _⟩ := p; exact Heap.lt_size e
    refine wpAny_pyIter_list p.isList ?_
    have W := Walks.list (prog := X.prog) (w := X.w) hh s.heap.objs.size a (Nat.ne_of_lt hlt) its.toArray
    rw [List.size_toArray] at W
    simp only [List.getElem?_toArray] at W
    refine h its s.heap.objs.size _ _ _ _ rv hz W ⟨⟨_, Heap.get?_push_size _ rfl, rfl, rfl⟩, p.isList.at fun o e => Heap.get?_push_of_some _ e⟩ (fun b hb => ?_) fun h' tk k => keep _ h' tk k
    show b < (s.heap.push _).objs.size
    rw [Heap.size_push]
    rcases List.mem_cons.mp hb with e | hb
    · rw [e]; exact Nat.lt_succ_self _
    · have e : b = a := by simpa using hb
      rw [e]; exact Nat.lt_succ_of_lt hlt
  · obtain ⟨its, rv, p, hz⟩ := I.tuple z
    have hlt : a < s.heap.objs.size := p.lt
    have p' : s.heap.IsTuple a its.toArray := p
    refine wpAny_pyIter_tuple p' ?_
    have W := Walks.tuple (prog := X.prog) (w := X.w) hh s.heap.objs.size a (Nat.ne_of_lt hlt) its.toArray
    rw [List.size_toArray] at W
    simp only [List.getElem?_toArray] at W
    refine h its s.heap.objs.size _ _ _ _ rv hz W ⟨⟨_, Heap.get?_push_size _ rfl, rfl, rfl⟩, p'.at fun o e => Heap.get?_push_of_some _ e⟩ (fun b hb => ?_) fun h' tk k => keep _ h' tk k
    show b < (s.heap.push _).objs.size
    rw [Heap.size_push]
    rcases List.mem_cons.mp hb with e | hb
    · rw [e]; exact Nat.lt_succ_self _
    · have e : b = a := by simpa using hb
      rw [e]; exact Nat.lt_succ_of_lt hlt
noncomputable def truV : V → Option Bool
  | .bl b => some b
  | .int i => some (i != 0)
  | .non => some false
  | _ => none
noncomputable def truW : W → Option Bool
  | .bl b => some b
  | .int i => some (i != 0)
  | .non => some false
  | _ => none
theorem tru_read {φ : List Addr} {H : Hp} {w : W} {v : V} {k : Bool} (q : RV K φ H w v) (e : truW w = some k) : truV v = some k := by
  cases w <;> first
    | (cases e; done)
    | (obtain rfl := q; exact e)
theorem tru_truth {A : Around} {v : V} {u : Value} {k : Bool} {s : Shared} {Q : Bool → Shared → Prop} {E : Value → Shared → Prop} (r : RelV v u) (e : truV v = some k) (h : Q k s) : wpAny (model X.prog X.w) A (truthy u) Q E s := by
  cases v with
  | bl b => cases e; cases r; exact wpAny_truthy_bool h
  | int i =>
    cases e
    obtain ⟨t, rfl⟩ := r
    exact PySem.P.truthy_int h
  | non => cases e; cases r; exact fun _ _ _ => h
  | _ => cases e
/-- the truths of a list of plain values -/
noncomputable def truAll : List W → Option (List Bool)
  | [] => some []
  | w :: ws => match truW w, truAll ws with
    | some k, some ks => some (k :: ks)
    | _, _ => none
theorem truAll_read {φ : List Addr} {H : Hp} : ∀ {ws : List W} {ys : List V} {ks : List Bool}, RVs K φ H ws ys → truAll ws = some ks → ∀ (i : Nat) (y : V), ys[i]? = some y → ∃ k, ks[i]? = some k ∧ truV y = some k
  | [], _, _, r, e, i, y, h => by cases r; simp at h
  | w :: ws, _, ks, ⟨v, r, e1, q, t⟩, e, i, y, h => by
    subst e1
    unfold truAll at e
    cases e2 : truW w with
    | none => rw [e2] at e; cases e
    | some k =>
      cases e3 : truAll ws with
      | none => rw [e2, e3] at e; cases e
      | some ks' =>
        rw [e2, e3] at e
        cases e
        cases i with
        | zero => simp at h; subst h; exact ⟨k, by simp, tru_read q e2⟩
        | succ i => simp at h; obtain ⟨k', h1, h2⟩ := truAll_read t e3 i y h; exact ⟨k', by simpa using h1, h2⟩
theorem truAll_len : ∀ {ws : List W} {ks : List Bool}, truAll ws = some ks → ks.length = ws.length
  | [], _, e => by cases e; rfl
  | w :: ws, ks, e => by
    unfold truAll at e
    cases e2 : truW w with
    | none => rw [e2] at e; cases e
    | some k =>
      cases e3 : truAll ws with
      | none => rw [e2, e3] at e; cases e
      | some ks' => rw [e2, e3] at e; cases e; simp [truAll_len e3]
theorem range_all (ks : List Bool) : (List.range ks.length).all (fun i => ks.getD i false) = ks.all id := by
  rw [Bool.eq_iff_iff, List.all_eq_true, List.all_eq_true]
  constructor
  · intro h x hx
    obtain ⟨i, hi, rfl⟩ := List.getElem_of_mem hx
    have := h i (List.mem_range.mpr hi)
    rw [List.getD_eq_getElem?_getD, List.getElem?_eq_getElem hi] at this
    exact this
  · intro h i hi
    have hi' := List.mem_range.mp hi
    rw [List.getD_eq_getElem?_getD, List.getElem?_eq_getElem hi']
    exact h _ (List.getElem_mem hi')
theorem range_any (ks : List Bool) : (List.range ks.length).any (fun i => ks.getD i false) = ks.any id := by
  rw [Bool.eq_iff_iff, List.any_eq_true, List.any_eq_true]
  constructor
  · rintro ⟨i, hi, h⟩
    have hi' := List.mem_range.mp hi
    rw [List.getD_eq_getElem?_getD, List.getElem?_eq_getElem hi'] at h
    exact ⟨_, List.getElem_mem hi', h⟩
  · rintro ⟨x, hx, h⟩
    obtain ⟨i, hi, rfl⟩ := List.getElem_of_mem hx
    refine ⟨i, List.mem_range.mpr hi, ?_⟩
    rw [List.getD_eq_getElem?_getD, List.getElem?_eq_getElem hi]
    exact h
noncomputable def rTru (K : PySem.W.Frag) (f : List Bool → Bool) : List V → Hp → VK → Prop := fun xs H Q => ∃ a ys ks, xs = [.ref a] ∧ (SqL K H a ys ∨ SqT K H a ys) ∧ ks.length = ys.length ∧ (∀ (i : Nat) (y : V), ys[i]? = some y → ∃ k, ks[i]? = some k ∧ truV y = some k) ∧ Q (.bl (f ks)) H
theorem truth_of {ys : List V} {its : List Value} {ks : List Bool} {A : Around} (rv : Vals ys its) (hl : ks.length = ys.length) (ht : ∀ (i : Nat) (y : V), ys[i]? = some y → ∃ k, ks[i]? = some k ∧ truV y = some k) : TruthOf X.prog X.w A (fun i v => its[i]? = some v) fun i => ks.getD i false := by
  intro i v s Q E hP hQ
  have hi : i < its.length := (List.getElem?_eq_some_iff.mp hP).1
  have hi' : i < ys.length := by rw [rv.length]; exact hi
  obtain ⟨u, h1, h2⟩ := rv.get (i := i) (x := ys[i]) (by simp [hi'])
  rw [hP] at h1; cases h1
  obtain ⟨k, h3, h4⟩ := ht i ys[i] (by simp [hi'])
  dsimp only at hQ
  rw [List.getD_eq_getElem?_getD, h3] at hQ
  exact tru_truth h2 h4 hQ
theorem call_all (hc : X.calm = true) : CallR X (.builtin "all") (rTru X.K fun ks => ks.all id) := by
  intro pins s σ H xs us Q I r h
  obtain ⟨a, ys, ks, rfl, z, hl, ht, q⟩ := h
  obtain ⟨u, rfl, ru⟩ := vals1 r
  cases ru
  refine call_all_walk (seq_walk I hc z fun its I' fp wr St' s2 rv hz W st hfp back => ?_)
  refine ⟨I', fp, wr, _, _, St', fun i => ks.getD i false, rfl, W, st, truth_of rv hl ht, fun h' tk k => ?_⟩
  have e : its.length = ks.length := by rw [hl, rv.length]
  rw [e, range_all]
  exact ⟨.bl _, H, back h' tk k, rfl, q⟩
theorem call_any (hc : X.calm = true) : CallR X (.builtin "any") (rTru X.K fun ks => ks.any id) := by
  intro pins s σ H xs us Q I r h
  obtain ⟨a, ys, ks, rfl, z, hl, ht, q⟩ := h
  obtain ⟨u, rfl, ru⟩ := vals1 r
  cases ru
  refine call_any_walk (seq_walk I hc z fun its I' fp wr St' s2 rv hz W st hfp back => ?_)
  refine ⟨I', fp, wr, _, _, St', fun i => ks.getD i false, rfl, W, st, truth_of rv hl ht, fun h' tk k => ?_⟩
  have e : its.length = ks.length := by rw [hl, rv.length]
  rw [e, range_any]
  exact ⟨.bl _, H, back h' tk k, rfl, q⟩
noncomputable def gTru (f : List Bool → Bool) : List W → Hx → R W := fun ws A => match truAll ws with
  | some ks => .ok (.bl (f ks)) A
  | none => .bad
theorem ne_Tru {f : List Bool → Bool} : ∀ ws A, NoExc (gTru f ws A) := fun ws A => by
  unfold gTru; split
  · exact ne_ok
  · exact ne_bad
theorem opQ_tru {f : List Bool → Bool} : OpQ K (rTru K f) (gTru f) := fun φ A H a ys ws Q S z r p => by
  unfold gTru at p
  cases e : truAll ws with
  | none => rw [e] at p; exact p.elim
  | some ks =>
    rw [e] at p
    exact ⟨a, ys, ks, rfl, z, by rw [truAll_len e, r.length], truAll_read r e, p φ H _ .refl S rfl⟩
noncomputable abbrev gAll := gTru fun ks => ks.all id
noncomputable abbrev gAny := gTru fun ks => ks.any id
theorem se_all {p : Pos} {q : Eq'} (hc : X.calm = true) (hm : X.mg "all" = none) (ha : SQ X xr e q) (hg : Gl X "all" := by rfl) (he : starEach [e] X.env = (false, eval e X.env) :: starEach [] X.env := by rfl) :
    SE X xr (.Call (.Name "all" p) [e] [] pos) (mQ gAll q) := se_qB (call_all hc) ne_Tru opQ_tru hm (by rfl) ha hg (by decide) (by decide) he (by rfl)
theorem se_any {p : Pos} {q : Eq'} (hc : X.calm = true) (hm : X.mg "any" = none) (ha : SQ X xr e q) (hg : Gl X "any" := by rfl) (he : starEach [e] X.env = (false, eval e X.env) :: starEach [] X.env := by rfl) :
    SE X xr (.Call (.Name "any" p) [e] [] pos) (mQ gAny q) := se_qB (call_any hc) ne_Tru opQ_tru hm (by rfl) ha hg (by decide) (by decide) he (by rfl)

/-! ### is True, is None -/
theorem op_isB : OpR X (compareOp .Is) (fun x y H Q => ∃ i j, x = .bl i ∧ y = .bl j ∧ Q (.bl (i == j)) H) := by
  intro pins s σ H x y v u Q I rx ry h
  obtain ⟨i, j, rfl, rfl, q⟩ := h
  cases rx; cases ry
  exact is_bool ⟨.bl _, H, I, rfl, q⟩
theorem op_isnotB : OpR X (compareOp .IsNot) (fun x y H Q => ∃ i j, x = .bl i ∧ y = .bl j ∧ Q (.bl (!(i == j))) H) := by
  intro pins s σ H x y v u Q I rx ry h
  obtain ⟨i, j, rfl, rfl, q⟩ := h
  cases rx; cases ry
  exact isnot_bool ⟨.bl _, H, I, rfl, q⟩
noncomputable def isNon : W → Bool
  | .non => true
  | _ => false
theorem isNon_read {φ : List Addr} {H : Hp} {w : W} {v : V} (q : RV K φ H w v) : decide (v = .non) = isNon w := by
  cases w with
  | non => obtain rfl := q; rfl
  | bl b => obtain rfl := q; rfl
  | int b => obtain rfl := q; rfl
  | str b => obtain rfl := q; rfl
  | tup ws => obtain ⟨a, vs, rfl, _⟩ := q; rfl
  | ref n => obtain ⟨a, rfl, _⟩ := q; rfl
noncomputable def gIs (neg : Bool) : W → W → Hx → R W := fun x y A => match x, y with
  | .bl i, .bl j => .ok (.bl (if neg then !(i == j) else i == j)) A
  | w, .non => .ok (.bl (if neg then !isNon w else isNon w)) A
  | _, _ => .bad
theorem ne_gIs {n : Bool} : ∀ x y A, NoExc (gIs n x y A) := fun x y A => by
  unfold gIs; split
  · exact ne_ok
  · exact ne_ok
  · exact ne_bad
theorem op2_is : Op2 K (fun x y H Q => (y = .non ∧ Q (.bl (decide (x = .non))) H) ∨ ∃ i j, x = .bl i ∧ y = .bl j ∧ Q (.bl (i == j)) H) (gIs false) := fun φ A H x y u v Q S q1 q2 p => by
  cases v with
  | non =>
    have q2' : y = .non := q2
    refine .inl ⟨q2', ?_⟩
    rw [isNon_read q1]
    cases u <;> exact p φ H _ .refl S rfl
  | bl j =>
    cases u with
    | bl i => obtain rfl := q1; obtain rfl := q2; exact .inr ⟨i, j, rfl, rfl, p φ H _ .refl S rfl⟩
    | _ => exact p.elim
  | _ => cases u <;> exact p.elim
theorem op2_isnot : Op2 K (fun x y H Q => (y = .non ∧ Q (.bl (!decide (x = .non))) H) ∨ ∃ i j, x = .bl i ∧ y = .bl j ∧ Q (.bl (!(i == j))) H) (gIs true) := fun φ A H x y u v Q S q1 q2 p => by
  cases v with
  | non =>
    have q2' : y = .non := q2
    refine .inl ⟨q2', ?_⟩
    rw [isNon_read q1]
    cases u <;> exact p φ H _ .refl S rfl
  | bl j =>
    cases u with
    | bl i => obtain rfl := q1; obtain rfl := q2; exact .inr ⟨i, j, rfl, rfl, p φ H _ .refl S rfl⟩
    | _ => exact p.elim
  | _ => cases u <;> exact p.elim
theorem c_is : CmpOk X .Is (gIs false) := cmp_of (op_isN.or op_isB) ne_gIs op2_is
theorem c_isnot : CmpOk X .IsNot (gIs true) := cmp_of (op_notN.or op_isnotB) ne_gIs op2_isnot
end
end Mi
namespace Mi
open PySem PySem.Spec PyProof.Rows L2
/-- a comprehension's scope within another, looked at -/
noncomputable def cpsB (outer sc : Scope) : Bool := sc.kind == .function && decide ((sc.names.map (·.1)).Nodup) && sc.names.all fun y => y.2 != .free || (outer.names.lookup y.1 == some .cell || outer.names.lookup y.1 == some .free)
theorem cps {X : Cx} {sc : Scope} (h : cpsB X.env.scope sc = true) : CpScope X sc := by
  unfold cpsB at h
  rw [Bool.and_eq_true, Bool.and_eq_true, decide_eq_true_iff, beq_iff_eq, List.all_eq_true] at h
  refine ⟨h.1.1, h.1.2, fun y hy e => ?_⟩
  have := h.2 y hy
  rw [e] at this
  simp only [bne_self_eq_false, Bool.false_or, Bool.or_eq_true, beq_iff_eq] at this
  exact this
end Mi
namespace Mi
open PySem PySem.Spec PyProof.Rows L2
section
variable {X : Cx} {xr : XR} {K : PySem.W.Frag} {e a b c : Expr} {es : List Expr} {m ma mb mc : Ev} {pos : Pos}
theorem Sim.lst {φ : List Addr} {A : Hx} {H : Hp} {n : Nat} {ws : List W} {v : V} (S : Sim K φ A H) (q : RV K φ H (.ref n) v) (e : A[n]? = some (.lst ws)) : ∃ p vs, v = .ref p ∧ φ[n]? = some p ∧ H p = some (.lst vs) ∧ RVs K φ H ws vs := by
  obtain ⟨p, rfl, h1⟩ := q
  obtain ⟨p', h2, vs, h3, h4⟩ := S.ob n _ e
  rw [h1] at h2; cases h2
  exact ⟨p, vs, rfl, h1, h3, h4⟩

/-! ### + and * -/
theorem cat_tup0 {prog : Program} {w : World} {A : Around} {E : Value → Shared → Prop} {s : Shared} {t b : Addr} {ws : List Value} {Q : Value → Shared → Prop} (ht : IsTup s.heap t ([] : List Value).toArray) (hb : IsTup s.heap b ws.toArray) (h0 : Q (.ref b) s) :
    wpAny (model prog w) A (binaryOp .Add (.ref t) (.ref b)) Q E s := by
  obtain ⟨⟨cls, dd, data, sl⟩, ho, hc, n, hd⟩ := id ht
  obtain ⟨⟨cls2, dd2, data2, sl2⟩, ho2, hc2, n2, hd2⟩ := id hb
  simp only at hc hd hc2 hd2
  subst hc hd hc2 hd2
  exact concat_meets ⟨_, ho, rfl⟩ ⟨_, ho2, rfl⟩ noFill_tuple_add seq_tuple_add PySem.F.slot_tuple_add PySem.F.entry_tuple_add (PySem.F.args_tuple_add_2 _ _)
      (tuple_addW0 t b ([] : List Value).toArray ws.toArray n n2 dd dd2 sl sl2 (by simp)) ⟨ho, ho2, h0⟩
noncomputable def rCatT0 (K : PySem.W.Frag) : R2 := fun x y H Q => ∃ a b ys, x = .ref a ∧ y = .ref b ∧ SqT K H a [] ∧ SqT K H b ys ∧ Q (.ref b) H
theorem op_catT0 : OpR X (binaryOp .Add) (rCatT0 X.K) := by
  intro pins s σ H x y v u Q I rx ry h
  obtain ⟨a, b, ys, rfl, rfl, ha, hb, q⟩ := h
  cases rx
  cases ry
  obtain ⟨its, r1, p1, _⟩ := I.tuple ha
  obtain ⟨its2, r2, p2, _⟩ := I.tuple hb
  cases r1
  exact cat_tup0 p1 p2 ⟨.ref b, H, I, rfl, q⟩
noncomputable def gAdd : W → W → Hx → R W := fun x y A => match x, y with
  | .int i, .int j => .ok (.int (i + j)) A
  | .tup xs, .tup ys => if xs.length + ys.length ≤ cpMost then .ok (.tup (xs ++ ys)) A else .bad
  | .ref n, .ref k => match A[n]?, A[k]? with
    | some (.lst xs), some (.lst ys) => if xs.length + ys.length ≤ cpMost then .ok (.ref A.length) (A ++ [.lst (xs ++ ys)]) else .bad
    | _, _ => .bad
  | _, _ => .bad
theorem ne_Add : ∀ x y A, NoExc (gAdd x y A) := fun x y A => by
  unfold gAdd
  split
  · exact ne_ok
  · exact ne_ite ne_ok ne_bad
  · split
    · exact ne_ite ne_ok ne_bad
    · exact ne_bad
  · exact ne_bad
theorem cpMost_le {n : Nat} (h : n ≤ cpMost) : n ≤ sizeLine := by
  have : sizeLine = 16777216 := sizeLine_eq
  unfold cpMost at h
  omega
theorem op2_add : Op2 K (fun x y H Q => rI0 (fun i j => .int (i + j)) x y H Q ∨ rCatT K x y H Q ∨ rCatT0 K x y H Q ∨ rCat x y H Q) gAdd := fun φ A H x y u v Q S q1 q2 p => by
  cases u with
  | int i => cases v with
    | int j => obtain rfl := q1; obtain rfl := q2; exact .inl ⟨i, j, rfl, rfl, p φ H _ .refl S rfl⟩
    | _ => exact p.elim
  | tup xs => cases v with
    | tup ys =>
      obtain ⟨a1, vs1, rfl, t1, r1⟩ := q1
      obtain ⟨a2, vs2, rfl, t2, r2⟩ := q2
      unfold gAdd at p
      dsimp only at p
      by_cases hz : xs.length + ys.length ≤ cpMost
      · rw [if_pos hz] at p
        by_cases hx : vs1 = []
        · subst hx
          have e0 : xs = [] := by
            have := r1.length
            simpa using this
          subst e0
          exact .inr (.inr (.inl ⟨a1, a2, vs2, rfl, rfl, t1, t2, p φ H _ .refl S ⟨a2, vs2, rfl, t2, r2⟩⟩))
        · refine .inr (.inl ⟨a1, a2, vs1, vs2, rfl, rfl, t1, t2, hx, by rw [← r1.length, ← r2.length]; exact cpMost_le hz, fun e => ?_, fun ne l hl => ?_⟩)
          · subst e
            have e0 : ys = [] := by
              have := r2.length
              simpa using this
            subst e0
            rw [List.append_nil] at p
            exact p φ H _ .refl S ⟨a1, vs1, rfl, t1, r1⟩
          · obtain ⟨b1, b2, b3⟩ := tupNew S hl (r1.append r2)
            exact p _ _ _ b1 b2 b3
      · rw [if_neg hz] at p; exact p.elim
    | _ => exact p.elim
  | ref n => cases v with
    | ref k =>
      unfold gAdd at p
      dsimp only at p
      cases e1 : A[n]? with
      | none => rw [e1] at p; exact p.elim
      | some o1 => cases o1 with
        | lst xs =>
          cases e2 : A[k]? with
          | none => rw [e1, e2] at p; exact p.elim
          | some o2 => cases o2 with
            | lst ys =>
              rw [e1, e2] at p
              dsimp only at p
              obtain ⟨p1, v1, rfl, f1, g1, r1⟩ := S.lst q1 e1
              obtain ⟨p2, v2, rfl, f2, g2, r2⟩ := S.lst q2 e2
              by_cases hz : xs.length + ys.length ≤ cpMost
              · rw [if_pos hz] at p
                refine .inr (.inr (.inr ⟨p1, p2, v1, v2, rfl, rfl, g1, g2, by rw [← r1.length, ← r2.length]; exact cpMost_le hz, fun l hl => ?_⟩))
                obtain ⟨b1, b2, b3⟩ := lstNew S hl (r1.append r2)
                exact p _ _ _ b1 b2 b3
              · rw [if_neg hz] at p; exact p.elim
            | _ => rw [e1, e2] at p; exact p.elim
        | _ => rw [e1] at p; exact p.elim
    | _ => exact p.elim
  | _ => cases v <;> exact p.elim
theorem se_add (ha : SE X xr a ma) (hb : SE X xr b mb) : SE X xr (.BinOp a .Add b pos) (mBin gAdd ma mb) := se_bin (op_add.or (op_catT.or (op_catT0.or op_cat))) ne_Add op2_add ha hb
noncomputable def gMul : W → W → Hx → R W := fun x y A => match x, y with
  | .int i, .int j => if cMul i j then .ok (.int (i * j)) A else .bad
  | .ref n, .int k => match A[n]? with
    | some (.lst xs) => if small62 k && decide (xs.length * k.toNat ≤ cpMost) then .ok (.ref A.length) (A ++ [.lst (List.replicate k.toNat xs).flatten]) else .bad
    | _ => .bad
  | _, _ => .bad
theorem ne_Mul : ∀ x y A, NoExc (gMul x y A) := fun x y A => by
  unfold gMul
  split
  · exact ne_ite ne_ok ne_bad
  · split
    · exact ne_ite ne_ok ne_bad
    · exact ne_bad
  · exact ne_bad
theorem RVs.rep {φ : List Addr} {H : Hp} {ws : List W} {vs : List V} (r : RVs K φ H ws vs) : ∀ n : Nat, RVs K φ H (List.replicate n ws).flatten (List.replicate n vs).flatten
  | 0 => .nil
  | n + 1 => by rw [List.replicate_succ, List.replicate_succ, List.flatten_cons, List.flatten_cons]; exact r.append (RVs.rep r n)
theorem op2_mul : Op2 K (fun x y H Q => rI CMul (fun i j => .int (i * j)) x y H Q ∨ rRep x y H Q) gMul := fun φ A H x y u v Q S q1 q2 p => by
  cases v with
  | int j => cases u with
    | int i =>
      obtain rfl := q1; obtain rfl := q2
      unfold gMul at p
      dsimp only at p
      by_cases hc : cMul i j = true
      · rw [if_pos hc] at p; exact .inl ⟨i, j, rfl, rfl, cMul_of i j hc, p φ H _ .refl S rfl⟩
      · rw [if_neg hc] at p; exact p.elim
    | ref n =>
      obtain rfl := q2
      unfold gMul at p
      dsimp only at p
      cases e1 : A[n]? with
      | none => rw [e1] at p; exact p.elim
      | some o1 => cases o1 with
        | lst xs =>
          rw [e1] at p
          dsimp only at p
          obtain ⟨p1, v1, rfl, f1, g1, r1⟩ := S.lst q1 e1
          by_cases hz : (small62 j && decide (xs.length * j.toNat ≤ cpMost)) = true
          · rw [if_pos hz] at p
            rw [Bool.and_eq_true, decide_eq_true_iff] at hz
            obtain ⟨b1, b2⟩ := small62_of hz.1
            refine .inr ⟨p1, j, v1, rfl, rfl, g1, by omega, by omega, by rw [← r1.length]; exact cpMost_le hz.2, fun l hl => ?_⟩
            obtain ⟨c1, c2, c3⟩ := lstNew S hl (r1.rep j.toNat)
            exact p _ _ _ c1 c2 c3
          · rw [if_neg hz] at p; exact p.elim
        | _ => rw [e1] at p; exact p.elim
    | _ => exact p.elim
  | _ => cases u <;> exact p.elim
theorem se_mul (ha : SE X xr a ma) (hb : SE X xr b mb) : SE X xr (.BinOp a .Mult b pos) (mBin gMul ma mb) := se_bin (op_mul.or op_rep) ne_Mul op2_mul ha hb

/-! ### displays with their sizes -/
theorem se_tupN {x1} {mr : Ea} {n : Nat} (h : SA X xr es mr) (hl : ALen mr n) (hn : n ≤ cpMost := by decide) : SE X xr (.Tuple es x1 pos) (mTup mr) :=
  PE.imp (pe_tup h) fun σ H Q ⟨φ, A, ρ, S, re, h⟩ => by
    have h' := post_bind.mp h
    cases e : mr ρ A with
    | ok ws A' =>
      rw [e] at h'
      refine ⟨φ, A, ρ, S, re, ?_⟩
      rw [e]
      intro φ1 H1 vs l1 S1 q1
      refine ⟨by rw [← q1.length, hl ρ A ws A' e]; exact cpMost_le hn, fun p hp => ?_⟩
      obtain ⟨a1, a2, a3⟩ := tupNew S1 hp q1
      exact h' _ _ _ (l1.trans a1) a2 a3
    | exc x A' => rw [e] at h'; refine ⟨φ, A, ρ, S, re, ?_⟩; rw [e]; exact h'
    | bad => rw [e] at h'; exact h'.elim
theorem se_lstN {mr : Ea} {n : Nat} (h : SA X xr es mr) (hl : ALen mr n) (hn : n ≤ cpMost := by decide) : SE X xr (.List es pos) (mLst mr) :=
  se_lst h fun ρ A ws A' e => by rw [hl ρ A ws A' e]; exact cpMost_le hn

/-! ### append, pop -/
noncomputable def gAppend : W → W → Hx → R W := fun x y A => match x with
  | .ref n => match A[n]? with
    | some (.lst ws) => if ws.length < cpMost then .ok .non (A.set n (.lst (ws ++ [y]))) else .bad
    | _ => .bad
  | _ => .bad
noncomputable def isL (x : W) (A : Hx) : Bool := match x with
  | .ref n => match A[n]? with
    | some (.lst _) => true
    | _ => false
  | _ => false
/-- o.m(e) of a list -/
noncomputable def mMeth (g : W → W → Hx → R W) (a b : Ev) : Ev := fun ρ A => (a ρ A).bind fun x A1 => if isL x A1 then (b ρ A1).bind fun y A2 => g x y A2 else .bad
noncomputable def gPopAt : W → W → Hx → R W := fun x y A => match x, y with
  | .ref n, .int i => match A[n]? with
    | some (.lst ws) => match (if small62 i then seqIndex? i ws.length else none) with
      | some k => match ws[k]? with
        | some w => .ok w (A.set n (.lst (ws.eraseIdx k)))
        | none => .bad
      | none => .bad
    | _ => .bad
  | _, _ => .bad
/-! ### xs[i] = v -/
noncomputable def gPut : W → W → W → Hx → R Unit := fun o i v A => match o, i with
  | .ref n, .int k => match A[n]? with
    | some (.lst ws) => match ixN ws.length k with
      | some j => .ok () (A.set n (.lst (ws.set j v)))
      | none => .bad
    | _ => .bad
  | _, _ => .bad
theorem ne_Put : ∀ o i v A, NoExc (gPut o i v A) := fun o i v A => by
  unfold gPut
  split
  · split
    · split
      · exact ne_ok
      · exact ne_bad
    · exact ne_bad
  · exact ne_bad
theorem set_put : SetOk K rSetL gPut := fun φ A H o i v wo wi wv Q S q1 q2 q3 p => by
  unfold gPut at p
  cases wo with
  | ref n => cases wi with
    | int k =>
      obtain rfl := q2
      dsimp only at p
      cases e1 : A[n]? with
      | none => rw [e1] at p; exact p.elim
      | some o1 => cases o1 with
        | lst ws =>
          rw [e1] at p
          dsimp only at p
          cases e2 : ixN ws.length k with
          | none => rw [e2] at p; exact p.elim
          | some j =>
            rw [e2] at p
            obtain ⟨l, vs, rfl, f1, g1, r1⟩ := S.lst q1 e1
            have ln : Le K φ H φ (upd H l (.lst (vs.set j v))) := Le.upd f1 (fun xs z => by rw [g1] at z; cases z) (fun _ _ z => by rw [g1] at z; cases z)
            obtain ⟨w1, w2⟩ := S.write (o := .lst ws) (o' := .lst (ws.set j wv)) e1 rfl rfl f1 ⟨_, upd_same, (r1.mono ln).set (q3.mono ln) j⟩
            exact ⟨l, vs, k, j, rfl, rfl, g1, by rw [← r1.length]; exact e2, p _ _ w1 w2⟩
        | _ => rw [e1] at p; exact p.elim
    | _ => exact p.elim
  | _ => cases wi <;> exact p.elim
end
end Mi
namespace Mi
open PySem PySem.Spec PyProof.Rows L2
section
variable {X : Cx} {xr : XR} {K : PySem.W.Frag} {e a b c : Expr} {es : List Expr} {m ma mb mc : Ev} {pos : Pos}

/-! ### builtins of one and of two values -/
theorem se_u2 {id : String} {x : Str} {p : Pos} {r : List V → Hp → VK → Prop} {g : W → W → Hx → R W} (hc : CallR X (.builtin id) r) (hn : ∀ w w' A, NoExc (g w w' A)) (hg : Op2 X.K (fun v v' => r [v, v']) g) (hm : X.mg x = none) (hv : bootBuiltins x = some (.builtin id)) (ha : SE X xr a ma) (hb : SE X xr b mb) (hgl : Gl X x)
    (hn' : x ≠ "__name__") (hdb : (x == ("__debug__" : Str)) = false) (h1 : starEach [a, b] X.env = (false, eval a X.env) :: starEach [b] X.env) (h2 : starEach [b] X.env = (false, eval b X.env) :: starEach [] X.env) (hpl : (backTo pos (starEach [b] X.env)).any (·.1) = false) :
    SE X xr (.Call (.Name x p) [a, b] [] pos) (mBin g ma mb) := PE.imp (pe_callB hc hgl hm hv (pa_cons ha (pa_cons hb pa_nil h2) h1) hn' hdb h1 hpl) fun σ H Q h => mBin.read (r := fun v v' => r [v, v']) hn hg σ H Q h
noncomputable def gAbs : W → Hx → R W
  | .int i, A => .ok (.int (if i < 0 then -i else i)) A
  | _, _ => .bad
noncomputable def gInt : W → Hx → R W
  | .int i, A => .ok (.int i) A
  | .bl k, A => .ok (.int (if k then 1 else 0)) A
  | _, _ => .bad
noncomputable def gMax2 := gII fun i j => .int (if j > i then j else i)
noncomputable def gMin2 := gII fun i j => .int (if j < i then j else i)
theorem se_min2 {p : Pos} (hc : X.calm = true) (hm : X.mg "min" = none) (ha : SE X xr a ma) (hb : SE X xr b mb) (hgl : Gl X "min" := by rfl) (h1 : starEach [a, b] X.env = (false, eval a X.env) :: starEach [b] X.env := by rfl) (h2 : starEach [b] X.env = (false, eval b X.env) :: starEach [] X.env := by rfl) (hpl : (backTo pos (starEach [b] X.env)).any (·.1) = false := by rfl) :
    SE X xr (.Call (.Name "min" p) [a, b] [] pos) (mBin gMin2 ma mb) := se_u2 (call_min2 hc) ne_II (fun φ A H x y u v Q S q1 q2 p => by
    obtain ⟨i, j, e1, e2, q⟩ := op2_II (K := X.K) (f := fun i j => .int (if j < i then j else i)) (g := fun i j => .int (if j < i then j else i)) (fun _ _ _ _ => rfl) φ A H x y u v Q S q1 q2 p
    subst e1; subst e2
    exact ⟨i, j, rfl, q⟩) hm (by rfl) ha hb hgl (by decide) (by decide) h1 h2 hpl

/-! ### in -/
noncomputable def flatW : W → Bool
  | .tup _ => false
  | .ref _ => false
  | _ => true
noncomputable def eqW0 : W → W → Bool
  | .non, .non => true
  | .bl a, .bl b => a == b
  | .bl a, .int b => (if a then 1 else 0) == b
  | .int a, .bl b => a == (if b then 1 else 0)
  | .int a, .int b => a == b
  | .str a, .str b => a == b
  | _, _ => false
noncomputable def inW (x : W) (xs : List W) : Bool := xs.any fun y => eqW0 y x
theorem flat_read {φ : List Addr} {H : Hp} {w : W} {v : V} (q : RV K φ H w v) (e : flatW w = true) : flatV v = true := by
  cases w <;> first
    | (cases e; done)
    | (obtain rfl := q; rfl)
theorem eqW0_read {φ : List Addr} {H : Hp} {w w' : W} {v v' : V} (q : RV K φ H w v) (q' : RV K φ H w' v') (e : flatW w = true) (e' : flatW w' = true) : eqV v v' = eqW0 w w' := by
  cases w <;> cases w' <;> first
    | (cases e; done)
    | (cases e'; done)
    | (obtain rfl := q; obtain rfl := q'; rfl)
theorem inW_read {φ : List Addr} {H : Hp} {x : W} {v : V} (q : RV K φ H x v) (e : flatW x = true) : ∀ {xs : List W} {vs : List V}, RVs K φ H xs vs → xs.all flatW = true → vs.all flatV = true ∧ inV v vs = inW x xs
  | [], _, r, _ => by cases r; exact ⟨rfl, rfl⟩
  | w :: ws, _, ⟨y, r, e1, h, t⟩, h2 => by
    subst e1
    rw [List.all_cons, Bool.and_eq_true] at h2
    obtain ⟨i1, i2⟩ := inW_read q e t h2.2
    refine ⟨by rw [List.all_cons, flat_read h h2.1, i1]; rfl, ?_⟩
    unfold inV inW at i2 ⊢
    rw [List.any_cons, List.any_cons, i2, eqW0_read h q h2.1 e]
noncomputable def gInN (neg : Bool) : W → W → Hx → R W := fun x y A => match seqOf y A with
  | some ws => if flatW x && ws.all flatW then .ok (.bl (if neg then !inW x ws else inW x ws)) A else .bad
  | none => .bad
noncomputable abbrev gIn := gInN false
noncomputable abbrev gNotIn := gInN true
theorem ne_InN {n : Bool} : ∀ x y A, NoExc (gInN n x y A) := fun x y A => by
  unfold gInN
  split
  · exact ne_ite ne_ok ne_bad
  · exact ne_bad
theorem op2_in {n : Bool} : Op2 K (rIn K n) (gInN n) := fun φ A H x y u v Q S q1 q2 p => by
  unfold gInN at p
  cases es : seqOf v A with
  | none => rw [es] at p; exact p.elim
  | some ws =>
    rw [es] at p
    dsimp only at p
    by_cases hf : (flatW u && ws.all flatW) = true
    · rw [if_pos hf] at p
      rw [Bool.and_eq_true] at hf
      obtain ⟨a, ys, rfl, z, r⟩ := seqOf_read S q2 es
      obtain ⟨i1, i2⟩ := inW_read q1 hf.1 r hf.2
      exact ⟨a, ys, rfl, z, flat_read q1 hf.1, i1, by rw [i2]; exact p φ H _ .refl S rfl⟩
    · rw [if_neg hf] at p; exact p.elim
structure InOk (X : Cx) (op : CmpOp) (g : W → W → Hx → R W) : Prop where
  ex : ∃ r : R2, OpR X (compareOp op) r ∧ (∀ x y A, NoExc (g x y A)) ∧ Op2 X.K r g
theorem c_in : InOk X .In gIn := ⟨_, op_in_seq, ne_InN, op2_in⟩
theorem se_ci {op : CmpOp} {g : W → W → Hx → R W} (h : InOk X op g) (ha : SE X xr a ma) (hb : SE X xr b mb) (hm : behindInMarks op b = false := by rfl) : SE X xr (.Compare a [op] [b] pos) (mBin g ma mb) :=
  let ⟨r, a1, a2, a3⟩ := h.ex; se_cmp a1 a2 a3 ha hb hm
theorem st_ci {op : CmpOp} {g : W → W → Hx → R W} (h : InOk X op g) (ha : SE X xr a ma) (hb : SE X xr b mb) (hm : behindInMarks op b = false := by rfl) : ST X xr (.Compare a [op] [b] pos) (mBin g ma mb) :=
  let ⟨r, a1, a2, a3⟩ := h.ex; st_cmp a1 a2 a3 ha hb hm

/-! ### isinstance with two classes -/
end
end Mi
namespace Mi
open PySem PySem.Spec PyProof.Rows L2
/-! ### == and != of data, at any depth -/
noncomputable def allP (f : W → Option PyData) : List W → Option (List PyData)
  | [] => some []
  | w :: ws => match f w, allP f ws with
    | some d, some ds => some (d :: ds)
    | _, _ => none
noncomputable def toP (A : Hx) : Nat → W → Option PyData
  | _, .non => some .none
  | _, .bl b => some (.bool b)
  | _, .int i => some (.int i)
  | _, .str x => if PyData.strOk x then some (.str x) else none
  | 0, .tup _ => none
  | 0, .ref _ => none
  | n + 1, .tup ws => (allP (toP A n) ws).map .tuple
  | n + 1, .ref k => match seqOf (.ref k) A with
    | some ws => (allP (toP A n) ws).map .list
    | none => none
theorem seq_list {K : PySem.W.Frag} {φ : List Addr} {A : Hx} {H : Hp} {n : Nat} {us : List W} {v : V} (S : Sim K φ A H) (q : RV K φ H (.ref n) v) (es : seqOf (.ref n) A = some us) : ∃ a ys, v = .ref a ∧ SqL K H a ys ∧ RVs K φ H us ys := by
  obtain ⟨a, rfl, e2⟩ := q
  unfold seqOf at es
  dsimp only at es
  cases ec : A[n]? with
  | none => rw [ec] at es; cases es
  | some o =>
    rw [ec] at es
    obtain ⟨a', e3, r⟩ := S.ob n o ec
    rw [e2] at e3; cases e3
    cases o with
    | lst xs => cases es; obtain ⟨ys, h1, h2⟩ := r; exact ⟨a, ys, rfl, SqL.of h1, h2⟩
    | ro xs => cases es; obtain ⟨ys, h1, h2⟩ := r; exact ⟨a, ys, rfl, h1.sq, h2⟩
    | dct xs => cases es
section
variable {X : Cx} {xr : XR} {e a b c : Expr} {ma mb mc : Ev} {pos : Pos}
theorem allP_read {K : PySem.W.Frag} {φ : List Addr} {H : Hp} {h : Heap} {f : W → Option PyData} (hf : ∀ w v u d, RV K φ H w v → RelV v u → f w = some d → ∃ as, Reads h u d as) :
    ∀ {ws : List W} {vs : List V} {us : List Value} {ds : List PyData}, RVs K φ H ws vs → Vals vs us → allP f ws = some ds → ∃ as, ReadsAll h us ds as
  | [], _, _, _, r, rv, e => by cases r; cases rv; cases e; exact ⟨[], .nil⟩
  | w :: ws, _, _, ds, ⟨v, r, e1, q, t⟩, rv, e => by
    subst e1
    cases rv with
    | cons r1 r2 =>
      unfold allP at e
      cases e2 : f w with
      | none => rw [e2] at e; cases e
      | some d =>
        cases e3 : allP f ws with
        | none => rw [e2, e3] at e; cases e
        | some ds' =>
          rw [e2, e3] at e
          cases e
          obtain ⟨as, h1⟩ := hf w v _ d q r1 e2
          obtain ⟨bs, h2⟩ := allP_read hf t r2 e3
          exact ⟨_, .cons h1 h2⟩
theorem toP_read {pins : List (Addr × Obj)} {σ : St} {H : Hp} {s : Shared} {φ : List Addr} {A : Hx} (I : Inv X pins σ H s) (S : Sim X.K φ A H) : ∀ (n : Nat) (w : W) (v : V) (u : Value) (d : PyData), RV X.K φ H w v → RelV v u → toP A n w = some d → ∃ as, Reads s.heap u d as := by
  intro n
  induction n with
  | zero =>
    intro w v u d q r e
    cases w with
    | non => obtain rfl := q; cases r; cases e; exact ⟨_, .none⟩
    | bl k => obtain rfl := q; cases r; cases e; exact ⟨_, .bool k⟩
    | int k => obtain rfl := q; obtain ⟨t, rfl⟩ := r; cases e; exact ⟨_, .int k t⟩
    | str k =>
      obtain rfl := q
      obtain ⟨t, rfl⟩ := r
      unfold toP at e
      split at e
      · cases e; exact ⟨_, .str k t⟩
      · cases e
    | tup _ => cases e
    | ref _ => cases e
  | succ n ih =>
    intro w v u d q r e
    cases w with
    | non => obtain rfl := q; cases r; cases e; exact ⟨_, .none⟩
    | bl k => obtain rfl := q; cases r; cases e; exact ⟨_, .bool k⟩
    | int k => obtain rfl := q; obtain ⟨t, rfl⟩ := r; cases e; exact ⟨_, .int k t⟩
    | str k =>
      obtain rfl := q
      obtain ⟨t, rfl⟩ := r
      unfold toP at e
      split at e
      · cases e; exact ⟨_, .str k t⟩
      · cases e
    | tup ws =>
      obtain ⟨a, vs, rfl, hs, hr⟩ := q
      cases r
      unfold toP at e
      cases e1 : allP (toP A n) ws with
      | none => rw [e1] at e; cases e
      | some ds =>
        rw [e1] at e
        cases e
        obtain ⟨its, rv, ⟨o, h1, h2, k, h3⟩, _⟩ := I.tuple hs
        obtain ⟨as, h4⟩ := allP_read ih hr rv e1
        exact ⟨_, .tuple h1 h2 h3 (by simpa using h4)⟩
    | ref k =>
      unfold toP at e
      cases e1 : seqOf (.ref k) A with
      | none => rw [e1] at e; cases e
      | some ws =>
        rw [e1] at e
        dsimp only at e
        obtain ⟨a, ys, rfl, hs, hr⟩ := seq_list S q e1
        cases r
        cases e2 : allP (toP A n) ws with
        | none => rw [e2] at e; cases e
        | some ds =>
          rw [e2] at e
          cases e
          obtain ⟨its, rv, ⟨o, k', h1, h2, _, h3⟩, _⟩ := I.list hs
          obtain ⟨as, h4⟩ := allP_read ih hr rv e2
          exact ⟨_, .list h1 h2 h3 (by simpa using h4)⟩
theorem toP_shape {A : Hx} : ∀ (n : Nat) (w : W) (d : PyData), toP A n w = some d → d.canLay0 = true ∧ d.depth ≤ n := by
  intro n
  have lst : ∀ {n : Nat}, (∀ (w : W) (d : PyData), toP A n w = some d → d.canLay0 = true ∧ d.depth ≤ n) → ∀ (ws : List W) (ds : List PyData), allP (toP A n) ws = some ds → PyData.canLayAll0 ds = true ∧ PyData.depthAll ds ≤ n := by
    intro n ih ws
    induction ws with
    | nil => intro ds e; cases e; exact ⟨by simp [PyData.canLayAll0], by simp [PyData.depthAll]⟩
    | cons w ws ihw =>
      intro ds e
      unfold allP at e
      cases e2 : toP A n w with
      | none => rw [e2] at e; cases e
      | some d =>
        cases e3 : allP (toP A n) ws with
        | none => rw [e2, e3] at e; cases e
        | some ds' =>
          rw [e2, e3] at e
          cases e
          obtain ⟨h1, h2⟩ := ih w d e2
          obtain ⟨h3, h4⟩ := ihw ds' e3
          refine ⟨by simp [PyData.canLayAll0, h1, h3], ?_⟩
          simp only [PyData.depthAll]
          omega
  induction n with
  | zero =>
    intro w d e
    cases w with
    | tup _ => cases e
    | ref _ => cases e
    | str x =>
      unfold toP at e
      split at e
      · rename_i hx; cases e; exact ⟨by simp [PyData.canLay0, hx], by simp [PyData.depth]⟩
      · cases e
    | _ => cases e; exact ⟨by simp [PyData.canLay0], by simp [PyData.depth]⟩
  | succ n ih =>
    intro w d e
    cases w with
    | tup ws =>
      unfold toP at e
      cases e1 : allP (toP A n) ws with
      | none => rw [e1] at e; cases e
      | some ds =>
        rw [e1] at e
        cases e
        obtain ⟨h1, h2⟩ := lst ih ws ds e1
        refine ⟨by simp [PyData.canLay0, h1], ?_⟩
        simp only [PyData.depth]
        omega
    | ref k =>
      unfold toP at e
      cases e1 : seqOf (.ref k) A with
      | none => rw [e1] at e; cases e
      | some ws =>
        rw [e1] at e
        dsimp only at e
        cases e2 : allP (toP A n) ws with
        | none => rw [e2] at e; cases e
        | some ds =>
          rw [e2] at e
          cases e
          obtain ⟨h1, h2⟩ := lst ih ws ds e2
          refine ⟨by simp [PyData.canLay0, h1], ?_⟩
          simp only [PyData.depth]
          omega
    | str x =>
      unfold toP at e
      split at e
      · rename_i hx; cases e; exact ⟨by simp [PyData.canLay0, hx], by simp [PyData.depth]⟩
      · cases e
    | _ => cases e; exact ⟨by simp [PyData.canLay0], by simp [PyData.depth]⟩
noncomputable def gEqN (neg : Bool) : W → W → Hx → R W := fun x y A => match toP A 8 x, toP A 8 y with
  | some d, some d' => .ok (.bl (if neg then !PyData.eqv d d' else PyData.eqv d d')) A
  | _, _ => .bad
noncomputable abbrev gEq := gEqN false
noncomputable abbrev gNe := gEqN true
theorem ne_EqN {n : Bool} : ∀ x y A, NoExc (gEqN n x y A) := fun x y A => by
  unfold gEqN
  split
  · exact ne_ok
  · exact ne_bad
noncomputable def rEqN (K : PySem.W.Frag) (neg : Bool) : R2 := fun x y H Q => ∃ φ A u v d d', Sim K φ A H ∧ RV K φ H u x ∧ RV K φ H v y ∧ toP A 8 u = some d ∧ toP A 8 v = some d' ∧ Q (.bl (if neg then !PyData.eqv d d' else PyData.eqv d d')) H
theorem shaped8 {A : Hx} {w : W} {d : PyData} (h : toP A 8 w = some d) : SeqAt.shaped d = true := by
  obtain ⟨h1, h2⟩ := toP_shape 8 w d h
  unfold SeqAt.shaped
  rw [h1, Bool.true_and, decide_eq_true_iff]
  omega
theorem op_eqN (hu : X.A.units + 64 < cLine) : OpR X (compareOp .Eq) (rEqN X.K false) := by
  intro pins s σ H x y v u Q I rx ry h
  obtain ⟨φ, A, w1, w2, d, d', S, q1, q2, e1, e2, q⟩ := h
  obtain ⟨as, h1⟩ := toP_read I S 8 w1 x v d q1 rx e1
  obtain ⟨bs, h2⟩ := toP_read I S 8 w2 y u d' q2 ry e2
  exact eq_dataH h1 h2 (shaped8 e1) (shaped8 e2) hu ⟨.bl _, H, I, rfl, q⟩
theorem op_neN (hu : X.A.units + 64 < cLine) : OpR X (compareOp .NotEq) (rEqN X.K true) := by
  intro pins s σ H x y v u Q I rx ry h
  obtain ⟨φ, A, w1, w2, d, d', S, q1, q2, e1, e2, q⟩ := h
  obtain ⟨as, h1⟩ := toP_read I S 8 w1 x v d q1 rx e1
  obtain ⟨bs, h2⟩ := toP_read I S 8 w2 y u d' q2 ry e2
  exact ne_dataH h1 h2 (shaped8 e1) (shaped8 e2) hu ⟨.bl _, H, I, rfl, q⟩
theorem op2_eqN {K : PySem.W.Frag} {n : Bool} : Op2 K (rEqN K n) (gEqN n) := fun φ A H x y u v Q S q1 q2 p => by
  unfold gEqN at p
  cases e1 : toP A 8 u with
  | none => rw [e1] at p; exact p.elim
  | some d =>
    cases e2 : toP A 8 v with
    | none => rw [e1, e2] at p; exact p.elim
    | some d' =>
      rw [e1, e2] at p
      exact ⟨φ, A, u, v, d, d', S, q1, q2, e1, e2, p φ H _ .refl S rfl⟩
theorem c_eqD {k : Nat} (hr : Room k X.A) : CmpOk X .Eq gEq := cmp_of (op_eqN hr.units) ne_EqN op2_eqN
theorem c_neD {k : Nat} (hr : Room k X.A) : CmpOk X .NotEq gNe := cmp_of (op_neN hr.units) ne_EqN op2_eqN
end
end Mi
namespace Mi
open PySem PySem.Spec PyProof.Rows L2
/-! ### values without references; a def run where nothing else stands -/
mutual
noncomputable def W.nr : W → Bool
  | .tup ws => nrs ws
  | .ref _ => false
  | _ => true
noncomputable def nrs : List W → Bool
  | [] => true
  | w :: ws => w.nr && nrs ws
end
noncomputable def iso (f : Fn) : Fn := fun us A => if nrs us then (match f us [] with
  | .ok w A1 => (match w with
    | .ref n => (match A1[n]? with
      | some (.lst ws) => if nrs ws then .ok (.ref A.length) (A ++ [.lst ws]) else .bad
      | some (.dct kvs) => if nrs (kvs.map (·.2)) then .ok (.ref A.length) (A ++ [.dct kvs]) else .bad
      | _ => .bad)
    | w => if w.nr then .ok w A else .bad)
  | _ => .bad) else .bad
noncomputable def isoL (f : Fn) : Fn := fun us A => match us with
  | .ref n :: us => (match A[n]? with
    | some (.lst ws) => if nrs ws && nrs us then (match f (.ref 0 :: us) [.lst ws] with
      | .ok w A1 => (match (List.head? A1 : Option O) with
        | some (.lst ws2) => if nrs ws2 && w.nr then .ok w (A.set n (.lst ws2)) else .bad
        | _ => .bad)
      | _ => .bad) else .bad
    | _ => .bad)
  | _ => .bad
section
variable {K : PySem.W.Frag} {φ φ' φ1 : List Addr} {H H' H1 : Hp} {A A1 : Hx}
mutual
theorem RV.nrm (tp : ∀ a vs, SqT K H a vs → SqT K H' a vs) : ∀ {w : W} {v : V}, w.nr = true → RV K φ H w v → RV K φ' H' w v
  | .non, _, _, h => h
  | .bl _, _, _, h => h
  | .int _, _, _, h => h
  | .str _, _, _, h => h
  | .tup ws, _, n, ⟨a, vs, e, t, r⟩ => ⟨a, vs, e, tp _ _ t, RVs.nrm tp n r⟩
  | .ref _, _, n, _ => nomatch n
theorem RVs.nrm (tp : ∀ a vs, SqT K H a vs → SqT K H' a vs) : ∀ {ws : List W} {vs : List V}, nrs ws = true → RVs K φ H ws vs → RVs K φ' H' ws vs
  | [], _, _, h => h
  | w :: ws, _, n, ⟨v, r, e, h, t⟩ => by
    have n' : (w.nr && nrs ws) = true := n
    rw [Bool.and_eq_true] at n'
    exact ⟨v, r, e, RV.nrm tp n'.1 h, RVs.nrm tp n'.2 t⟩
end
theorem Sim.none : Sim K [] [] H := ⟨rfl, fun i j a o o' _ _ h => by simp at h, fun n o h => by simp at h⟩
/-- all that stood stands -/
theorem Sim.frame (S : Sim K φ A H) (k : ∀ a o, H a = some o → H1 a = some o) (l : Le K φ H φ H1) : Sim K φ A H1 :=
  ⟨S.len, S.inj, fun n o e => let ⟨a, h1, q⟩ := S.ob n o e; ⟨a, h1, q.keep l fun u hu => k a u hu⟩⟩
theorem Le.apart (l : Le K [] H φ1 H1) : Le K φ H φ H1 ∧ ∀ a o, H a = some o → H1 a = some o :=
  have k : ∀ a o, H a = some o → H1 a = some o := fun a o h => l.fr a o h fun n e => by simp at e
  ⟨⟨fun _ _ h => h, l.tp, fun a o h _ => k a o h, fun _ _ h => .inl h, l.st, l.fz⟩, k⟩
theorem Sim.trackN {D : Addr} {u : HO} {o : O} (S : Sim K φ A H) (hD : H D = some u) (n : ∀ (k : Nat) (q : O), φ[k]? = some D → A[k]? = some q → q.mut = false) (new : OR K (φ ++ [D]) H D o) : Sim K (φ ++ [D]) (A ++ [o]) H := by
  have l : LeW K φ H (φ ++ [D]) H := ⟨fun n a h => by
    have := (List.getElem?_eq_some_iff.mp h).1
    rw [List.getElem?_append_left this]; exact h, fun _ _ h => h, fun _ _ _ h => h⟩
  have old : ∀ (i : Nat) a, (φ ++ [D])[i]? = some a → i < A.length → φ[i]? = some a := fun i a e hi => by
    rw [List.getElem?_append_left (by rw [S.len]; exact hi)] at e; exact e
  have last : ∀ a, (φ ++ [D])[A.length]? = some a → a = D := fun a e => by
    rw [List.getElem?_append_right (by rw [S.len]; exact Nat.le_refl _), S.len] at e
    simpa using e.symm
  refine ⟨by simp [S.len], fun i j a o1 o2 h1 h2 h3 h4 m1 m2 => ?_, fun k o' e => ?_⟩
  · by_cases hi : i < A.length
    · rw [List.getElem?_append_left hi] at h3
      by_cases hj : j < A.length
      · rw [List.getElem?_append_left hj] at h4
        exact S.inj i j a o1 o2 (old i a h1 hi) (old j a h2 hj) h3 h4 m1 m2
      · exfalso
        have hj' : j = A.length := by have := (List.getElem?_eq_some_iff.mp h4).1; simp at this; omega
        subst hj'
        have z := n i o1 (by rw [← last a h2]; exact old i a h1 hi) h3
        rw [m1] at z; cases z
    · have hi' : i = A.length := by have := (List.getElem?_eq_some_iff.mp h3).1; simp at this; omega
      by_cases hj : j < A.length
      · exfalso
        rw [List.getElem?_append_left hj] at h4
        subst hi'
        have z := n j o2 (by rw [← last a h1]; exact old j a h2 hj) h4
        rw [m2] at z; cases z
      · have := (List.getElem?_eq_some_iff.mp h4).1; simp at this; omega
  · by_cases hn : k < A.length
    · rw [List.getElem?_append_left hn] at e
      obtain ⟨a, e1, q⟩ := S.ob k o' e
      refine ⟨a, l.ex _ _ e1, ?_⟩
      cases o' with
      | lst ws => obtain ⟨vs, z, r⟩ := q; exact ⟨vs, z, r.monoW l⟩
      | dct ws => obtain ⟨vs, z, z2, r⟩ := q; exact ⟨vs, z, z2, r.monoW l⟩
      | ro ws => obtain ⟨vs, z, r⟩ := q; exact ⟨vs, z, r.monoW l⟩
    · have hn' : k = A.length := by have := (List.getElem?_eq_some_iff.mp e).1; simp at this; omega
      subst hn'
      rw [List.getElem?_append_right (Nat.le_refl _)] at e
      simp at e
      subst e
      exact ⟨D, by rw [List.getElem?_append_right (by rw [S.len]; exact Nat.le_refl _), S.len]; simp, new⟩
/-- a new object of an apart run is taken over -/
theorem Sim.adopt {n : Nat} {a : Addr} {o : O} (S : Sim K φ A H) (l : Le K [] H φ1 H1) (h1 : φ1[n]? = some a) (m : ∃ u, H1 a = some u) (new : OR K (φ ++ [a]) H1 a o) :
    Le K φ H (φ ++ [a]) H1 ∧ Sim K (φ ++ [a]) (A ++ [o]) H1 ∧ RV K (φ ++ [a]) H1 (.ref A.length) (.ref a) := by
  obtain ⟨la, k⟩ := l.apart (φ := φ)
  have h0 : H a = Option.none := by
    rcases l.nw n a h1 with e | e
    · simp at e
    · exact e
  obtain ⟨u, hu⟩ := m
  have S1 := S.frame k la
  refine ⟨la.track h0, S1.trackN hu (fun k q e1 e2 => ?_) new, a, rfl, by rw [← S.len]; simp⟩
  cases hq : q.mut with
  | false => rfl
  | true =>
    obtain ⟨a', e3, r⟩ := S.ob k q e2
    rw [e1] at e3; cases e3
    obtain ⟨z, hz, _⟩ := r.there hq
    rw [h0] at hz; cases hz
theorem OR.nrL {a : Addr} {ws : List W} (h : OR K φ H a (.lst ws)) (n : nrs ws = true) : OR K φ' H a (.lst ws) := let ⟨vs, e, r⟩ := h; ⟨vs, e, r.nrm (fun _ _ t => t) n⟩
theorem OR.nrD {a : Addr} {kvs : List (Key × W)} (h : OR K φ H a (.dct kvs)) (n : nrs (kvs.map (·.2)) = true) : OR K φ' H a (.dct kvs) := let ⟨vs, e, e2, r⟩ := h; ⟨vs, e, e2, r.nrm (fun _ _ t => t) n⟩
variable {P : Program} {w : World} {mg : Str → Option Value} {base : Heap}
theorem FnM.iso {k n : Nat} {x : Str} {f : Fn} (F : FnM P w K mg base k x n f) : FnM P w K mg base k x n (iso f) := by
  obtain ⟨fa, fd, ps, F, a, b, c⟩ := F.ex
  refine ⟨fa, fd, ps, F.imp fun vs H Q E ⟨hl, φ, A, ws, S, r, q⟩ => ?_, a, b, c⟩
  unfold Mi.iso at q
  by_cases hn : nrs ws = true
  · rw [if_pos hn] at q
    refine ⟨hl, [], [], ws, Sim.none, r.nrm (fun _ _ t => t) hn, ?_⟩
    cases hf : f ws [] with
    | ok w A1 =>
      rw [hf] at q
      dsimp only at q
      intro φ1 H1 v l1 S1 q1
      cases w with
      | ref m =>
        dsimp only at q
        cases hm : A1[m]? with
        | none => rw [hm] at q; exact q.elim
        | some o =>
          rw [hm] at q
          obtain ⟨a', ea, hr⟩ := S1.ob m o hm
          obtain ⟨a2, rfl, ea2⟩ := q1
          rw [ea] at ea2; cases ea2
          cases o with
          | lst us =>
            dsimp only at q
            by_cases hu : nrs us = true
            · rw [if_pos hu] at q
              obtain ⟨t, ht, _⟩ := hr.there rfl
              obtain ⟨b1, b2, b3⟩ := S.adopt l1 ea ⟨t, ht⟩ (o := .lst us) (hr.nrL hu)
              exact q _ _ _ b1 b2 b3
            · rw [if_neg hu] at q; exact q.elim
          | dct us =>
            dsimp only at q
            by_cases hu : nrs (us.map (·.2)) = true
            · rw [if_pos hu] at q
              obtain ⟨t, ht, _⟩ := hr.there rfl
              obtain ⟨b1, b2, b3⟩ := S.adopt l1 ea ⟨t, ht⟩ (o := .dct us) (hr.nrD hu)
              exact q _ _ _ b1 b2 b3
            · rw [if_neg hu] at q; exact q.elim
          | ro us => exact q.elim
      | _ =>
        all_goals
          dsimp only at q
          obtain ⟨la, kk⟩ := l1.apart (φ := φ)
          first
            | exact q φ H1 v la (S.frame kk la) q1
            | (split at q
               · rename_i hw
                 exact q φ H1 v la (S.frame kk la) (RV.nrm (fun _ _ t => t) hw q1)
               · exact q.elim)
    | exc y A1 => rw [hf] at q; exact q.elim
    | bad => rw [hf] at q; exact q.elim
  · rw [if_neg hn] at q; exact q.elim
theorem FnM.isoL {k n : Nat} {x : Str} {f : Fn} (F : FnM P w K mg base k x n f) : FnM P w K mg base k x n (isoL f) := by
  obtain ⟨fa, fd, ps, F, a, b, c⟩ := F.ex
  refine ⟨fa, fd, ps, F.imp fun vs H Q E ⟨hl, φ, A, ws, S, r, q⟩ => ?_, a, b, c⟩
  unfold Mi.isoL at q
  cases ws with
  | nil => exact q.elim
  | cons w0 us => cases w0 with
    | ref n =>
      dsimp only at q
      cases hA : A[n]? with
      | none => rw [hA] at q; exact q.elim
      | some o => cases o with
        | lst xs =>
          rw [hA] at q
          dsimp only at q
          by_cases hn : (nrs xs && nrs us) = true
          · rw [if_pos hn] at q
            rw [Bool.and_eq_true] at hn
            obtain ⟨v0, vr, rfl, q0, qr⟩ := r
            obtain ⟨p, ys, rfl, f1, g1, r1⟩ := S.lst q0 hA
            have S0 : Sim K [p] [.lst xs] H := by
              refine ⟨rfl, fun i j a o o' h1 h2 h3 h4 _ _ => ?_, fun m o e => ?_⟩
              · have := (List.getElem?_eq_some_iff.mp h1).1
                have := (List.getElem?_eq_some_iff.mp h2).1
                simp at *
                omega
              · have : m = 0 := by have := (List.getElem?_eq_some_iff.mp e).1; simp at this; omega
                subst this
                simp at e
                subst e
                exact ⟨p, rfl, ys, g1, r1.nrm (fun _ _ t => t) hn.1⟩
            refine ⟨hl, [p], [.lst xs], .ref 0 :: us, S0, .cons ⟨p, rfl, rfl⟩ (qr.nrm (fun _ _ t => t) hn.2), ?_⟩
            cases hf : f (.ref 0 :: us) [.lst xs] with
            | ok w A1 =>
              rw [hf] at q
              dsimp only at q
              intro φ1 H1 v l1 S1 q1
              cases h0 : List.head? A1 with
              | none => rw [h0] at q; exact q.elim
              | some o => cases o with
                | lst zs =>
                  rw [h0] at q
                  dsimp only at q
                  by_cases hw : (nrs zs && w.nr) = true
                  · rw [if_pos hw] at q
                    rw [Bool.and_eq_true] at hw
                    have apart : ∀ a o, a ≠ p → H a = some o → H1 a = some o := fun a o ne h => l1.fr a o h fun m e => by
                      have : m = 0 := by have := (List.getElem?_eq_some_iff.mp e).1; simp at this; omega
                      subst this
                      simp at e
                      exact ne e.symm
                    have lf : Le K φ H φ H1 := ⟨fun _ _ h => h, l1.tp, fun a o h nn => apart a o (fun e => nn n (by rw [e]; exact f1)) h, fun _ _ h => .inl h, l1.st, l1.fz⟩
                    have hp : φ1[0]? = some p := l1.ex 0 p rfl
                    obtain ⟨p', e1, us', e2, r2⟩ := S1.ob 0 _ (by rw [← List.head?_eq_getElem?]; exact h0)
                    rw [hp] at e1; cases e1
                    refine q φ H1 v lf ?_ (RV.nrm (fun _ _ t => t) hw.2 q1)
                    have mt : ∀ (i : Nat) (w : O), (A.set n (.lst zs))[i]? = some w → w.mut = true → ∃ w', A[i]? = some w' ∧ w'.mut = true := fun i w e mw => by
                      by_cases hi : i = n
                      · subst hi; exact ⟨_, hA, rfl⟩
                      · rw [List.getElem?_set_ne (Ne.symm hi)] at e; exact ⟨w, e, mw⟩
                    refine ⟨by simp [S.len], fun i j a o1 o2 h1 h2 h3 h4 m1 m2 => ?_, fun i w e => ?_⟩
                    · obtain ⟨w1, e1, k1⟩ := mt i o1 h3 m1
                      obtain ⟨w2, e2, k2⟩ := mt j o2 h4 m2
                      exact S.inj i j a w1 w2 h1 h2 e1 e2 k1 k2
                    · by_cases hi : i = n
                      · subst hi
                        have : i < A.length := (List.getElem?_eq_some_iff.mp hA).1
                        rw [List.getElem?_set_self this] at e; cases e
                        exact ⟨p, f1, us', e2, r2.nrm (fun _ _ t => t) hw.1⟩
                      · rw [List.getElem?_set_ne (Ne.symm hi)] at e
                        obtain ⟨a, e1, rr⟩ := S.ob i w e
                        refine ⟨a, e1, ?_⟩
                        by_cases hm : w.mut = true
                        · have ne : a ≠ p := fun z => hi (S.inj i n a w _ e1 (by rw [z]; exact f1) e hA hm rfl)
                          exact rr.keep lf fun z hz => apart a z ne hz
                        · cases w with
                          | lst _ => exact absurd rfl hm
                          | dct _ => exact absurd rfl hm
                          | ro ws =>
                            obtain ⟨vs, r1, r2⟩ := rr
                            refine ⟨vs, ?_, r2.mono lf⟩
                            rcases r1 with ⟨ob, r1⟩ | r1
                            · refine .inl ⟨ob, apart a _ ?_ r1⟩
                              intro z; subst z; rw [g1] at r1; cases r1
                            · exact .inr r1
                  · rw [if_neg hw] at q; exact q.elim
                | _ => rw [h0] at q; exact q.elim
            | exc y A1 => rw [hf] at q; exact q.elim
            | bad => rw [hf] at q; exact q.elim
          · rw [if_neg hn] at q; exact q.elim
        | _ => rw [hA] at q; exact q.elim
    | _ => exact q.elim
end
end Mi
namespace Mi
open PySem PySem.Spec PyProof.Rows L2
section
variable {X : Cx} {xr : XR} {K : PySem.W.Frag} {e a b c : Expr} {es : List Expr} {m ma mb mc : Ev} {pos : Pos} {st : Stmt}
/-! ### a statement that is not come to -/
noncomputable def xBad : Ex := fun _ _ => .bad
theorem ss_bad : SS X xr st xBad := fun pins s σ H D I ⟨φ, A, ρ, S, re, h⟩ => h.elim

/-! ### ints in a row: max, sum -/
noncomputable def intsOf : List W → Option (List Int)
  | [] => some []
  | w :: ws => match w with
    | .int i => match intsOf ws with
      | some is => some (i :: is)
      | none => none
    | _ => none
theorem intsOf_eq : ∀ {ws : List W} {ns : List Int}, intsOf ws = some ns → ws = ns.map W.int
  | [], _, e => by cases e; rfl
  | w :: ws, ns, e => by
    unfold intsOf at e
    cases w with
    | int i =>
      dsimp only at e
      cases e2 : intsOf ws with
      | none => rw [e2] at e; cases e
      | some is => rw [e2] at e; cases e; rw [intsOf_eq e2]; rfl
    | _ => cases e
noncomputable def maxI : List Int → Int → Int
  | [], m => m
  | i :: is, m => maxI is (if i > m then i else m)
noncomputable def sumI : List Int → Int → Int
  | [], m => m
  | i :: is, m => sumI is (m + i)
theorem preSum_eq (ns : List Int) : ∀ k, preSum (fun i => ns.getD i 0) k + sumI (ns.drop k) 0 = sumI ns 0 ∨ ns.length < k := by
  have add : ∀ (l : List Int) (m : Int), sumI l m = m + sumI l 0 := fun l => by
    induction l with
    | nil => intro m; show m = m + 0; omega
    | cons i is ih => intro m; show sumI is (m + i) = m + sumI is (0 + i); rw [ih (m + i), ih (0 + i)]; omega
  intro k
  induction k with
  | zero => left; show (0 : Int) + sumI ns 0 = _; omega
  | succ k ih =>
    rcases ih with ih | ih
    · by_cases hk : k < ns.length
      · left
        have e : ns.drop k = ns[k] :: ns.drop (k + 1) := List.drop_eq_getElem_cons hk
        rw [e] at ih
        have e2 : sumI (ns[k] :: ns.drop (k + 1)) 0 = ns[k] + sumI (ns.drop (k + 1)) 0 := by show sumI (ns.drop (k + 1)) (0 + ns[k]) = _; rw [add]; omega
        rw [e2] at ih
        show preSum _ k + ns.getD k 0 + _ = _
        have e3 : ns.getD k 0 = ns[k] := by rw [List.getD_eq_getElem?_getD, List.getElem?_eq_getElem hk]; rfl
        rw [e3]; omega
      · right; omega
    · right; omega
theorem preSum_all (ns : List Int) : preSum (fun i => ns.getD i 0) ns.length = sumI ns 0 := by
  rcases preSum_eq ns ns.length with h | h
  · rw [List.drop_length] at h
    have : sumI [] 0 = 0 := rfl
    omega
  · omega
theorem maxI_best (ns : List Int) : ∀ (k : Nat) (hk : k < ns.length), maxI (ns.drop (k + 1)) (ns.getD (argBest (fun i j => decide (ns.getD i 0 > ns.getD j 0)) k) 0) = maxI ns.tail (ns.getD 0 0) := by
  intro k
  induction k with
  | zero => intro _; rw [show argBest _ 0 = 0 from rfl, List.drop_one]
  | succ k ih =>
    intro hk
    have hk' : k < ns.length := by omega
    rw [← ih hk']
    have e : ns.drop (k + 1) = ns[k + 1] :: ns.drop (k + 1 + 1) := List.drop_eq_getElem_cons hk
    rw [e]
    have e3 : ns.getD (k + 1) 0 = ns[k + 1] := by rw [List.getD_eq_getElem?_getD, List.getElem?_eq_getElem hk]; rfl
    show maxI _ (ns.getD (if decide (ns.getD (k + 1) 0 > ns.getD (argBest _ k) 0) = true then k + 1 else argBest _ k) 0) = maxI _ (if ns[k + 1] > ns.getD (argBest _ k) 0 then ns[k + 1] else ns.getD (argBest _ k) 0)
    rw [e3]
    by_cases h : ns[k + 1] > ns.getD (argBest (fun i j => decide (ns.getD i 0 > ns.getD j 0)) k) 0
    · rw [if_pos (by rw [decide_eq_true_iff]; exact h), if_pos h, e3]
    · rw [if_neg (by rw [decide_eq_true_iff]; exact h), if_neg h]
noncomputable def rInts (K : PySem.W.Frag) (C : List Int → Prop) (f : List Int → Int) : List V → Hp → VK → Prop := fun xs H Q => ∃ a ns, xs = [.ref a] ∧ (SqL K H a (ns.map V.int) ∨ SqT K H a (ns.map V.int)) ∧ C ns ∧ Q (.int (f ns)) H
theorem ints_at {ns : List Int} {its : List Value} (rv : Vals (ns.map V.int) its) {i : Nat} {v : Value} (h : its[i]? = some v) : ∃ t, v = .int (ns.getD i 0) t := by
  have hi : i < its.length := (List.getElem?_eq_some_iff.mp h).1
  have hi' : i < ns.length := by have := rv.length; rw [List.length_map] at this; omega
  obtain ⟨u, h1, h2⟩ := rv.get (i := i) (x := V.int ns[i]) (by simp [hi'])
  rw [h] at h1; cases h1
  obtain ⟨t, rfl⟩ := h2
  exact ⟨t, by rw [List.getD_eq_getElem?_getD, List.getElem?_eq_getElem hi']; rfl⟩
theorem call_sum1 (hc : X.calm = true) : CallR X (.builtin "sum") (rInts X.K (fun _ => True) fun ns => sumI ns 0) := by
  intro pins s σ H xs us Q I r h
  obtain ⟨a, ns, rfl, z, _, q⟩ := h
  obtain ⟨u, rfl, ru⟩ := vals1 r
  cases ru
  refine call_sum_walkG (seq_walk I hc z fun its I' fp wr St' s2 rv hz W st hfp back => ?_)
  refine ⟨I', fp, wr, _, _, St', fun i => ns.getD i 0, rfl, W, st, hfp, fun i v h => ints_at rv h, fun h' tk t' k => ?_⟩
  have e : its.length = ns.length := by have := rv.length; rw [List.length_map] at this; omega
  rw [e, preSum_all]
  exact ⟨.int _, H, back h' tk k, ⟨_, rfl⟩, q⟩
theorem call_max1 (hc : X.calm = true) : CallR X (.builtin "max") (rInts X.K (fun ns => ns ≠ []) fun ns => maxI ns.tail (ns.getD 0 0)) := by
  intro pins s σ H xs us Q I r h
  obtain ⟨a, ns, rfl, z, hne, q⟩ := h
  obtain ⟨u, rfl, ru⟩ := vals1 r
  cases ru
  have hp : 0 < ns.length := List.length_pos_iff.mpr hne
  refine call_max_walk (seq_walk I hc z fun its I' fp wr St' s2 rv hz W st hfp back => ?_)
  have e : its.length = ns.length := by have := rv.length; rw [List.length_map] at this; omega
  refine ⟨I', fp, wr, _, _, St', fun i j => decide (ns.getD i 0 > ns.getD j 0), rfl, W, st, hfp, by omega, ?_, fun v h' tk hv k => ?_⟩
  · intro i j vi vj s' Q' E' h1 h2 hQ
    obtain ⟨t1, rfl⟩ := ints_at rv h1
    obtain ⟨t2, rfl⟩ := ints_at rv h2
    exact (PyProof.Rows.gt_int hQ : wpAny (model X.prog X.w) X.A.in1 (compareOp .Gt (.int (ns.getD i 0) t1) (.int (ns.getD j 0) t2)) Q' E' s')
  · obtain ⟨t, rfl⟩ := ints_at rv hv
    rw [e]
    have b := maxI_best ns (ns.length - 1) (by omega)
    rw [show ns.length - 1 + 1 = ns.length by omega, List.drop_length] at b
    have b' : ns.getD (argBest (fun i j => decide (ns.getD i 0 > ns.getD j 0)) (ns.length - 1)) 0 = maxI ns.tail (ns.getD 0 0) := b
    rw [b']
    exact ⟨.int _, H, back h' tk k, ⟨_, rfl⟩, q⟩
noncomputable def gMax : List W → Hx → R W := fun ws A => match intsOf ws with
  | some (i :: is) => .ok (.int (maxI is i)) A
  | _ => .bad
noncomputable def gSum : List W → Hx → R W := fun ws A => match intsOf ws with
  | some is => .ok (.int (sumI is 0)) A
  | none => .bad
theorem ne_Max : ∀ ws A, NoExc (gMax ws A) := fun ws A => by
  unfold gMax; split
  · exact ne_ok
  · exact ne_bad
theorem ne_Sum : ∀ ws A, NoExc (gSum ws A) := fun ws A => by
  unfold gSum; split
  · exact ne_ok
  · exact ne_bad
theorem ints_read {φ : List Addr} {H : Hp} {ws : List W} {ys : List V} {ns : List Int} {a : Addr} (z : SqL K H a ys ∨ SqT K H a ys) (r : RVs K φ H ws ys) (e : intsOf ws = some ns) : SqL K H a (ns.map V.int) ∨ SqT K H a (ns.map V.int) := by
  rw [intsOf_eq e] at r
  rw [← RVs.ints.mp r]; exact z
theorem opQ_max : OpQ K (rInts K (fun ns => ns ≠ []) fun ns => maxI ns.tail (ns.getD 0 0)) gMax := fun φ A H a ys ws Q S z r p => by
  unfold gMax at p
  cases e : intsOf ws with
  | none => rw [e] at p; exact p.elim
  | some ns => cases ns with
    | nil => rw [e] at p; exact p.elim
    | cons i is => rw [e] at p; exact ⟨a, i :: is, rfl, ints_read z r e, (by intro z; cases z), p φ H _ .refl S rfl⟩
theorem opQ_sum : OpQ K (rInts K (fun _ => True) fun ns => sumI ns 0) gSum := fun φ A H a ys ws Q S z r p => by
  unfold gSum at p
  cases e : intsOf ws with
  | none => rw [e] at p; exact p.elim
  | some ns => rw [e] at p; exact ⟨a, ns, rfl, ints_read z r e, trivial, p φ H _ .refl S rfl⟩
theorem se_max1 {p : Pos} {q : Eq'} (hc : X.calm = true) (hm : X.mg "max" = none) (ha : SQ X xr e q) (hg : Gl X "max" := by rfl) (he : starEach [e] X.env = (false, eval e X.env) :: starEach [] X.env := by rfl) :
    SE X xr (.Call (.Name "max" p) [e] [] pos) (mQ gMax q) := se_qB (call_max1 hc) ne_Max opQ_max hm (by rfl) ha hg (by decide) (by decide) he (by rfl)
theorem se_sum {p : Pos} {q : Eq'} (hc : X.calm = true) (hm : X.mg "sum" = none) (ha : SQ X xr e q) (hg : Gl X "sum" := by rfl) (he : starEach [e] X.env = (false, eval e X.env) :: starEach [] X.env := by rfl) :
    SE X xr (.Call (.Name "sum" p) [e] [] pos) (mQ gSum q) := se_qB (call_sum1 hc) ne_Sum opQ_sum hm (by rfl) ha hg (by decide) (by decide) he (by rfl)

/-! ### t.count(x) of a tuple -/
noncomputable def cntW (y : W) : List W → Nat → Nat
  | [], n => n
  | w :: ws, n => cntW y ws (if eqW0 w y then n + 1 else n)
theorem cntW_eq (y : W) : ∀ (ws : List W) (n : Nat), cntW y ws n = n + ws.countP fun w => eqW0 w y
  | [], n => by simp [cntW]
  | w :: ws, n => by
    show cntW y ws _ = _
    rw [cntW_eq y ws, List.countP_cons]
    by_cases h : eqW0 w y = true
    · rw [if_pos h, if_pos h]; omega
    · rw [if_neg h, if_neg h]; omega
noncomputable def gCount : W → W → Hx → R W := fun x y A => match x with
  | .tup ws => if flatW y && ws.all flatW then .ok (.int (cntW y ws 0)) A else .bad
  | _ => .bad
noncomputable def rCount (K : PySem.W.Frag) : V → List V → Hp → VK → Prop := fun x vs H Q => ∃ a xs y, x = .ref a ∧ vs = [y] ∧ SqT K H a xs ∧ flatV y = true ∧ xs.all flatV = true ∧ Q (.int (xs.countP fun z => eqV z y)) H
theorem countP_eqU {y : V} : ∀ {xs : List V} {us : List Value}, Vals xs us → xs.all flatV = true → us.countP (eqU y) = xs.countP fun z => eqV z y
  | _, _, .nil, _ => rfl
  | _, _, .cons r t, h => by
    rw [List.all_cons, Bool.and_eq_true] at h
    rw [List.countP_cons, List.countP_cons, countP_eqU t h.2, eqU_of r h.1]
theorem mt_count : MtR X "tuple.count" (rCount X.K) := by
  intro pins s σ H x vs v us Q I rx rv h
  obtain ⟨a, xs, y, rfl, rfl, ht, fy, fx, q⟩ := h
  cases rx
  obtain ⟨u, rfl, ru⟩ := rv.one
  obtain ⟨its, r, pp, _⟩ := I.tuple ht
  obtain ⟨⟨cls, dd, data, sl⟩, ho, hc, n, hd⟩ := id pp
  simp only at hc hd
  subst hc hd
  refine call_meets F.slot_tuple_count ⟨_, ho, rfl⟩ F.entry_tuple_count (F.args_tuple_count_2 _ _) (SeqAt.tuple_countAt a its.toArray n dd sl u (eqU y)) ⟨ho, fun z hz => mem_eqAt ru fy r fx z (by simpa using hz), ?_⟩
  refine ⟨.int _, H, I.tok _, ⟨_, rfl⟩, ?_⟩
  rw [← countP_eqU r fx] at q
  simpa using q
/-- o.m(e) of a tuple -/
noncomputable def mMethT (g : W → W → Hx → R W) (a b : Ev) : Ev := fun ρ A => (a ρ A).bind fun x A1 => match x with
  | .tup ws => (b ρ A1).bind fun y A2 => g (.tup ws) y A2
  | _ => .bad
noncomputable def tBT (K : PySem.W.Frag) (r : V → List V → Hp → VK → Prop) (to : TE) (t : TA) : TE := fun σ H Q => to σ H fun x H1 => ∃ p ys, x = .ref p ∧ SqT K H1 p ys ∧ t σ H1 fun xs H2 => r x xs H2 Q
theorem pe_bt {o : Expr} {to : TE} {t : TA} {name : Str} {apos cpos : Pos} {id : String} {r : V → List V → Hp → VK → Prop} (slot : Slot "tuple" name id) (hty : typeOf (.builtin id) = pure (.type "method_descriptor")) (hm : MtR X id r) (ho : PE X o to) (ha : PA X (e :: es) t)
    (hbase : attributeBase o name X.env (eval o X.env) = eval o X.env)
    (hfew : ((backTo cpos (starEach (e :: es) X.env)).all (fun x => !x.1) && (backToKw cpos (keywordEach [] X.env)).all (fun x => x.1.isSome)
      && decide ((e :: es).length + ([] : List Keyword).length + (if ([] : List Keyword).isEmpty then 0 else 1) < 30)) = true)
    (hline : (apos.endLine == cpos.line) = true) (hs : starEach (e :: es) X.env = (false, eval e X.env) :: starEach es X.env) (hplain : (backTo cpos (starEach es X.env)).any (·.1) = false) :
    PE X (.Call (.Attribute o name apos) (e :: es) [] cpos) (tBT X.K r to t) := by
  intro pins s σ H Q I h
  refine wpAny_Call_method_late hbase hfew hline rfl (thn (ho pins s σ H _ I h) fun v s1 ⟨x, H1, I1, r1, p, ys, ep, ty, q1⟩ => ?_)
  subst ep
  cases r1
  obtain ⟨its, _, pp, _⟩ := I1.tuple ty
  refine ⟨"tuple", id, PySem.F.plainAttrs_tuple, slot, hty, pp.typeIs, fun a ea => by cases ea; exact I1.tupleN ty, ?_⟩
  have hA := ha cpos pins s1 σ H1 _ I1 q1
  rw [hs] at hA ⊢
  refine Calls.callWith_builtin (by show (false || (backTo cpos (starEach es X.env)).any (·.1)) = false; rw [hplain]; rfl) (Calls.evalArgs_plain ?_)
  exact thn hA fun us s2 ⟨vs, H2, I2, r2, q2⟩ => hm pins s2 σ H2 (.ref p) vs (.ref p) us Q I2 rfl r2 q2
theorem countW_read {φ : List Addr} {H : Hp} {x : W} {v : V} (q : RV K φ H x v) (e : flatW x = true) : ∀ {xs : List W} {vs : List V}, RVs K φ H xs vs → xs.all flatW = true → vs.all flatV = true ∧ (vs.countP fun z => eqV z v) = xs.countP fun z => eqW0 z x
  | [], _, r, _ => by cases r; exact ⟨rfl, rfl⟩
  | w :: ws, _, ⟨y, r, e1, h, t⟩, h2 => by
    subst e1
    rw [List.all_cons, Bool.and_eq_true] at h2
    obtain ⟨i1, i2⟩ := countW_read q e t h2.2
    refine ⟨by rw [List.all_cons, flat_read h h2.1, i1]; rfl, ?_⟩
    rw [List.countP_cons, List.countP_cons, i2, eqW0_read h q h2.1 e]
theorem se_count {apos cpos : Pos} (ho : SE X xr a ma) (he : SE X xr b mb) (hs : starEach [b] X.env = (false, eval b X.env) :: starEach [] X.env := by rfl)
    (hbase : attributeBase a "count" X.env (eval a X.env) = eval a X.env := by rfl)
    (hfew : ((backTo cpos (starEach [b] X.env)).all (fun x => !x.1) && (backToKw cpos (keywordEach [] X.env)).all (fun x => x.1.isSome)
      && decide ([b].length + ([] : List Keyword).length + (if ([] : List Keyword).isEmpty then 0 else 1) < 30)) = true := by rfl) (hline : (apos.endLine == cpos.line) = true := by rfl) :
    SE X xr (.Call (.Attribute a "count" apos) [b] [] cpos) (mMethT gCount ma mb) :=
  PE.imp (pe_bt PySem.F.slot_tuple_count PySem.F.type_tuple_count mt_count ho (pa_cons he pa_nil hs) hbase hfew hline hs (by rfl)) fun σ H Q ⟨φ, A, ρ, S, re, h⟩ => by
    refine tM.go S re (post_bind.mp h) fun w A1 φ1 H1 v h1 l1 S1 q1 => ?_
    cases w with
    | tup ws =>
      obtain ⟨p, vs, rfl, t1, r1⟩ := q1
      refine ⟨p, vs, rfl, t1, ?_⟩
      refine tM.go S1 (re.mono l1) (post_mono (post_bind.mp h1) (fun _ _ z => z) fun _ _ z => z.mono l1) fun w2 A2 φ2 H2 v2 h2 l2 S2 q2 => ?_
      unfold gCount at h2
      dsimp only at h2
      by_cases hf : (flatW w2 && ws.all flatW) = true
      · rw [if_pos hf] at h2
        rw [Bool.and_eq_true] at hf
        obtain ⟨i1, i2⟩ := countW_read q2 hf.1 (r1.mono l2) hf.2
        refine ⟨p, vs, v2, rfl, rfl, l2.tp _ _ t1, flat_read q2 hf.1, i1, ?_⟩
        rw [i2]
        rw [cntW_eq] at h2
        exact h2 φ2 H2 _ (l1.trans l2) S2 (by simp [RV])
      · rw [if_neg hf] at h2; exact h2.elim
    | _ => exact h1.elim

/-! ### xs[k:] of a list -/
noncomputable def gCutFrom : W → W → Hx → R W := fun x y A => match x, y with
  | .ref n, .int k => match A[n]? with
    | some (.lst ws) => if 0 ≤ k then .ok (.ref A.length) (A ++ [.lst (ws.drop k.toNat)]) else .bad
    | _ => .bad
  | _, _ => .bad
theorem cutV_from (xs : List V) (k : Int) (h : 0 ≤ k) : cutV xs (some k) none = xs.drop k.toNat := by
  unfold cutV
  have e1 : HT.sIx xs.length xs.length none = xs.length := rfl
  rw [e1]
  have e2 : HT.sIx xs.length 0 (some k) = min k.toNat xs.length := by
    unfold HT.sIx
    simp
    omega
  rw [e2]
  by_cases hk : k.toNat ≤ xs.length
  · rw [Nat.min_eq_left hk, List.take_of_length_le (by simp)]
  · rw [Nat.min_eq_right (by omega), List.drop_length, List.drop_of_length_le (by omega), List.take_nil]
theorem se_cutFrom {p2 : Pos} (ha : SE X xr a ma) (hb : SE X xr b mb) : SE X xr (.Subscript a (.Slice (some b) none none p2) pos) (mBin gCutFrom ma mb) :=
  PE.imp (pe_slice sl_list ha (po_some hb) po_none) fun σ H Q ⟨φ, A, ρ, S, re, h⟩ => by
    refine tM.go S re (post_bind.mp h) fun w A1 φ1 H1 v h1 l1 S1 q1 => ?_
    refine tM.go S1 (re.mono l1) (post_mono (post_bind.mp h1) (fun _ _ z => z) fun _ _ z => z.mono l1) fun w2 A2 φ2 H2 v2 h2 l2 S2 q2 => ?_
    unfold gCutFrom at h2
    cases w with
    | ref n => cases w2 with
      | int k =>
        dsimp only at h2
        obtain rfl := q2
        cases e1 : A2[n]? with
        | none => rw [e1] at h2; exact h2.elim
        | some o => cases o with
          | lst ws =>
            rw [e1] at h2
            dsimp only at h2
            by_cases hk : 0 ≤ k
            · rw [if_pos hk] at h2
              obtain ⟨p, vs, rfl, f1, g1, r1⟩ := S2.lst (q1.mono l2) e1
              refine ⟨k, rfl, p, vs, rfl, SqL.of g1, fun l hl => ?_⟩
              rw [cutV_from vs k hk]
              obtain ⟨b1, b2, b3⟩ := lstNew S2 hl (r1.drop k.toNat)
              exact h2 _ _ _ ((l1.trans l2).trans b1) b2 b3
            · rw [if_neg hk] at h2; exact h2.elim
          | _ => rw [e1] at h2; exact h2.elim
      | _ => exact h2.elim
    | _ => cases w2 <;> exact h2.elim
end
end Mi
namespace Mi
open PySem PySem.Spec PyProof.Rows L2
section
variable {X : Cx} {xr : XR} {K : PySem.W.Frag} {e a b c : Expr} {es : List Expr} {m ma mb mc : Ev} {pos : Pos} {st : Stmt}
/-! ### range(a, b, -1) -/
noncomputable def Itc (lo d : Int) (n : Nat) : It := ⟨fun i _ => i < n, fun i H x H' => H' = H ∧ x = .int (lo + i * d), fun i _ => n ≤ i⟩
theorem turn_rangeC {P : Program} {w : World} {tg : Expr} (it : Addr) (lo d : Int) (n : Nat) : Turn P w K tg (Itc lo d n) [it] it (fun i h => IsRangeIter h it (lo + (i : Nat) * d) ((n : Int) - (i : Nat)) d) where
  mem := by simp
  obj := fun i h st b hb => by
    have eb : b = it := by simpa using hb
    subst eb; exact ⟨_, st, fun v z => nomatch (show Data.fields _ = Data.cell v from z)⟩
  keep := fun i h h' st k => k it (by simp) _ st
  item := by
    intro X hP hw hK hc i pins s σ H E I hf st hg; subst hP hw hK
    obtain ⟨f0, f1, f2, f3, f4, f5⟩ := hf it (by simp)
    have Wr := Walks.range (prog := X.prog) (w := X.w) (I.ok.hd hc) it lo d n
    refine Wr.item i s _ _ hg st fun v h' tk hv st' kk => ?_
    obtain ⟨t, rfl⟩ := hv
    have I1 : Inv X pins σ H { s with heap := h', toks := tk } := I.turned (fun b o hb eo => kk b o (by simpa using hb) eo) f0 f1 f3 f4 f5
    exact ⟨_, rfl, go_of (s := { s with heap := h', toks := tk }) (n := "range_iterator") st' rfl rfl (by decide) ⟨.int (lo + i * d), H, I1, ⟨t, rfl⟩, ⟨rfl, rfl⟩, st', fun b hb => (hf b hb).1⟩⟩
  done := by
    intro X hP hw hK hc i pins s σ H E I hf st hg; subst hP hw hK
    obtain ⟨f0, f1, f2, f3, f4, f5⟩ := hf it (by simp)
    exact wpAny_pyNext_range_end (I.ok.hd hc) st (by have hn : n ≤ i := hg; omega) fun h' eb => ⟨rfl, I.turned (t' := s.toks) (fun b o hb eo => eb b o hb eo) f0 f1 f3 f4 f5⟩
  self := fun _ _ _ _ _ st h => wpAny_pyIter_rangeiter st h
theorem rangeSize_down (x y : Int) : Builtin.Range.rangeSize x y (-1) = ((x - y).toNat : Int) := by
  unfold Builtin.Range.rangeSize
  rw [if_neg (by decide)]
  split
  · rw [show -(-1 : Int) = 1 by rfl, Int.ediv_one]; omega
  · omega
theorem small_down {x y : Int} (h1 : -(2 ^ 62) ≤ x) (h2 : x < 2 ^ 62) (h3 : -(2 ^ 62) ≤ y) (h4 : y < 2 ^ 62) : Builtin.Range.small x y (-1) = true := by
  unfold Builtin.Range.small
  rw [rangeSize_down]
  simp only [Builtin.Range.rangeFitsLong, Bool.and_eq_true, Bool.or_eq_true, decide_eq_true_eq, beq_iff_eq, show ¬ ((-1 : Int) > 0) by decide, if_false]
  omega
noncomputable def iRngD (ta : TA) : TI := fun σ H R => ta σ H fun vs H1 => ∃ i j : Int, vs = [.int i, .int j, .int (-1)] ∧ (-(2 ^ 62) ≤ i ∧ i < 2 ^ 62 ∧ -(2 ^ 62) ≤ j ∧ j < 2 ^ 62) ∧ R (Itc i (-1) (i - j).toNat) H1
theorem pi_rangeD {tg : Expr} {ta : TA} {p : Pos} (hg : Gl X "range") (hm : X.mg "range" = none) (ha : PA X [a, b, c] ta) (hs : starEach [a, b, c] X.env = (false, eval a X.env) :: starEach [b, c] X.env) (hp : (backTo pos (starEach [b, c] X.env)).any (·.1) = false) :
    PI X tg (.Call (.Name "range" p) [a, b, c] [] pos) (iRngD ta) := by
  intro pins s σ H R I h
  refine Call_ (ld_blt I hg hm boot_range (PyProof.Rows.callWith_type1 (thn (ha pos pins s σ H _ I h) fun us s1 ⟨vs, H1, I1, r1, q1⟩ => ?_) hs hp))
  obtain ⟨i, j, rfl, ⟨q1, q2, q3, q4⟩, q⟩ := q1
  obtain ⟨u1, us', rfl, ⟨t1, rfl⟩, r2⟩ : ∃ u1 us', us = u1 :: us' ∧ RelV (.int i) u1 ∧ Vals [.int j, .int (-1)] us' := by
    cases r1 with
    | cons x y => exact ⟨_, _, rfl, x, y⟩
  obtain ⟨u2, u3, rfl, ⟨t2, rfl⟩, ⟨t3, rfl⟩⟩ := r2.two
  refine call_range_3 (by decide) ?_ (.inl (PyProof.noPylong_small (by omega)))
  have I2 : Inv X pins σ H1 { s1 with heap := s1.heap.push { cls := .type "range", data := .fields #[.int i t1, .int j t2, .int (-1) t3] } } := I1.kept (t' := s1.toks) fun b o eo => Heap.get?_push_of_some _ eo
  refine wpAny_pyIter_range (IsRange.new ..) (small_down q1 q2 q3 q4) ?_
  refine ⟨_, [_], _, _, H1, rfl, I2.kept (t' := s1.toks) fun b o eo => Heap.get?_push_of_some _ eo, turn_rangeC _ i (-1) (i - j).toNat, ?_, fun b hb => ?_, q⟩
  · have e1 : i + ((0 : Nat) : Int) * (-1) = i := by simp
    have e2 : (((i - j).toNat : Nat) : Int) - ((0 : Nat) : Int) = Builtin.Range.rangeSize i j (-1) := by rw [rangeSize_down]; omega
    show IsRangeIter _ _ (i + ((0 : Nat) : Int) * (-1)) ((((i - j).toNat : Nat) : Int) - ((0 : Nat) : Int)) (-1)
    rw [e1, e2]
    exact Heap.get?_push_size _ rfl
  · have eb := List.mem_singleton.mp hb
    subst eb
    exact I2.fpOk (Nat.le_refl _) (I2.hok.fresh (Nat.le_refl _))
noncomputable def dnIt (hi : Int) (n : Nat) : Itx := ⟨fun _ i => if i < n then some (some (.int (hi - i))) else some none, n⟩
theorem dn_ok {φ : List Addr} {H : Hp} {hi : Int} {n : Nat} : ItR K φ H (dnIt hi n) (Itc hi (-1) n) := fun i φ' H' A' lw S' => by
  unfold dnIt
  dsimp only
  by_cases h : i < n
  · rw [if_pos h]
    refine ⟨fun w eo => ?_, fun eo => by cases eo⟩
    cases eo
    refine ⟨h, fun x H1 ⟨e1, e2⟩ => ?_⟩
    subst e1
    refine ⟨.refl, S', ?_⟩
    rw [e2]
    show V.int _ = V.int _
    congr 1; omega
  · rw [if_neg h]
    exact ⟨fun w eo => (by cases eo), fun _ => Nat.le_of_not_lt h⟩
noncomputable def mRngD (m m' : Ev) : Ei := fun ρ A => (m ρ A).bind fun w A1 => (m' ρ A1).bind fun w' A2 => match w, w' with
  | .int i, .int j => if small62 i && small62 j then .ok (dnIt i (i - j).toNat) A2 else .bad
  | _, _ => .bad
theorem si_rngD {tg : Expr} {p p1 p2 : Pos} {k} (hg : Gl X "range") (hm : X.mg "range" = none) (ha : SE X xr a ma) (hb : SE X xr b mb)
    (h1 : starEach [a, b, .UnaryOp .USub (.Constant (.int 1) k p1) p2] X.env = (false, eval a X.env) :: starEach [b, .UnaryOp .USub (.Constant (.int 1) k p1) p2] X.env := by rfl)
    (h2 : starEach [b, .UnaryOp .USub (.Constant (.int 1) k p1) p2] X.env = (false, eval b X.env) :: starEach [.UnaryOp .USub (.Constant (.int 1) k p1) p2] X.env := by rfl)
    (h3 : (backTo pos (starEach [b, .UnaryOp .USub (.Constant (.int 1) k p1) p2] X.env)).any (·.1) = false := by rfl) :
    SI X xr tg (.Call (.Name "range" p) [a, b, .UnaryOp .USub (.Constant (.int 1) k p1) p2] [] pos) (mRngD ma mb) :=
  PI.imp (pi_rangeD hg hm (pa_cons ha (pa_cons hb (pa_cons (pe_un un_neg pe_int) pa_nil (by rfl)) h2) h1) h1 h3) fun σ H Rr ⟨φ, A, ρ, S, re, h⟩ => by
    refine tM.go S re (post_bind.mp h) fun w A1 φ1 H1 v h1 l1 S1 q1 => ?_
    refine tM.go S1 (re.mono l1) (post_mono (post_bind.mp h1) (fun _ _ z => z) fun _ _ z => z.mono l1) fun w2 A2 φ2 H2 v2 h2 l2 S2 q2 => ?_
    cases w with
    | int i =>
      obtain rfl := q1
      cases w2 with
      | int j =>
        obtain rfl := q2
        dsimp only at h2
        by_cases hj : (small62 i && small62 j) = true
        · rw [if_pos hj] at h2
          rw [Bool.and_eq_true] at hj
          obtain ⟨b1, b2⟩ := small62_of hj.1
          obtain ⟨b3, b4⟩ := small62_of hj.2
          exact ⟨1, rfl, i, j, rfl, ⟨b1, b2, b3, b4⟩, h2 φ2 H2 _ (l1.trans l2) S2 dn_ok⟩
        · rw [if_neg hj] at h2; exact h2.elim
      | _ => exact h2.elim
    | _ => exact h2.elim

/-! ### list(range(n)) -/
noncomputable def tRngV (ta : TA) : TE := fun σ H Q => ta σ H fun vs H1 => ∃ j : Int, vs = [.int j] ∧ ∀ p, H1 p = none → Q (.ref p) (upd H1 p (.rng 0 j))
theorem pe_rngV {ta : TA} {p : Pos} (hg : Gl X "range") (hm : X.mg "range" = none) (ha : PA X [a] ta) (hs : starEach [a] X.env = [(false, eval a X.env)]) : PE X (.Call (.Name "range" p) [a] [] pos) (tRngV ta) := by
  intro pins s σ H Q I h
  refine Call_ (ld_blt I hg hm boot_range (PyProof.Rows.callWith_type1 (thn (ha pos pins s σ H _ I h) fun us s1 ⟨vs, H1, I1, r1, q1⟩ => ?_) hs rfl))
  obtain ⟨j, rfl, q⟩ := q1
  obtain ⟨u, rfl, ⟨t, rfl⟩⟩ := r1.one
  refine call_range_1 ⟨.ref _, _, I1.laid (o := .rng 0 j) (fun b o eo => Heap.get?_push_of_some _ eo) (Nat.le_refl _) ?_, rfl, q _ (I1.hok.fresh (Nat.le_refl _))⟩
  exact ⟨_, _, _, Heap.get?_push_size _ rfl⟩
noncomputable def rngV (n : Nat) : List V := (List.range n).map fun (i : Nat) => V.int i
theorem call_listR (hc : X.calm = true) : CallR X (.type "list") (fun xs H Q => ∃ (r : Addr) (j : Int), xs = [.ref r] ∧ H r = some (.rng 0 j) ∧ (-(2 ^ 62) ≤ j ∧ j < 2 ^ 62) ∧ j.toNat ≤ sizeLine ∧ ∀ l, H l = none → Q (.ref l) (upd H l (.lst (rngV j.toNat)))) := by
  intro pins s σ H xs us Q I r h
  obtain ⟨p, j, rfl, hp, ⟨b1, b2⟩, hz, q⟩ := h
  obtain ⟨u, rfl, ru⟩ := vals1 r
  cases ru
  obtain ⟨t1, t2, t3, ho⟩ := I.hok p _ hp
  have hl : sizeLine = 16777216 := sizeLine_eq
  refine PySem.call_list_range (n := j.toNat) (I.ok.hd hc) (show IsRange s.heap p 0 j 1 t1 t2 t3 from ho) (small_one (by omega) (by omega) b1 b2) (by rw [rangeSize_one]; split <;> omega) (by omega) fun h' tk acc c' kk hS ⟨hn, hat⟩ => ?_
  refine ⟨.ref s.heap.objs.size, _, I.laid (t' := tk) (o := .lst (rngV j.toNat)) kk (Nat.le_refl _) ?_, rfl, q _ (I.hok.fresh (Nat.le_refl _))⟩
  refine ⟨by unfold rngV; simpa using hz, acc.toList, c', ?_, by simpa using hS⟩
  have hv : ∀ (l : List Value) (k : Nat), (∀ (i : Nat) v, l[i]? = some v → ∃ t, v = .int ((k + i : Nat) : Int) t) → Vals ((List.range' k l.length).map fun (i : Nat) => V.int i) l := by
    intro l
    induction l with
    | nil => intro k _; exact .nil
    | cons v l ih =>
      intro k hk
      rw [List.length_cons, List.range'_succ, List.map_cons]
      refine .cons ?_ (ih (k + 1) fun i v' hv => ?_)
      · obtain ⟨t, rfl⟩ := hk 0 v rfl
        exact ⟨t, rfl⟩
      · obtain ⟨t, rfl⟩ := hk (i + 1) v' (by simpa using hv)
        exact ⟨t, by congr 1; omega⟩
  have hl' : acc.toList.length = j.toNat := by simpa using hn
  have := hv acc.toList 0 fun i v hiv => by
    obtain ⟨t, rfl⟩ := hat i v (by simpa using hiv)
    exact ⟨t, by congr 1; omega⟩
  rw [hl'] at this
  unfold rngV
  rw [List.range_eq_range']
  exact this
noncomputable def mListR1 (m : Ev) : Ev := fun ρ A => (m ρ A).bind fun w A1 => match w with
  | .int j => if small62 j && decide (j.toNat ≤ cpMost) then .ok (.ref A1.length) (A1 ++ [.lst ((List.range j.toNat).map fun (i : Nat) => W.int i)]) else .bad
  | _ => .bad
theorem se_listR1 {p p' pos' : Pos} (hc : X.calm = true) (hm : X.mg "list" = none) (hm' : X.mg "range" = none) (ha : SE X xr a ma) (hg : Gl X "list" := by rfl) (hg' : Gl X "range" := by rfl) (hs : starEach [a] X.env = [(false, eval a X.env)] := by rfl)
    (hs' : starEach [.Call (.Name "range" p') [a] [] pos'] X.env = (false, eval (.Call (.Name "range" p') [a] [] pos') X.env) :: starEach [] X.env := by rfl) :
    SE X xr (.Call (.Name "list" p) [.Call (.Name "range" p') [a] [] pos'] [] pos) (mListR1 ma) :=
  PE.imp (pe_callTy (call_listR hc) hg hm (by rfl) (pa_cons (pe_rngV hg' hm' (pa_cons ha pa_nil (by rw [hs]; rfl)) hs) pa_nil hs') (by decide) (by decide) hs' (by rfl)) fun σ H Q ⟨φ, A, ρ, S, re, h⟩ => by
    refine tM.go S re (post_bind.mp h) fun w A1 φ1 H1 v h1 l1 S1 q1 => ?_
    cases w with
    | int j =>
      obtain rfl := q1
      dsimp only at h1
      by_cases hj : (small62 j && decide (j.toNat ≤ cpMost)) = true
      · rw [if_pos hj] at h1
        rw [Bool.and_eq_true, decide_eq_true_iff] at hj
        refine ⟨j, rfl, fun p hp => ⟨p, j, rfl, upd_same, small62_of hj.1, cpMost_le hj.2, fun l hl => ?_⟩⟩
        have ln : Le X.K φ1 H1 φ1 (upd H1 p (.rng 0 j)) := Le.new hp
        have rr : RVs X.K φ1 (upd H1 p (.rng 0 j)) ((List.range j.toNat).map fun (i : Nat) => W.int i) (rngV j.toNat) := by
          have := (RVs.ints (K := X.K) (φ := φ1) (H := upd H1 p (.rng 0 j)) (ns := (List.range j.toNat).map fun (i : Nat) => (i : Int)) (vs := rngV j.toNat)).mpr (by unfold rngV; simp)
          rw [List.map_map] at this
          exact this
        obtain ⟨b1, b2, b3⟩ := lstNew (S1.lay hp) hl rr
        exact h1 _ _ _ ((l1.trans ln).trans b1) b2 b3
      · rw [if_neg hj] at h1; exact h1.elim
    | _ => exact h1.elim

/-! ### x += e, xs[i] += e of ints -/
noncomputable def xAug (i : Nat) (m : Ev) : Ex := fun ρ A => match ρ[i]? with
  | some (some (.int x)) => (m ρ A).bind fun w A1 => match w with
    | .int y => .ok (.nx (ρ.set i (some (.int (x + y))))) A1
    | _ => .bad
  | _ => .bad
theorem ss_aug (i : Nat) {x : Str} {pos' : Pos} (hN : X.N.Nodup) (he : SE X xr e m) (hi : X.N[i]? = some x := by rfl) (hx : Loc X.env.scope x := by first | exact Or.inl rfl | exact Or.inr rfl)
    (hf : X.fn x = true ∨ X.env.scope.names.lookup x = some .local := by first | exact .inl rfl | exact .inr rfl) : SS X xr (.AugAssign (.Name x pos') .Add e pos) (xAug i m) :=
  PS.imp (ps_aug hN hi hx he ip_add hf) fun D σ H ⟨φ, A, ρ, S, re, h⟩ => by
    unfold xAug at h
    cases er : ρ[i]? with
    | none => rw [er] at h; exact h.elim
    | some o => cases o with
      | none => rw [er] at h; exact h.elim
      | some w => cases w with
        | int x =>
          rw [er] at h
          dsimp only at h
          obtain ⟨v, h1, h2⟩ := re.get i _ er
          obtain rfl := h2
          refine ⟨_, h1, ?_⟩
          refine tM.go S re (post_bind.mp h) fun w A1 φ1 H1 v h3 l1 S1 q1 => ?_
          cases w with
          | int y =>
            obtain rfl := q1
            exact ⟨x, y, rfl, rfl, h3 φ1 H1 _ l1 S1 ((re.mono l1).set (w := .int (x + y)) rfl)⟩
          | _ => exact h3.elim
        | _ => rw [er] at h; exact h.elim
noncomputable def rGetL : V → V → Hp → VK → Prop := fun o i H Q => ∃ p xs k v, o = .ref p ∧ i = .int k ∧ 0 ≤ k ∧ H p = some (.lst xs) ∧ xs[k.toNat]? = some v ∧ Q v H
theorem get_list : PGet X rGetL := by
  intro pins s σ H o i ov iv Q I ro ri h
  obtain ⟨p, xs, k, v, rfl, rfl, h0, hp, hv, q⟩ := h
  cases ro
  obtain ⟨t, rfl⟩ := ri
  obtain ⟨its, r, pl, hz⟩ := I.list (SqL.of hp)
  obtain ⟨u, hu, ru⟩ := r.get hv
  have hn := line63
  have hl := r.length
  have hk : k.toNat < its.length := (List.getElem?_eq_some_iff.mp hu).1
  exact wpAny_getItem_list pl.isList h0 (by omega) (by simpa using hu) ⟨v, H, I, ru, q⟩
noncomputable def xAugS (mo mi me : Ev) : Ex := fun ρ A => (mo ρ A).bind fun o A1 => (mi ρ A1).bind fun i A2 => match o, i with
  | .ref n, .int k => if 0 ≤ k then (match (A2[n]? : Option O) with
    | some (.lst ws) => match ws[k.toNat]? with
      | some (.int x) => (me ρ A2).bind fun y A3 => match y with
        | .int y => (gPut (.ref n) (.int k) (.int (x + y)) A3).bind fun _ A4 => .ok (.nx ρ) A4
        | _ => .bad
      | _ => .bad
    | _ => .bad) else .bad
  | _, _ => .bad
theorem ss_augS {o i : Expr} {mo mi : Ev} {tpos : Pos} (ho : SE X xr o mo) (hi : SE X xr i mi) (he : SE X xr e m)
    (ha : ∀ ov iv new, augStore i ov iv new = (do holding [new, ov, iv] (setItem ov iv new); release [new, ov, iv] []; pure .next) := by intros; rfl) : SS X xr (.AugAssign (.Subscript o i tpos) .Add e pos) (xAugS mo mi m) :=
  PS.imp (ps_augS ho hi get_list he ip_add set_list ha) fun D σ H ⟨φ, A, ρ, S, re, h⟩ => by
    refine tM.go S re (post_bind.mp h) fun w1 A1 φ1 H1 v1 h1 l1 S1 q1 => ?_
    refine tM.go S1 (re.mono l1) (post_mono (post_bind.mp h1) (fun _ _ z => z) fun _ _ z => z.mono l1) fun w2 A2 φ2 H2 v2 h2 l2 S2 q2 => ?_
    have l02 := l1.trans l2
    cases w1 with
    | ref n => cases w2 with
      | int k =>
        obtain rfl := q2
        dsimp only at h2
        by_cases h0 : 0 ≤ k
        · rw [if_pos h0] at h2
          cases e1 : (A2[n]? : Option O) with
          | none => rw [e1] at h2; exact h2.elim
          | some ob => cases ob with
            | lst ws =>
              rw [e1] at h2
              dsimp only at h2
              obtain ⟨p, vs, rfl, f1, g1, r1⟩ := S2.lst (q1.mono l2) e1
              cases e2 : ws[k.toNat]? with
              | none => rw [e2] at h2; exact h2.elim
              | some wx => cases wx with
                | int x =>
                  rw [e2] at h2
                  dsimp only at h2
                  obtain ⟨v, hv, rv⟩ := r1.get e2
                  obtain rfl := rv
                  refine ⟨p, vs, k, _, rfl, rfl, h0, g1, hv, ?_⟩
                  refine tM.go S2 (re.mono l02) (post_mono (post_bind.mp h2) (fun _ _ z => z) fun _ _ z => z.mono l02) fun w3 A3 φ3 H3 v3 h3 l3 S3 q3 => ?_
                  have l03 := l02.trans l3
                  cases w3 with
                  | int y =>
                    obtain rfl := q3
                    dsimp only at h3
                    refine ⟨x, y, rfl, rfl, ?_⟩
                    refine set_put (K := X.K) φ3 A3 H3 (.ref p) (.int k) (.int (x + y)) (.ref n) (.int k) (.int (x + y)) _ S3 ((q1.mono l2).mono l3) rfl rfl ?_
                    cases hr : gPut (.ref n) (.int k) (.int (x + y)) A3 with
                    | ok u A4 =>
                      rw [hr] at h3
                      exact fun φ4 H4 l4 S4 => h3 φ4 H4 σ (l03.trans l4) S4 (re.mono (l03.trans l4))
                    | exc z A4 => exact absurd hr (ne_Put _ _ _ _ z A4)
                    | bad => rw [hr] at h3; exact h3.elim
                  | _ => exact h3.elim
                | _ => rw [e2] at h2; exact h2.elim
            | _ => rw [e1] at h2; exact h2.elim
        · rw [if_neg h0] at h2; exact h2.elim
      | _ => exact h2.elim
    | _ => cases w2 <;> exact h2.elim

/-! ### a, (b, c) as a target -/
noncomputable def gPair3 (i j k : Nat) : Tg := fun w ρ => match w with
  | .tup [x, .tup [y, z]] => some (((ρ.set i (some x)).set j (some y)).set k (some z))
  | _ => none
theorem sg_pair3 (i j k : Nat) {x y z : Str} {p q r pp : Pos} {n n' : Nat} (hc : X.calm = true) (hN : X.N.Nodup) (hi : X.N[i]? = some x := by rfl) (hx : Loc X.env.scope x := by first | exact Or.inl rfl | exact Or.inr rfl) (hf : X.fn x = true ∨ X.env.scope.names.lookup x = some .local := by first | exact .inl rfl | exact .inr rfl)
    (hj : X.N[j]? = some y := by rfl) (hy : Loc X.env.scope y := by first | exact Or.inl rfl | exact Or.inr rfl) (hg : X.fn y = true ∨ X.env.scope.names.lookup y = some .local := by first | exact .inl rfl | exact .inr rfl)
    (hk : X.N[k]? = some z := by rfl) (hz : Loc X.env.scope z := by first | exact Or.inl rfl | exact Or.inr rfl) (hh : X.fn z = true ∨ X.env.scope.names.lookup z = some .local := by first | exact .inl rfl | exact .inr rfl) :
    SG X (.Tuple [.Name x p, .Tuple [.Name y q, .Name z r] n' pp] n pos) (gPair3 i j k) :=
  PG.imp (pg_tup hc (pgs_cons (pg_name hN hi hx hf) (pgs_cons (pg_tup hc (pgs_cons (pg_name hN hj hy hg) (pgs_cons (pg_name hN hk hz hh) pgs_nil))) pgs_nil))) fun v σ H Q ⟨φ, A, ρ, w, ρ', S, re, qq, e, kk⟩ => by
    unfold gPair3 at e
    split at e
    · rename_i x1 y1 z1
      have e' := Option.some.inj e
      subst e'
      obtain ⟨a, vs, rfl, hs, rs⟩ := qq
      obtain ⟨v1, r1, rfl, h1, v2, r2, rfl, h2, rfl⟩ := rs
      obtain ⟨a2, vs2, rfl, hs2, rs2⟩ := h2
      obtain ⟨v3, r3, rfl, h3, v4, r4, rfl, h4, rfl⟩ := rs2
      exact ⟨a, [v1, .ref a2], rfl, hs, rfl, v1, [.ref a2], rfl, .ref a2, [], rfl, a2, [v3, v4], rfl, hs2, rfl, v3, [v4], rfl, v4, [], rfl, rfl, rfl, kk _ (((re.set h1).set h3).set h4)⟩
    · cases e
end
end Mi
namespace Mi
open PySem PySem.Spec PyProof.Rows L2
/-! ### iterators over lists (k) and tuples -/
noncomputable def ItAt (k : Bool) (h : Heap) (it a : Addr) (i : Nat) : Prop := if k = true then h.IsListIter it a i else h.IsTupleIter it a i
noncomputable def SqAt (k : Bool) (h : Heap) (a : Addr) (items : Array Value) : Prop := if k = true then h.IsList a items else h.IsTuple a items
noncomputable def SqV (k : Bool) (K : PySem.W.Frag) (H : Hp) (a : Addr) (xs : List V) : Prop := if k = true then SqL K H a xs else SqT K H a xs
noncomputable def itCls (k : Bool) : String := if k then "list_iterator" else "tuple_iterator"
theorem ItAt.ob {k : Bool} {h : Heap} {it a : Addr} {i : Nat} (x : ItAt k h it a i) : ∃ o, h.get? it = some o ∧ o.cls = .type (itCls k) ∧ o.data = .fields #[.ref a, .int i 0] := by
  cases k <;> exact x
theorem ItAt.mk {k : Bool} {h : Heap} {it a : Addr} {i : Nat} (x : ∃ o, h.get? it = some o ∧ o.cls = .type (itCls k) ∧ o.data = .fields #[.ref a, .int i 0]) : ItAt k h it a i := by
  cases k <;> exact x
theorem ItAt.to {k : Bool} {h h' : Heap} {it a : Addr} {i : Nat} (x : ItAt k h it a i) (e : ∀ o, h.get? it = some o → h'.get? it = some o) : ItAt k h' it a i := let ⟨o, h1, r⟩ := x.ob; .mk ⟨o, e o h1, r⟩
theorem SqAt.ob {k : Bool} {h : Heap} {a : Addr} {items : Array Value} (x : SqAt k h a items) : ∃ o, h.get? a = some o ∧ o.cls = .type (if k then "list" else "tuple") ∧ ∃ n, o.data = .seq items n := by
  cases k <;> exact x
theorem SqAt.to {k : Bool} {h h' : Heap} {a : Addr} {items : Array Value} (x : SqAt k h a items) (e : ∀ o, h.get? a = some o → h'.get? a = some o) : SqAt k h' a items := by
  cases k with
  | false => exact let ⟨o, h1, r⟩ := x.ob; ⟨o, e o h1, r⟩
  | true => exact let ⟨o, h1, r⟩ := x.ob; ⟨o, e o h1, r⟩
section
variable {prog : Program} {w : World} {A : Around} {E : Value → Shared → Prop} {s : Shared} {k : Bool} {it a : Addr} {i : Nat} {items : Array Value}
theorem nx_iter {Q : Value → Shared → Prop} (hl : SqAt k s.heap a items) (hQ : Q (.ref s.heap.objs.size) { s with heap := s.heap.push { cls := .type (itCls k), data := .fields #[.ref a, .int 0 0] } }) : wpAny (model prog w) A (pyIter (.ref a)) Q E s := by
  cases k with
  | true => exact wpAny_pyIter_list hl hQ
  | false => exact wpAny_pyIter_tuple hl hQ
theorem nx_item {x : Value} {Q : Value → Shared → Prop} (hit : ItAt k s.heap it a i) (hl : SqAt k s.heap a items) (hx : items[i]? = some x)
    (hQ : ∀ h', ItAt k h' it a (i + 1) → Heap.SameBut it s.heap h' → Q x { s with heap := h' }) : wpAny (model prog w) A (Builtin.SmallTypes.nextOf (.ref it)) Q E s := by
  cases k with
  | true => exact wpAny_nextOf_list_item hit hl hx hQ
  | false =>
    have hit' : s.heap.IsTupleIter it a i := hit
    obtain ⟨oi, hoi, hci, hdi⟩ := id hit'
    obtain ⟨oa, hoa, _, na, hda⟩ : s.heap.IsTuple a items := hl
    unfold Builtin.SmallTypes.nextOf
    refine wpAny_bind (wpAny_callSpecial?_slot (name := Str.ofString "__next__") hit'.typeIs F.slot_tuple_iterator_next (wpAny_call_entry F.slot_tuple_iterator_next hit'.typeIs F.entry_tuple_iterator_next ?_ (F.args_tuple_iterator_next_1 _)))
    show wpAny _ _ (field (.ref it) 0 >>= _) _ _ s; refine wpAny_bind (wpAny_field hoi hdi (x := .ref a) rfl ?_)
    show wpAny _ _ (if (Value.ref a == Value.none) = true then _ else _) _ _ s; rw [if_neg (show ¬ ((Value.ref a == Value.none) = true) from Bool.false_ne_true)]
    show wpAny _ _ (field (.ref it) 1 >>= _) _ _ s; refine wpAny_bind (wpAny_field hoi hdi (x := .int i 0) rfl ?_)
    show wpAny _ _ (seqItems? (.ref a) >>= _) _ _ s; refine wpAny_bind (wpAny_seqItems hoa hda ?_)
    simp only [Int.toNat_natCast, hx]
    refine wpAny_bind (wpAny_setField hoi hdi (by simp) (wpAny_pure ⟨x, rfl, wpAny_pure (hQ _ (.mk ?_) (Heap.SameBut.update ..))⟩))
    exact ⟨_, Heap.get?_update_self _ hoi (Obj.isFreed_of_fields (Obj.data_mapFields hdi _)), (Obj.cls_mapFields ..).trans hci, by rw [Obj.data_mapFields hdi]; simp [rawInt]⟩
theorem nx_end {Q : Value → Shared → Prop} (hh : A.handled = none) (hit : ItAt k s.heap it a i) (hl : SqAt k s.heap a items) (hx : items[i]? = none)
    (hE : ∀ h' e, Heap.ExtBut it s.heap h' → (∃ o, h'.get? e = some o ∧ o.cls = .type "StopIteration") → E (.ref e) { s with heap := h' }) : wpAny (model prog w) A (Builtin.SmallTypes.nextOf (.ref it)) Q E s := by
  cases k with
  | true => exact wpAny_nextOf_list_end hh hit hl hx hE
  | false =>
    have hit' : s.heap.IsTupleIter it a i := hit
    obtain ⟨oi, hoi, hci, hdi⟩ := id hit'
    obtain ⟨oa, hoa, _, na, hda⟩ : s.heap.IsTuple a items := hl
    unfold Builtin.SmallTypes.nextOf
    refine wpAny_bind (wpAny_callSpecial?_slot (name := Str.ofString "__next__") hit'.typeIs F.slot_tuple_iterator_next (wpAny_call_entry F.slot_tuple_iterator_next hit'.typeIs F.entry_tuple_iterator_next ?_ (F.args_tuple_iterator_next_1 _)))
    show wpAny _ _ (field (.ref it) 0 >>= _) _ _ s; refine wpAny_bind (wpAny_field hoi hdi (x := .ref a) rfl ?_)
    show wpAny _ _ (if (Value.ref a == Value.none) = true then _ else _) _ _ s; rw [if_neg (show ¬ ((Value.ref a == Value.none) = true) from Bool.false_ne_true)]
    show wpAny _ _ (field (.ref it) 1 >>= _) _ _ s; refine wpAny_bind (wpAny_field hoi hdi (x := .int i 0) rfl ?_)
    show wpAny _ _ (seqItems? (.ref a) >>= _) _ _ s; refine wpAny_bind (wpAny_seqItems hoa hda ?_)
    simp only [Int.toNat_natCast, hx]
    refine wpAny_bind (wpAny_rule (wpAny_bind (wpAny_setField hoi hdi (by simp) ?_)))
    show wpAny _ _ (newExc (.type "StopIteration") [] >>= _) _ _ _; refine wpAny_bind ?_; simp only [newExc, newTuple]
    refine wpAny_bind (wpAny_newObj_type ?_ (by size_fits))
    refine wpAny_bind (m := firstArgMember _ _) (wpAny_of_eq (a := Value.none) (by first | rfl | (simp only [firstArgMember]; rfl)) ?_); refine wpAny_newObj_type ?_ (by size_fits)
    simp only [raiseNew]; refine wpAny_bind (wpAny_handled ?_)
    first | rw [show A.in1.handled = none from hh] | rw [hh]
    refine wpAny_bind (wpAny_pure (wpAny_throw ?_)); exact hE _ _ (((Heap.SameBut.update ..).extBut.push _).push _) ⟨_, Heap.get?_push_size _ rfl, rfl⟩
theorem draws_at (hh : A.handled = none) (hne : a ≠ it) : Draws prog w A it [it, a] items.size (fun i v => items[i]? = some v) (fun i h => ItAt k h it a i ∧ SqAt k h a items) where
  live := fun _ _ st => let ⟨o, ho, _⟩ := st.1.ob; ⟨o, ho⟩
  frame := fun _ _ _ st hk => ⟨st.1.to fun o e => hk it (by simp) o e, st.2.to fun o e => hk a (by simp) o e⟩
  item := fun i s Q E hi st hQ => nx_item st.1 st.2 (x := items[i]) (by simp [hi]) fun h' hit' hs' => hQ _ h' s.toks (by simp [hi]) ⟨hit', st.2.to fun o e => hs'.extBut a o hne e⟩ hs'
  done := fun s Q E st hE => nx_end hh st.1 st.2 (by simp) hE
end

/-! ### records of ours have turned, a new object is tracked -/
section
variable {X : Cx} {pins : List (Addr × Obj)} {σ : St} {H : Hp} {s : Shared} {h' : Heap} {t' : Nat} {fp : List Addr}
theorem _root_.L2.Inv.spun {T : Addr} {o : HO} (I : Inv X pins σ H s) (k : ∀ b u, b ∉ fp → s.heap.get? b = some u → h'.get? b = some u) (hf : ∀ b ∈ fp, FpOk X pins H b) (hT : s.heap.objs.size ≤ T)
    (new : ObjOk X.prog X.w (upd H T o) h' T o) : Inv X pins σ (upd H T o) { s with heap := h', toks := t' } := by
  have hn : H T = none := I.hok.fresh hT
  have lt : ∀ b u, s.heap.get? b = some u → b ≠ T := fun b u e => Nat.ne_of_lt (Nat.lt_of_lt_of_le (Heap.lt_size e) hT)
  have nf : ∀ b u, H b = some u → b ∉ fp := fun b u e z => by rw [(hf b z).1] at e; cases e
  refine I.step (g' := s.gens) (d' := s.drawn) (ch := fp) (fun b hb => let ⟨_, f1, _, f3, f4, f5⟩ := hf b hb; ⟨f3, f1, f4, f5⟩) (fun b o _ _ hc e _ => k b o hc e) (fun b o _ _ hc e _ => ⟨o.slots, k b o hc e⟩)
    (fun b o _ e n => by rw [upd_ne (lt b o e)]; exact n) (fun b o hc e => ⟨o, k b o hc e⟩) (fun b xs e => by rw [upd_ne (ne_of_none e hn)]; exact e) (fun b u xs e => by rw [upd_ne (ne_of_none e hn)]; exact e)
    (fun b ps e => ⟨#[], by rw [upd_ne (ne_of_none e hn), e]; simp⟩) (fun m hm => ?_) (fun b u e => ?_) I.bare
  · obtain ⟨o, es, ep, ho, r⟩ := hm
    exact ⟨o, es, ep, k _ o (fun z => (hf _ z).2.1 rfl) ho, r⟩
  · by_cases hb : b = T
    · subst hb; rw [upd_same] at e; cases e; exact new
    · rw [upd_ne hb] at e
      refine (I.hok b u e).stay (fun c v hc q => k c v ?_ q) (fun c q => by rw [upd_ne (ne_of_none q hn)]; exact q) fun c xs q => by rw [upd_ne (ne_of_none q hn)]; exact q
      rcases hc with z | z
      · rw [z]; exact nf b u e
      · exact nf c _ z
theorem _root_.L2.Inv.spun0 (I : Inv X pins σ H s) (k : ∀ b u, b ∉ fp → s.heap.get? b = some u → h'.get? b = some u) (hf : ∀ b ∈ fp, FpOk X pins H b) : Inv X pins σ H { s with heap := h', toks := t' } := by
  have nf : ∀ b u, H b = some u → b ∉ fp := fun b u e z => by rw [(hf b z).1] at e; cases e
  refine I.step (g' := s.gens) (d' := s.drawn) (ch := fp) (fun b hb => let ⟨_, f1, _, f3, f4, f5⟩ := hf b hb; ⟨f3, f1, f4, f5⟩) (fun b o _ _ hc e _ => k b o hc e) (fun b o _ _ hc e _ => ⟨o.slots, k b o hc e⟩)
    (fun b o _ e n => n) (fun b o hc e => ⟨o, k b o hc e⟩) (fun b xs e => e) (fun b u xs e => e) (fun b ps e => ⟨#[], by rw [e]; simp⟩) (fun m hm => ?_) (fun b u e => ?_) I.bare
  · obtain ⟨o, es, ep, ho, r⟩ := hm
    exact ⟨o, es, ep, k _ o (fun z => (hf _ z).2.1 rfl) ho, r⟩
  · refine (I.hok b u e).stay (fun c v hc q => k c v ?_ q) (fun c q => q) fun c xs q => q
    rcases hc with z | z
    · rw [z]; exact nf b u e
    · exact nf c _ z
theorem _root_.L2.Inv.sq {k : Bool} {a : Addr} {xs : List V} (I : Inv X pins σ H s) (h : SqV k X.K H a xs) : ∃ its : List Value, Vals xs its ∧ SqAt k s.heap a its.toArray ∧ xs.length ≤ sizeLine := by
  cases k with
  | true => obtain ⟨its, r, p, z⟩ := I.list h; exact ⟨its, r, p.isList, z⟩
  | false => obtain ⟨its, r, p, z⟩ := I.tuple h; exact ⟨its, r, (show s.heap.IsTuple a its.toArray from p), z⟩
theorem _root_.L2.Inv.sq_inj {k : Bool} {a : Addr} {xs ys : List V} (I : Inv X pins σ H s) (h : SqV k X.K H a xs) (h' : SqV k X.K H a ys) : xs = ys := by
  cases k with
  | true => exact I.list_inj h h'
  | false => exact I.tuple_inj h h'
end

/-! ### enumerate -/
noncomputable def Ite (k : Bool) (K : PySem.W.Frag) (a : Addr) : It :=
  ⟨fun i H => ∃ xs x, SqV k K H a xs ∧ xs[i]? = some x, fun i H x H' => ∃ p y, (∀ xs, SqV k K H a xs → xs[i]? = some y) ∧ H p = none ∧ x = .ref p ∧ H' = upd H p (.tup [.int i, y]), fun i H => ∃ xs, SqV k K H a xs ∧ xs.length = i⟩
theorem turn_enum {P : Program} {w : World} {K : PySem.W.Frag} {elts : List Expr} {kk : Nat} {tpos : Pos} (k : Bool) (a en it : Addr) : Turn P w K (.Tuple elts kk tpos) (Ite k K a) [en, it] en (fun i h => (∃ old, IsEnum h en it i old) ∧ ItAt k h it a i ∧ en ≠ it) where
  mem := by simp
  obj := fun i h st b hb => by
    obtain ⟨⟨old, he⟩, hi, _⟩ := st
    rcases List.mem_cons.mp hb with rfl | hb
    · exact ⟨_, he, fun v z => nomatch z⟩
    · rw [List.mem_singleton.mp hb]
      obtain ⟨o, ho, _, hd⟩ := hi.ob
      exact ⟨o, ho, fun v z => by rw [hd] at z; cases z⟩
  keep := fun i h h' ⟨⟨old, he⟩, hi, ne⟩ kp => ⟨⟨old, kp en (by simp) _ he⟩, hi.to fun o eo => kp it (by simp) o eo, ne⟩
  item := by
    intro X hP hw hK hc i pins s σ H E I hf st hg; subst hP hw hK
    obtain ⟨⟨old, he⟩, hi, ne⟩ := st
    obtain ⟨xs, x, hq, hx⟩ := hg
    obtain ⟨its, rv, hs, hz⟩ := I.sq hq
    obtain ⟨u, hu, ru⟩ := rv.get hx
    have hlt : i < its.toArray.size := by simpa using (List.getElem?_eq_some_iff.mp hu).1
    obtain ⟨oa, hoa, hca, na, hda⟩ := hs.ob
    have ani : a ≠ it := fun z => by
      obtain ⟨oi, hoi, hci, hdi⟩ := hi.ob
      rw [← z, hoa] at hoi; cases hoi; rw [hdi] at hda; cases hda
    have ane : en ≠ a := fun z => by
      have he' : s.heap.get? a = _ := z ▸ he
      rw [hoa] at he'; cases he'; cases hda
    refine wpAny_pyNext_enum_itemD (draws_at (k := k) (items := its.toArray) (I.ok.hd hc) ani) he ⟨hi, hs⟩ hlt ne (by simp [ne, ane]) fun y h1 tk hy ho hst hT hsz hk => ?_
    have ey : y = u := by
      have : its[i]? = some y := by simpa using hy
      rw [hu] at this; exact (Option.some.inj this).symm
    subst ey
    refine ⟨_, rfl, wpAny_letOwnedTupleGo_enum ho fun h2 he2 hs2 => ?_⟩
    have ltE : en < s.heap.objs.size := Heap.lt_size he
    have hT2 : h2.get? s.heap.objs.size = some { cls := .type "tuple", data := .seq #[.int i tk, y] } := hs2.extBut _ _ (Nat.ne_of_gt ltE) hT
    refine ⟨.ref s.heap.objs.size, upd H s.heap.objs.size (.tup [.int i, x]), ?_, rfl, ⟨s.heap.objs.size, x, fun ys hy => by rw [I.sq_inj hy hq]; exact hx, I.hok.fresh (Nat.le_refl _), rfl, rfl⟩, ⟨⟨_, by simpa using he2⟩, ?_, ne⟩, fun b hb => ?_⟩
    · refine I.spun (fp := [en, it]) (t' := tk + 1) (fun b o hb eo => ?_) hf (Nat.le_refl _) ?_
      · exact hs2.extBut _ _ (fun z => hb (by simp [z])) (hk b o (fun z => hb (by simp [z])) (fun z => hb (by simp [z])) eo)
      · exact ⟨by show 2 ≤ sizeLine; decide, [.int i tk, y], .cons ⟨tk, rfl⟩ (.cons ru .nil), _, hT2, ⟨rfl, rfl⟩, 0, rfl⟩
    · exact hst.1.to fun o eo => hs2.extBut _ _ (fun z => ne z.symm) eo
    · have bn : b ≠ s.heap.objs.size := fun z => by
        rcases List.mem_cons.mp hb with q | q
        · exact absurd ltE (by rw [← q, z]; exact Nat.lt_irrefl _)
        · obtain ⟨oi, hoi, _⟩ := hi.ob
          exact absurd (Heap.lt_size hoi) (by rw [← List.mem_singleton.mp q, z]; exact Nat.lt_irrefl _)
      show upd H s.heap.objs.size _ b = none
      rw [upd_ne bn]; exact (hf b hb).1
  done := by
    intro X hP hw hK hc i pins s σ H E I hf st hg; subst hP hw hK
    obtain ⟨⟨old, he⟩, hi, ne⟩ := st
    obtain ⟨xs, hq, hx⟩ := hg
    obtain ⟨its, rv, hs, hz⟩ := I.sq hq
    have en' : its.toArray.size = i := by rw [List.size_toArray, ← rv.length]; exact hx
    obtain ⟨oa, hoa, hca, na, hda⟩ := hs.ob
    have ani : a ≠ it := fun z => by
      obtain ⟨oi, hoi, hci, hdi⟩ := hi.ob
      rw [← z, hoa] at hoi; cases hoi; rw [hdi] at hda; cases hda
    refine wpAny_pyNext_enum_endD (draws_at (k := k) (items := its.toArray) (I.ok.hd hc) ani) he ⟨by rw [en']; exact hi, hs⟩ fun h1 hx1 => ⟨rfl, ?_⟩
    exact I.spun0 (fp := [en, it]) (t' := s.toks) (fun b o hb eo => hx1 b o (fun z => hb (by simp [z])) eo) hf
  self := fun _ _ _ _ _ ⟨⟨_, he⟩, _⟩ h => wpAny_pyIter_enum he h
end Mi
namespace Mi
open PySem PySem.Spec PyProof.Rows L2
open AutoSeq1 (wpAny_loadPart')
/-! ### enumerate(x) of a tuple is made -/
noncomputable abbrev enH1 (h : Heap) (k : Bool) (a : Addr) : Heap := h.push { cls := .type (itCls k), data := .fields #[.ref a, .int 0 0] }
noncomputable abbrev enH2 (h : Heap) (k : Bool) (a : Addr) : Heap := (enH1 h k a).push { cls := .type "enumerate", data := .fields #[.none, .bool false, .ref h.objs.size, rawInt 0, .none, .none] }
theorem meets_enumT (a : Addr) (items : Array Value) (n : Nat) (dd : Option Addr) (sl : Array (Option Value)) :
    Meets (Builtin.«enumerate.__new__» ⟨[.type "enumerate", .ref a], []⟩) (fun _ R s => s.heap.get? a = some { cls := .type "tuple", dict := dd, data := .seq items n, slots := sl } ∧ R (.ok (.ret (.ref (enH1 s.heap false a).objs.size))) { s with heap := enH2 s.heap false a }) :=
  .of_wp fun prog w A R s h => by
    obtain ⟨hp, g, d, tk, os⟩ := s; obtain ⟨ha, h⟩ := h; have hsub := sub_enumerate
    have hT : Heap.IsTuple (Shared.heap ⟨hp, g, d, tk, os⟩) a items := ⟨_, ha, rfl, n, rfl⟩
    wp_walk using wpAny_loadPart' ha
    refine wpAny_stack_any fun st => wpAny_pure ?_; split
    · rename_i c _ _ _ _ _
      cases (c == Value.type "enumerate") <;> (wp_walk using wpAny_loadPart' ha, wpAny_pyIter_tuple hT; exact ⟨_, rfl, h⟩)
    · wp_walk using wpAny_loadPart' ha, wpAny_pyIter_tuple hT
      exact ⟨_, rfl, h⟩
section
variable {prog : Program} {w : World} {A : Around} {E : Value → Shared → Prop} {s : Shared}
theorem call_enum {k : Bool} {a : Addr} {items : Array Value} {Q : Value → Shared → Prop} (hl : SqAt k s.heap a items)
    (h : ∀ h', IsEnum h' (s.heap.objs.size + 1) s.heap.objs.size 0 .none → ItAt k h' s.heap.objs.size a 0 → (∀ b o, s.heap.get? b = some o → h'.get? b = some o) → Q (.ref (s.heap.objs.size + 1)) { s with heap := h' }) :
    wpAny (model prog w) A (call (.type "enumerate") [.ref a]) Q E s := by
  cases k with
  | true => exact call_enumerate_list hl fun h' e1 e2 _ e4 => h h' e1 e2 e4
  | false =>
    obtain ⟨⟨c, dd, dt, sl⟩, ha, hc, n, hd⟩ := (show s.heap.IsTuple a items from hl)
    replace hc : c = .type "tuple" := hc
    replace hd : dt = .seq items n := hd
    subst hc hd
    refine callType_new F.called_enumerate (by decide) (F.typeCall_enumerate_1 _) (F.newCall_enumerate_1 _) (fun obj => F.args_object_init_2 obj _) F.entry_enumerate_new (meets_enumT a items n dd sl) ⟨ha, ?_⟩
    have hz : (enH1 s.heap false a).objs.size = s.heap.objs.size + 1 := Heap.size_push ..
    have he : IsEnum (enH2 s.heap false a) (enH1 s.heap false a).objs.size s.heap.objs.size 0 .none := Heap.get?_push_size _ rfl
    show _ ∧ _
    rw [hz] at he ⊢
    exact ⟨⟨_, he, rfl⟩, h _ he (.mk ⟨_, Heap.get?_push_of_some _ (Heap.get?_push_size _ rfl), rfl, rfl⟩) fun b o x => Heap.get?_push_of_some _ (Heap.get?_push_of_some _ x)⟩
end
section
variable {X : Cx} {xr : XR} {e a b : Expr} {m ma mb : Ev} {pos : Pos}
noncomputable def iEnum (K : PySem.W.Frag) (ta : TA) : TI := fun σ H R => ta σ H fun vs H1 => ∃ p k xs, vs = [.ref p] ∧ SqV k K H1 p xs ∧ R (Ite k K p) H1
theorem boot_enumerate : bootBuiltins "enumerate" = some (.type "enumerate") := by rfl
theorem boot_zip : bootBuiltins "zip" = some (.type "zip") := by rfl
theorem pi_enum {elts : List Expr} {kk : Nat} {tpos p : Pos} {ta : TA} (hg : Gl X "enumerate") (hm : X.mg "enumerate" = none) (ha : PA X [a] ta) (hs : starEach [a] X.env = [(false, eval a X.env)]) :
    PI X (.Tuple elts kk tpos) (.Call (.Name "enumerate" p) [a] [] pos) (iEnum X.K ta) := by
  intro pins s σ H R I h
  refine Call_ (ld_blt I hg hm boot_enumerate (PyProof.Rows.callWith_type1 (thn (ha pos pins s σ H _ I h) fun us s1 ⟨vs, H1, I1, r1, q1⟩ => ?_) hs rfl))
  obtain ⟨p, k, xs, rfl, hq, q⟩ := q1
  obtain ⟨u, rfl, ru⟩ := r1.one
  cases ru
  obtain ⟨its, rv, sq, hz⟩ := I1.sq hq
  refine call_enum sq fun h' e1 e2 e3 => wpAny_pyIter_enum e1 ?_
  refine ⟨s1.heap.objs.size + 1, [s1.heap.objs.size + 1, s1.heap.objs.size], _, _, H1, rfl, I1.kept (t' := s1.toks) e3, turn_enum k p _ _, ⟨⟨_, by simpa using e1⟩, e2, Nat.succ_ne_self _⟩, fun b hb => ?_, q⟩
  have hb' : s1.heap.objs.size ≤ b := by
    rcases List.mem_cons.mp hb with z | z
    · rw [z]; exact Nat.le_succ _
    · rw [List.mem_singleton.mp z]; exact Nat.le_refl _
  exact I1.fpOk hb' (I1.hok.fresh hb')
/-- at a place: there, at the end, or beyond it -/
noncomputable def atEnd (ws : List W) (i : Nat) (f : W → W) : Option (Option W) := match ws[i]? with
  | some x => some (some (f x))
  | none => if ws.length = i then some none else none
noncomputable def enIt (w : W) (n : Nat) : Itx := ⟨fun A i => match seqOf w A with
  | some ws => atEnd ws i fun x => .tup [.int i, x]
  | none => none, n⟩
noncomputable def kindW (w : W) : Bool := match w with
  | .tup _ => false
  | _ => true
theorem seqV_now {K : PySem.W.Frag} {φ : List Addr} {A : Hx} {H : Hp} {w : W} {ws : List W} {v : V} (S : Sim K φ A H) (q : RV K φ H w v) (e : seqOf w A = some ws) : ∃ p ys, v = .ref p ∧ SqV (kindW w) K H p ys ∧ RVs K φ H ws ys := by
  cases w with
  | tup us => cases e; obtain ⟨a, vs, ea, t, r⟩ := q; exact ⟨a, vs, ea, t, r⟩
  | ref n =>
    obtain ⟨a, ea, f⟩ := q
    unfold seqOf at e
    dsimp only at e
    cases ec : A[n]? with
    | none => rw [ec] at e; cases e
    | some o =>
      rw [ec] at e
      obtain ⟨a', e3, r⟩ := S.ob n o ec
      rw [f] at e3; cases e3
      cases o with
      | lst xs => cases e; obtain ⟨ys', h1, h2⟩ := r; exact ⟨a, ys', ea, SqL.of h1, h2⟩
      | ro xs => cases e; obtain ⟨ys', h1, h2⟩ := r; exact ⟨a, ys', ea, h1.sq, h2⟩
      | dct xs => cases e
  | non => cases e
  | bl _ => cases e
  | int _ => cases e
  | str _ => cases e
/-- .. and at any later time -/
theorem seqV_later {K : PySem.W.Frag} {φ φ' : List Addr} {A' : Hx} {H H' : Hp} {w : W} {ws' : List W} {p : Addr} (q : RV K φ H w (.ref p)) (lw : LeW K φ H φ' H') (S' : Sim K φ' A' H') (e' : seqOf w A' = some ws') : ∃ ys', SqV (kindW w) K H' p ys' ∧ RVs K φ' H' ws' ys' := by
  obtain ⟨p', ys, ep, h1, h2⟩ := seqV_now S' (RV.monoW lw q) e'
  cases ep
  exact ⟨ys, h1, h2⟩
theorem en_ok {K : PySem.W.Frag} {φ : List Addr} {H : Hp} {w : W} {p : Addr} {n : Nat} (q : RV K φ H w (.ref p)) : ItR K φ H (enIt w n) (Ite (kindW w) K p) := fun i φ' H' A' lw S' => by
  unfold enIt
  dsimp only
  cases es : seqOf w A' with
  | none => exact ⟨fun _ z => (by cases z), fun z => (by cases z)⟩
  | some ws =>
    dsimp only
    obtain ⟨ys, h1, h2⟩ := seqV_later q lw S' es
    unfold atEnd
    cases ei : ws[i]? with
    | none =>
      dsimp only
      by_cases hl : ws.length = i
      · rw [if_pos hl]
        exact ⟨fun _ z => (by cases z), fun _ => ⟨ys, h1, by rw [← h2.length]; exact hl⟩⟩
      · rw [if_neg hl]
        exact ⟨fun _ z => (by cases z), fun z => (by cases z)⟩
    | some x =>
      dsimp only
      refine ⟨fun u z => ?_, fun z => (by cases z)⟩
      cases z
      obtain ⟨y, e1, e2⟩ := h2.get ei
      refine ⟨⟨ys, y, h1, e1⟩, fun xv H1 ⟨t, y', hy, ht, ex, eH⟩ => ?_⟩
      subst ex eH
      have := hy ys h1
      rw [e1] at this; cases this
      obtain ⟨a1, a2, a3⟩ := tupNew S' ht (.cons (w := .int i) (v := .int i) rfl (.one e2))
      exact ⟨a1, a2, a3⟩
noncomputable def mEnum (m : Ev) : Ei := fun ρ A => (m ρ A).bind fun w A1 => match seqOf w A1 with
  | some ws => .ok (enIt w ws.length) A1
  | none => .bad
theorem si_enum {elts : List Expr} {kk : Nat} {tpos p : Pos} (hg : Gl X "enumerate") (hm : X.mg "enumerate" = none) (ha : SE X xr a ma) (hs : starEach [a] X.env = [(false, eval a X.env)] := by rfl) : SI X xr (.Tuple elts kk tpos) (.Call (.Name "enumerate" p) [a] [] pos) (mEnum ma) :=
  PI.imp (pi_enum hg hm (pa_cons ha pa_nil (by rw [hs]; rfl)) hs) fun σ H Rr ⟨φ, A, ρ, S, re, h⟩ => by
    refine tM.go S re (post_bind.mp h) fun w A1 φ1 H1 v h1 l1 S1 q1 => ?_
    cases es : seqOf w A1 with
    | none => rw [es] at h1; exact h1.elim
    | some ws =>
      rw [es] at h1
      obtain ⟨p, ys, rfl, z1, z2⟩ := seqV_now S1 q1 es
      exact ⟨p, kindW w, ys, rfl, z1, h1 φ1 H1 _ l1 S1 (en_ok q1)⟩
end
end Mi
namespace Mi
open PySem PySem.Spec PyProof.Rows L2
/-! ### zip of two lists or tuples -/
section
variable {prog : Program} {w : World} {A : Around} {E : Value → Shared → Prop} {s : Shared} {z TI TO i1 i2 l1 l2 : Addr} {n1 n2 : Nat} {c1 c2 : Bool} {xs ys : Array Value} {x y a b : Value}
theorem zp_item {Q : Value → Shared → Prop} (D : ZipApart z TI TO i1 i2 l1 l2) (hz : IsZip s.heap z TI TO .none) (hTI : IsPair s.heap TI (.ref i1) (.ref i2)) (hTO : IsPair s.heap TO a b)
    (g1 : ItAt c1 s.heap i1 l1 n1) (g2 : ItAt c2 s.heap i2 l2 n2) (s1 : SqAt c1 s.heap l1 xs) (s2 : SqAt c2 s.heap l2 ys) (hx : xs[n1]? = some x) (hy : ys[n2]? = some y)
    (hQ : ∀ h', IsZip h' z TI TO (rawInt s.heap.objs.size) → IsPair h' TI (.ref i1) (.ref i2) → IsPair h' TO x y → ItAt c1 h' i1 l1 (n1 + 1) → ItAt c2 h' i2 l2 (n2 + 1) → IsPair h' s.heap.objs.size x y →
      (∀ c o, c ≠ z → c ≠ TO → c ≠ i1 → c ≠ i2 → s.heap.get? c = some o → h'.get? c = some o) → Q (.ref s.heap.objs.size) { s with heap := h' }) :
    wpAny (model prog w) A (Builtin.«zip.__next__» ⟨[.ref z], []⟩) (fun fin s' => ∃ v, fin = .done (.ret v) ∧ Q v s') E s := by
  show wpAny _ _ (field (.ref z) 2 >>= _) _ _ _; refine wpAny_bind (wpAny_field hz rfl (x := .bool false) rfl ?_)
  show wpAny _ _ (field (.ref z) 3 >>= _) _ _ _; refine wpAny_bind (wpAny_field hz rfl (x := .ref TI) rfl (wpAny_bind (wpAny_seqItems hTI rfl ?_)))
  show wpAny _ _ (Builtin.SmallTypes.ownedTupleIsFree (.ref z) >>= _) _ _ _; refine wpAny_bind ?_; unfold Builtin.SmallTypes.ownedTupleIsFree
  refine wpAny_bind (wpAny_field hz rfl (x := .none) rfl (wpAny_pure ?_)); simp only [if_true]; refine wpAny_bind (wpAny_rule (wpAny_bind (wpAny_field hz rfl (x := .ref TO) rfl ?_)))
  refine wpAny_bind (wpAny_setField_rec hz (by simp) fun ha za sa => ?_); replace za : IsZip ha z TI TO .ellipsis := za
  refine wpAny_bind ?_; simp only [List.zipIdx_cons, List.zipIdx_nil, List.forIn_cons, List.forIn_nil]
  refine wpAny_bind (wpAny_bind (wpAny_onRaise ?_)); show wpAny _ _ (Builtin.SmallTypes.nextOf (.ref i1) >>= _) _ _ _
  refine wpAny_bind (nx_item (g1.to fun o e => sa.extBut _ _ D.i1z e) (s1.to fun o e => sa.extBut _ _ D.l1z e) hx fun hb gb sb => wpAny_pure ?_)
  have tb : IsPair hb TO a b := sb.extBut _ _ D.TOi1 (sa.extBut _ _ D.TOz hTO)
  refine wpAny_bind (wpAny_seqItems tb rfl (wpAny_bind (wpAny_updateSeq_pair tb fun hc tc sc => wpAny_bind (wpAny_letGo (wpAny_pure ?_))))); replace tc : IsPair hc TO x b := tc
  refine wpAny_bind (wpAny_bind (wpAny_onRaise ?_)); show wpAny _ _ (Builtin.SmallTypes.nextOf (.ref i2) >>= _) _ _ _
  have up : ∀ c o, c ≠ z → c ≠ i1 → c ≠ TO → s.heap.get? c = some o → hc.get? c = some o := fun c o q1 q2 q3 e => sc.extBut _ _ q3 (sb.extBut _ _ q2 (sa.extBut _ _ q1 e))
  refine wpAny_bind (nx_item (g2.to fun o e => up _ o D.i2z D.i12.symm D.TOi2.symm e) (s2.to fun o e => up _ o D.l2z D.l2i1 D.l2TO e) hy fun hd gd sd => wpAny_pure ?_)
  have td : IsPair hd TO x b := sd.extBut _ _ D.TOi2 tc
  refine wpAny_bind (wpAny_seqItems td rfl (wpAny_bind (wpAny_updateSeq_pair td fun he te se => wpAny_bind (wpAny_letGo (wpAny_pure (wpAny_pure ?_)))))); replace te : IsPair he TO x y := te
  refine wpAny_bind (wpAny_seqItems te rfl (wpAny_bind (wpAny_newTuple ?_)))
  have hsz : he.objs.size = s.heap.objs.size := by rw [se.1, sd.1, sc.1, sb.1, sa.1]
  have ze : IsZip he z TI TO .ellipsis := se.extBut _ _ D.TOz.symm (sd.extBut _ _ D.i2z.symm (sc.extBut _ _ D.TOz.symm (sb.extBut _ _ D.i1z.symm za)))
  have ke : ∀ c o, c ≠ z → c ≠ TO → c ≠ i1 → c ≠ i2 → s.heap.get? c = some o → he.get? c = some o := fun c o q1 q2 q3 q4 e => se.extBut _ _ q2 (sd.extBut _ _ q4 (up c o q1 q3 q2 e))
  have ge1 : ItAt c1 he i1 l1 (n1 + 1) := ((gb.to fun o e => sc.extBut _ _ D.TOi1.symm e).to fun o e => sd.extBut _ _ D.i12 e).to fun o e => se.extBut _ _ D.TOi1.symm e
  have ge2 : ItAt c2 he i2 l2 (n2 + 1) := gd.to fun o e => se.extBut _ _ D.TOi2.symm e
  have zlt : z < he.objs.size := Heap.lt_size ze
  show wpAny _ _ (Builtin.SmallTypes.ownedTupleHandOut (.ref z) (.ref he.objs.size) >>= _) _ _ _; refine wpAny_bind ?_; unfold Builtin.SmallTypes.ownedTupleHandOut
  have zf : IsZip (he.push { cls := .type "tuple", data := .seq #[x, y] }) z TI TO .ellipsis := Heap.get?_push_of_some _ ze
  refine wpAny_bind (wpAny_setField_rec zf (by simp) fun hg zg sg => ?_); replace zg : IsZip hg z TI TO (rawInt he.objs.size) := zg
  refine wpAny_setField_rec zg (by simp) fun hk zk sk => ?_; replace zk : IsZip hk z TI TO (rawInt he.objs.size) := zk
  have fin : ∀ c o, c ≠ z → he.get? c = some o → hk.get? c = some o := fun c o q e => sk.extBut _ _ q (sg.extBut _ _ q (Heap.get?_push_of_some _ e))
  have tk : IsPair hk he.objs.size x y := sk.extBut _ _ (Nat.ne_of_gt zlt) (sg.extBut _ _ (Nat.ne_of_gt zlt) (Heap.get?_push_size _ rfl))
  rw [hsz] at zk tk
  refine wpAny_pure ⟨_, rfl, ?_⟩
  show Q (.ref he.objs.size) _; rw [hsz]
  exact hQ hk zk (fin _ _ D.TIz (ke _ _ D.TIz D.TITO D.TIi1 D.TIi2 hTI)) (fin _ _ D.TOz te) (ge1.to fun o e => fin _ o D.i1z e) (ge2.to fun o e => fin _ o D.i2z e) tk fun c o q1 q2 q3 q4 e => fin c o q1 (ke c o q1 q2 q3 q4 e)
theorem zp_end {Q : Fin → Shared → Prop} (hh : A.handled = none) (D : ZipApart z TI TO i1 i2 l1 l2) (hz : IsZip s.heap z TI TO .none) (hTI : IsPair s.heap TI (.ref i1) (.ref i2)) (hTO : IsPair s.heap TO a b)
    (g1 : ItAt c1 s.heap i1 l1 n1) (g2 : ItAt c2 s.heap i2 l2 n2) (s1 : SqAt c1 s.heap l1 xs) (s2 : SqAt c2 s.heap l2 ys) (hend : xs[n1]? = none ∨ ys[n2]? = none)
    (hE : ∀ h' e, (∀ c o, c ≠ z → c ≠ TO → c ≠ i1 → c ≠ i2 → s.heap.get? c = some o → h'.get? c = some o) → (∃ o, h'.get? e = some o ∧ o.cls = .type "StopIteration") → E (.ref e) { s with heap := h' }) :
    wpAny (model prog w) A (Builtin.«zip.__next__» ⟨[.ref z], []⟩) Q E s := by
  show wpAny _ _ (field (.ref z) 2 >>= _) _ _ _; refine wpAny_bind (wpAny_field hz rfl (x := .bool false) rfl ?_)
  show wpAny _ _ (field (.ref z) 3 >>= _) _ _ _; refine wpAny_bind (wpAny_field hz rfl (x := .ref TI) rfl (wpAny_bind (wpAny_seqItems hTI rfl ?_)))
  show wpAny _ _ (Builtin.SmallTypes.ownedTupleIsFree (.ref z) >>= _) _ _ _; refine wpAny_bind ?_; unfold Builtin.SmallTypes.ownedTupleIsFree
  refine wpAny_bind (wpAny_field hz rfl (x := .none) rfl (wpAny_pure ?_)); simp only [if_true]; refine wpAny_bind (wpAny_rule (wpAny_bind (wpAny_field hz rfl (x := .ref TO) rfl ?_)))
  refine wpAny_bind (wpAny_setField_rec hz (by simp) fun ha za sa => ?_); replace za : IsZip ha z TI TO .ellipsis := za
  refine wpAny_bind ?_; simp only [List.zipIdx_cons, List.zipIdx_nil, List.forIn_cons, List.forIn_nil]
  refine wpAny_bind (wpAny_bind (wpAny_onRaise ?_)); show wpAny _ _ (Builtin.SmallTypes.nextOf (.ref i1) >>= _) _ _ _
  have ga := g1.to (h' := ha) fun o e => sa.extBut _ _ D.i1z e
  have ya := s1.to (h' := ha) fun o e => sa.extBut _ _ D.l1z e
  cases hx : xs[n1]? with
  | none =>
    refine wpAny_bind (nx_end hh ga ya hx fun hb e sb he => ?_)
    obtain ⟨oe, hoe, hce⟩ := he
    have zb : IsZip hb z TI TO .ellipsis := sb _ _ D.i1z.symm za
    have hez : e ≠ z := fun q => by subst q; rw [zb] at hoe; cases hoe; simp at hce
    exact wpAny_setField_rec zb (by simp) fun hc _ sc => hE hc e (fun c o q1 _ q3 _ q => sc.extBut _ _ q1 (sb _ _ q3 (sa.extBut _ _ q1 q))) ⟨oe, sc.extBut _ _ hez hoe, hce⟩
  | some x =>
    have hy : ys[n2]? = none := by
      rcases hend with q | q
      · rw [hx] at q; cases q
      · exact q
    refine wpAny_bind (nx_item ga ya hx fun hb gb sb => wpAny_pure ?_)
    have tb : IsPair hb TO a b := sb.extBut _ _ D.TOi1 (sa.extBut _ _ D.TOz hTO)
    refine wpAny_bind (wpAny_seqItems tb rfl (wpAny_bind (wpAny_updateSeq_pair tb fun hc tc sc => wpAny_bind (wpAny_letGo (wpAny_pure ?_)))))
    refine wpAny_bind (wpAny_bind (wpAny_onRaise ?_)); show wpAny _ _ (Builtin.SmallTypes.nextOf (.ref i2) >>= _) _ _ _
    have up : ∀ c o, c ≠ z → c ≠ i1 → c ≠ TO → s.heap.get? c = some o → hc.get? c = some o := fun c o q1 q2 q3 e => sc.extBut _ _ q3 (sb.extBut _ _ q2 (sa.extBut _ _ q1 e))
    refine wpAny_bind (nx_end hh (g2.to fun o e => up _ o D.i2z D.i12.symm D.TOi2.symm e) (s2.to fun o e => up _ o D.l2z D.l2i1 D.l2TO e) hy fun hd e sd he => ?_)
    obtain ⟨oe, hoe, hce⟩ := he
    have zd : IsZip hd z TI TO .ellipsis := sd _ _ D.i2z.symm (sc.extBut _ _ D.TOz.symm (sb.extBut _ _ D.i1z.symm za))
    have hez : e ≠ z := fun q => by subst q; rw [zd] at hoe; cases hoe; simp at hce
    exact wpAny_setField_rec zd (by simp) fun hf _ sf => hE hf e (fun c o q1 q2 q3 q4 q => sf.extBut _ _ q1 (sd _ _ q4 (up c o q1 q3 q2 q))) ⟨oe, sf.extBut _ _ hez hoe, hce⟩
theorem zp_next {Q : Option Value → Shared → Prop} (D : ZipApart z TI TO i1 i2 l1 l2) (hz : IsZip s.heap z TI TO .none) (hTI : IsPair s.heap TI (.ref i1) (.ref i2)) (hTO : IsPair s.heap TO a b)
    (g1 : ItAt c1 s.heap i1 l1 n1) (g2 : ItAt c2 s.heap i2 l2 n2) (s1 : SqAt c1 s.heap l1 xs) (s2 : SqAt c2 s.heap l2 ys) (hx : xs[n1]? = some x) (hy : ys[n2]? = some y)
    (hQ : ∀ h', IsZip h' z TI TO (rawInt s.heap.objs.size) → IsPair h' TI (.ref i1) (.ref i2) → IsPair h' TO x y → ItAt c1 h' i1 l1 (n1 + 1) → ItAt c2 h' i2 l2 (n2 + 1) → IsPair h' s.heap.objs.size x y →
      (∀ c o, c ≠ z → c ≠ TO → c ≠ i1 → c ≠ i2 → s.heap.get? c = some o → h'.get? c = some o) → Q (some (.ref s.heap.objs.size)) { s with heap := h' }) : wpAny (model prog w) A (pyNext (.ref z)) Q E s := by
  have hT : s.TypeIs (.ref z) "zip" := ⟨_, hz, rfl⟩
  unfold pyNext
  exact wpAny_bind (wpAny_attempt (wpAny_callSpecial?_slot (name := Str.ofString "__next__") hT F.slot_zip_next (wpAny_call_entry F.slot_zip_next hT F.entry_zip_next
    (zp_item D hz hTI hTO g1 g2 s1 s2 hx hy fun h' q1 q2 q3 q4 q5 q6 q7 => wpAny_pure (hQ h' q1 q2 q3 q4 q5 q6 q7)) (F.args_zip_next_1 _))))
theorem zp_last {Q : Option Value → Shared → Prop} (hh : A.handled = none) (D : ZipApart z TI TO i1 i2 l1 l2) (hz : IsZip s.heap z TI TO .none) (hTI : IsPair s.heap TI (.ref i1) (.ref i2)) (hTO : IsPair s.heap TO a b)
    (g1 : ItAt c1 s.heap i1 l1 n1) (g2 : ItAt c2 s.heap i2 l2 n2) (s1 : SqAt c1 s.heap l1 xs) (s2 : SqAt c2 s.heap l2 ys) (hend : xs[n1]? = none ∨ ys[n2]? = none)
    (hQ : ∀ h', (∀ c o, c ≠ z → c ≠ TO → c ≠ i1 → c ≠ i2 → s.heap.get? c = some o → h'.get? c = some o) → Q none { s with heap := h' }) : wpAny (model prog w) A (pyNext (.ref z)) Q E s := by
  have hT : s.TypeIs (.ref z) "zip" := ⟨_, hz, rfl⟩
  unfold pyNext
  refine wpAny_bind (wpAny_attempt (wpAny_callSpecial?_slot (name := Str.ofString "__next__") hT F.slot_zip_next (wpAny_call_entry F.slot_zip_next hT F.entry_zip_next (zp_end hh D hz hTI hTO g1 g2 s1 s2 hend fun h' e hk he => ?_) (F.args_zip_next_1 _))))
  obtain ⟨o, ho, hc⟩ := he
  exact wpAny_bind (wpAny_isInstance (T := "StopIteration") (b := true) ⟨o, ho, hc⟩ isSubtype_stop (wpAny_pure (hQ _ hk)))
end
noncomputable abbrev zpH1 (h : Heap) (c1 : Bool) (l1 : Addr) : Heap := h.push { cls := .type (itCls c1), data := .fields #[.ref l1, .int 0 0] }
noncomputable abbrev zpH2 (h : Heap) (c1 c2 : Bool) (l1 l2 : Addr) : Heap := (zpH1 h c1 l1).push { cls := .type (itCls c2), data := .fields #[.ref l2, .int 0 0] }
noncomputable abbrev zpH3 (h : Heap) (c1 c2 : Bool) (l1 l2 : Addr) : Heap := (zpH2 h c1 c2 l1 l2).push { cls := .type "tuple", data := .seq #[.ref h.objs.size, .ref (zpH1 h c1 l1).objs.size] }
noncomputable abbrev zpH4 (h : Heap) (c1 c2 : Bool) (l1 l2 : Addr) : Heap := (zpH3 h c1 c2 l1 l2).push { cls := .type "tuple", data := .seq #[.none, .none] }
noncomputable abbrev zpH5 (h : Heap) (c1 c2 : Bool) (l1 l2 : Addr) : Heap := (zpH4 h c1 c2 l1 l2).push { cls := .type "zip", data := .fields #[.none, .bool false, .bool false, .ref (zpH2 h c1 c2 l1 l2).objs.size, .ref (zpH3 h c1 c2 l1 l2).objs.size] }
theorem meets_zip (c1 c2 : Bool) (l1 l2 : Addr) (xs ys : Array Value) :
    Meets (Builtin.«zip.__new__» ⟨[.type "zip", .ref l1, .ref l2], []⟩) (fun _ R s => SqAt c1 s.heap l1 xs ∧ SqAt c2 s.heap l2 ys ∧ R (.ok (.ret (.ref (zpH4 s.heap c1 c2 l1 l2).objs.size))) { s with heap := zpH5 s.heap c1 c2 l1 l2 }) :=
  .of_wp fun prog w A R s h => by
    obtain ⟨hp, g, d, tk, os⟩ := s; obtain ⟨q1, q2, h⟩ := h; have hsub := sub_zip
    have k1 : SqAt c1 (Shared.heap ⟨hp, g, d, tk, os⟩) l1 xs := q1
    have k2 : SqAt c2 (Shared.heap ⟨hp.push { cls := .type (itCls c1), data := .fields #[.ref l1, .int 0 0] }, g, d, tk, os⟩) l2 ys := q2.to fun o e => Heap.get?_push_of_some _ e
    wp_walk using nx_iter k1, nx_iter k2
    exact ⟨_, rfl, h⟩
section
variable {prog : Program} {w : World} {A : Around} {E : Value → Shared → Prop} {s : Shared} {c1 c2 : Bool} {l1 l2 : Addr} {xs ys : Array Value}
theorem call_zip {Q : Value → Shared → Prop} (s1 : SqAt c1 s.heap l1 xs) (s2 : SqAt c2 s.heap l2 ys)
    (h : ∀ h' n, n = s.heap.objs.size → IsZip h' (n + 4) (n + 2) (n + 3) .none → IsPair h' (n + 2) (.ref n) (.ref (n + 1)) → IsPair h' (n + 3) .none .none → ItAt c1 h' n l1 0 → ItAt c2 h' (n + 1) l2 0 →
      (∀ c o, s.heap.get? c = some o → h'.get? c = some o) → Q (.ref (n + 4)) { s with heap := h' }) : wpAny (model prog w) A (call (.type "zip") [.ref l1, .ref l2]) Q E s := by
  refine callType_new F.called_zip (by decide) (F.typeCall_zip_2 _ _) (F.newCall_zip_2 _ _) (fun obj => F.args_object_init_3 obj _ _) F.entry_zip_new (meets_zip c1 c2 l1 l2 xs ys) ⟨s1, s2, ?_⟩
  have z1 : (zpH1 s.heap c1 l1).objs.size = s.heap.objs.size + 1 := Heap.size_push ..
  have z2 : (zpH2 s.heap c1 c2 l1 l2).objs.size = s.heap.objs.size + 2 := by rw [Heap.size_push, z1]
  have z3 : (zpH3 s.heap c1 c2 l1 l2).objs.size = s.heap.objs.size + 3 := by rw [Heap.size_push, z2]
  have z4 : (zpH4 s.heap c1 c2 l1 l2).objs.size = s.heap.objs.size + 4 := by rw [Heap.size_push, z3]
  have y5 : (zpH5 s.heap c1 c2 l1 l2).get? (zpH4 s.heap c1 c2 l1 l2).objs.size = some _ := Heap.get?_push_size _ rfl
  have y4 : (zpH5 s.heap c1 c2 l1 l2).get? (zpH3 s.heap c1 c2 l1 l2).objs.size = some _ := Heap.get?_push_of_some _ (Heap.get?_push_size _ rfl)
  have y3 : (zpH5 s.heap c1 c2 l1 l2).get? (zpH2 s.heap c1 c2 l1 l2).objs.size = some _ := Heap.get?_push_of_some _ (Heap.get?_push_of_some _ (Heap.get?_push_size _ rfl))
  have y2 : (zpH5 s.heap c1 c2 l1 l2).get? (zpH1 s.heap c1 l1).objs.size = some _ := Heap.get?_push_of_some _ (Heap.get?_push_of_some _ (Heap.get?_push_of_some _ (Heap.get?_push_size _ rfl)))
  have y1 : (zpH5 s.heap c1 c2 l1 l2).get? s.heap.objs.size = some _ := Heap.get?_push_of_some _ (Heap.get?_push_of_some _ (Heap.get?_push_of_some _ (Heap.get?_push_of_some _ (Heap.get?_push_size _ rfl))))
  show _ ∧ _
  rw [z2, z3, z4] at y5
  rw [z1, z2] at y3
  rw [z3] at y4
  rw [z1] at y2
  rw [z4]
  exact ⟨⟨_, y5, rfl⟩, h _ _ rfl y5 y3 y4 (.mk ⟨_, y1, rfl, rfl⟩) (.mk ⟨_, y2, rfl, rfl⟩) fun c o q =>
    Heap.get?_push_of_some _ (Heap.get?_push_of_some _ (Heap.get?_push_of_some _ (Heap.get?_push_of_some _ (Heap.get?_push_of_some _ q))))⟩
end
end Mi
namespace Mi
open PySem PySem.Spec PyProof.Rows L2
noncomputable def Itz (c1 c2 : Bool) (K : PySem.W.Frag) (p q : Addr) : It :=
  ⟨fun i H => ∃ xs ys x y, SqV c1 K H p xs ∧ SqV c2 K H q ys ∧ xs[i]? = some x ∧ ys[i]? = some y,
   fun i H v H' => ∃ t x y, (∀ xs, SqV c1 K H p xs → xs[i]? = some x) ∧ (∀ ys, SqV c2 K H q ys → ys[i]? = some y) ∧ H t = none ∧ v = .ref t ∧ H' = upd H t (.tup [x, y]),
   fun i H => ∃ xs ys, SqV c1 K H p xs ∧ SqV c2 K H q ys ∧ (xs[i]? = none ∨ ys[i]? = none)⟩
theorem turn_zip {P : Program} {w : World} {K : PySem.W.Frag} {elts : List Expr} {kk : Nat} {tpos : Pos} (c1 c2 : Bool) (p q z TI TO i1 i2 : Addr) (D : ZipApart z TI TO i1 i2 p q) :
    Turn P w K (.Tuple elts kk tpos) (Itz c1 c2 K p q) [z, TI, TO, i1, i2] z (fun i h => IsZip h z TI TO .none ∧ IsPair h TI (.ref i1) (.ref i2) ∧ (∃ a b, IsPair h TO a b) ∧ ItAt c1 h i1 p i ∧ ItAt c2 h i2 q i) where
  mem := by simp
  obj := fun i h st b hb => by
    obtain ⟨hz, hTI, ⟨a', b', hTO⟩, g1, g2⟩ := st
    simp only [List.mem_cons, List.not_mem_nil, or_false] at hb
    rcases hb with rfl | rfl | rfl | rfl | rfl
    · exact ⟨_, hz, fun v e => nomatch e⟩
    · exact ⟨_, hTI, fun v e => nomatch e⟩
    · exact ⟨_, hTO, fun v e => nomatch e⟩
    · obtain ⟨o, ho, _, hd⟩ := g1.ob; exact ⟨o, ho, fun v e => by rw [hd] at e; cases e⟩
    · obtain ⟨o, ho, _, hd⟩ := g2.ob; exact ⟨o, ho, fun v e => by rw [hd] at e; cases e⟩
  keep := fun i h h' ⟨hz, hTI, ⟨a', b', hTO⟩, g1, g2⟩ k => ⟨k z (by simp) _ hz, k TI (by simp) _ hTI, ⟨a', b', k TO (by simp) _ hTO⟩, g1.to fun o e => k i1 (by simp) o e, g2.to fun o e => k i2 (by simp) o e⟩
  item := by
    intro X hP hw hK hc i pins s σ H E I hf st hg; subst hP hw hK
    obtain ⟨hz, hTI, ⟨a', b', hTO⟩, g1, g2⟩ := st
    obtain ⟨xs, ys, x, y, h1, h2, ex, ey⟩ := hg
    obtain ⟨its1, r1, sq1, _⟩ := I.sq h1
    obtain ⟨its2, r2, sq2, _⟩ := I.sq h2
    obtain ⟨u1, eu1, ru1⟩ := r1.get ex
    obtain ⟨u2, eu2, ru2⟩ := r2.get ey
    refine zp_next D hz hTI hTO g1 g2 sq1 sq2 (x := u1) (y := u2) (by simpa using eu1) (by simpa using eu2) fun hh z1 z2 z3 z4 z5 z6 kp => ?_
    refine ⟨_, rfl, wpAny_letOwnedTupleGo_zip z1 fun hk zk sk => ?_⟩
    have lt : ∀ {c o}, s.heap.get? c = some o → c ≠ s.heap.objs.size := fun e => Nat.ne_of_lt (Heap.lt_size e)
    have T2 : IsPair hk s.heap.objs.size u1 u2 := sk.extBut _ _ (lt hz).symm z6
    have fre : ∀ b ∈ [z, TI, TO, i1, i2], b ≠ s.heap.objs.size := fun b hb => by
      simp only [List.mem_cons, List.not_mem_nil, or_false] at hb
      rcases hb with rfl | rfl | rfl | rfl | rfl
      · exact lt hz
      · exact lt hTI
      · exact lt hTO
      · obtain ⟨o, ho, _⟩ := g1.ob; exact lt ho
      · obtain ⟨o, ho, _⟩ := g2.ob; exact lt ho
    refine ⟨.ref s.heap.objs.size, upd H s.heap.objs.size (.tup [x, y]), ?_, rfl, ⟨s.heap.objs.size, x, y, fun zs hzs => by rw [I.sq_inj hzs h1]; exact ex, fun zs hzs => by rw [I.sq_inj hzs h2]; exact ey, I.hok.fresh (Nat.le_refl _), rfl, rfl⟩,
      ⟨zk, sk.extBut _ _ D.TIz z2, ⟨_, _, sk.extBut _ _ D.TOz z3⟩, z4.to fun o e => sk.extBut _ _ D.i1z e, z5.to fun o e => sk.extBut _ _ D.i2z e⟩, fun b hb => ?_⟩
    · refine I.spun (fp := [z, TI, TO, i1, i2]) (t' := s.toks) (fun b o hb eo => ?_) hf (Nat.le_refl _) ?_
      · exact sk.extBut _ _ (fun e => hb (by simp [e])) (kp b o (fun e => hb (by simp [e])) (fun e => hb (by simp [e])) (fun e => hb (by simp [e])) (fun e => hb (by simp [e])) eo)
      · exact ⟨by show 2 ≤ sizeLine; decide, [u1, u2], .cons ru1 (.cons ru2 .nil), _, T2, ⟨rfl, rfl⟩, 0, rfl⟩
    · show upd H s.heap.objs.size _ b = none
      rw [upd_ne (fre b hb)]; exact (hf b hb).1
  done := by
    intro X hP hw hK hc i pins s σ H E I hf st hg; subst hP hw hK
    obtain ⟨hz, hTI, ⟨a', b', hTO⟩, g1, g2⟩ := st
    obtain ⟨xs, ys, h1, h2, hend⟩ := hg
    obtain ⟨its1, r1, sq1, _⟩ := I.sq h1
    obtain ⟨its2, r2, sq2, _⟩ := I.sq h2
    have hend' : its1.toArray[i]? = none ∨ its2.toArray[i]? = none := by
      rcases hend with e | e
      · exact .inl (by simpa using r1.none_of e)
      · exact .inr (by simpa using r2.none_of e)
    exact zp_last (I.ok.hd hc) D hz hTI hTO g1 g2 sq1 sq2 hend' fun hh kp => ⟨rfl, I.spun0 (fp := [z, TI, TO, i1, i2]) (t' := s.toks) (fun b o hb eo => kp b o (fun e => hb (by simp [e])) (fun e => hb (by simp [e])) (fun e => hb (by simp [e])) (fun e => hb (by simp [e])) eo) hf⟩
  self := fun _ _ _ _ _ st h => wpAny_pyIter_zip st.1 h
section
variable {X : Cx} {xr : XR} {e a b : Expr} {m ma mb : Ev} {pos : Pos}
noncomputable def iZip (K : PySem.W.Frag) (ta : TA) : TI := fun σ H R => ta σ H fun vs H1 => ∃ p q c1 c2 xs ys, vs = [.ref p, .ref q] ∧ SqV c1 K H1 p xs ∧ SqV c2 K H1 q ys ∧ R (Itz c1 c2 K p q) H1
theorem pi_zip {elts : List Expr} {kk : Nat} {tpos p : Pos} {ta : TA} (hg : Gl X "zip") (hm : X.mg "zip" = none) (ha : PA X [a, b] ta) (hs : starEach [a, b] X.env = (false, eval a X.env) :: starEach [b] X.env) (hp : (backTo pos (starEach [b] X.env)).any (·.1) = false) :
    PI X (.Tuple elts kk tpos) (.Call (.Name "zip" p) [a, b] [] pos) (iZip X.K ta) := by
  intro pins s σ H R I h
  refine Call_ (ld_blt I hg hm boot_zip (PyProof.Rows.callWith_type1 (thn (ha pos pins s σ H _ I h) fun us s1 ⟨vs, H1, I1, r1, q1⟩ => ?_) hs hp))
  obtain ⟨p, q, c1, c2, xs, ys, rfl, h1, h2, hR⟩ := q1
  obtain ⟨u1, u2, rfl, ru1, ru2⟩ := r1.two
  cases ru1; cases ru2
  obtain ⟨its1, rv1, sq1, _⟩ := I1.sq h1
  obtain ⟨its2, rv2, sq2, _⟩ := I1.sq h2
  obtain ⟨op, hop, _⟩ := sq1.ob
  obtain ⟨oq, hoq, _⟩ := sq2.ob
  have lp : p < s1.heap.objs.size := Heap.lt_size hop
  have lq : q < s1.heap.objs.size := Heap.lt_size hoq
  refine call_zip sq1 sq2 fun h' n en z1 z2 z3 z4 z5 kp => wpAny_pyIter_zip z1 ?_
  rw [← en] at lp lq
  have ne1 : ∀ (i j : Nat), i ≠ j → n + i ≠ n + j := fun i j h e => h (Nat.add_left_cancel e)
  have ne2 : ∀ (c : Nat) (i : Nat), c < n → c ≠ n + i := fun c i h e => absurd h (by rw [e]; exact Nat.not_lt.mpr (Nat.le_add_right n i))
  have D : ZipApart (n + 4) (n + 2) (n + 3) (n + 0) (n + 1) p q := ⟨ne1 2 4 (by decide), ne1 3 4 (by decide), ne1 0 4 (by decide), ne1 1 4 (by decide), ne1 2 3 (by decide), ne1 2 0 (by decide), ne1 2 1 (by decide), ne1 3 0 (by decide), ne1 3 1 (by decide), ne1 0 1 (by decide),
    ne2 p 4 lp, ne2 p 3 lp, ne2 p 0 lp, ne2 p 1 lp, ne2 q 4 lq, ne2 q 3 lq, ne2 q 0 lq, ne2 q 1 lq⟩
  refine ⟨n + 4, [n + 4, n + 2, n + 3, n, n + 1], _, _, H1, rfl, I1.kept (t' := s1.toks) kp, turn_zip c1 c2 p q _ _ _ _ _ D, ⟨z1, z2, ⟨_, _, z3⟩, z4, z5⟩, fun c hc => ?_, hR⟩
  have hc' : s1.heap.objs.size ≤ c := by
    rw [← en]
    simp only [List.mem_cons, List.not_mem_nil, or_false] at hc
    rcases hc with rfl | rfl | rfl | rfl | rfl
    · exact Nat.le_add_right _ _
    · exact Nat.le_add_right _ _
    · exact Nat.le_add_right _ _
    · exact Nat.le_refl _
    · exact Nat.le_add_right _ _
  exact I1.fpOk hc' (I1.hok.fresh hc')
noncomputable def zip2 : Option W → Option W → Option W
  | some x, some y => some (.tup [x, y])
  | _, _ => none
noncomputable def ziIt (w w' : W) (n : Nat) : Itx := ⟨fun A i => match seqOf w A, seqOf w' A with
  | some us, some vs => some (zip2 us[i]? vs[i]?)
  | _, _ => none, n⟩
theorem zi_ok {K : PySem.W.Frag} {φ : List Addr} {H : Hp} {w w' : W} {p p' : Addr} {n : Nat} (q : RV K φ H w (.ref p)) (q' : RV K φ H w' (.ref p')) : ItR K φ H (ziIt w w' n) (Itz (kindW w) (kindW w') K p p') := fun i φ' H' A' lw S' => by
  unfold ziIt
  dsimp only
  cases es : seqOf w A' with
  | none => exact ⟨fun _ z => (by cases z), fun z => (by cases z)⟩
  | some us =>
    cases es' : seqOf w' A' with
    | none => exact ⟨fun _ z => (by cases z), fun z => (by cases z)⟩
    | some vs =>
      dsimp only
      obtain ⟨xs, h1, h2⟩ := seqV_later q lw S' es
      obtain ⟨ys, h3, h4⟩ := seqV_later q' lw S' es'
      have non : ∀ {us : List W} {xs : List V}, RVs K φ' H' us xs → us[i]? = none → xs[i]? = none := fun r e => by
        rw [List.getElem?_eq_none_iff] at e ⊢; rw [← r.length]; exact e
      cases e1 : us[i]? with
      | none => exact ⟨fun _ z => (by cases z), fun _ => ⟨xs, ys, h1, h3, .inl (non h2 e1)⟩⟩
      | some x =>
        cases e2 : vs[i]? with
        | none => exact ⟨fun _ z => (by cases z), fun _ => ⟨xs, ys, h1, h3, .inr (non h4 e2)⟩⟩
        | some y =>
          refine ⟨fun u z => ?_, fun z => (by cases z)⟩
          cases z
          obtain ⟨vx, f1, f2⟩ := h2.get e1
          obtain ⟨vy, f3, f4⟩ := h4.get e2
          refine ⟨⟨xs, ys, vx, vy, h1, h3, f1, f3⟩, fun xv H1 ⟨t, x', y', hx, hy, ht, ex, eH⟩ => ?_⟩
          subst ex eH
          have g1 := hx xs h1
          have g2 := hy ys h3
          rw [f1] at g1; cases g1
          rw [f3] at g2; cases g2
          obtain ⟨a1, a2, a3⟩ := tupNew S' ht (.cons f2 (.one f4))
          exact ⟨a1, a2, a3⟩
noncomputable def mZip (m m' : Ev) : Ei := fun ρ A => (m ρ A).bind fun w A1 => (m' ρ A1).bind fun w' A2 => match seqOf w A2, seqOf w' A2 with
  | some us, some _ => .ok (ziIt w w' us.length) A2
  | _, _ => .bad
theorem si_zip {elts : List Expr} {kk : Nat} {tpos p : Pos} (hg : Gl X "zip") (hm : X.mg "zip" = none) (ha : SE X xr a ma) (hb : SE X xr b mb) (hs : starEach [a, b] X.env = (false, eval a X.env) :: starEach [b] X.env := by rfl) (hs2 : starEach [b] X.env = (false, eval b X.env) :: starEach [] X.env := by rfl) (hp : (backTo pos (starEach [b] X.env)).any (·.1) = false := by rfl) :
    SI X xr (.Tuple elts kk tpos) (.Call (.Name "zip" p) [a, b] [] pos) (mZip ma mb) :=
  PI.imp (pi_zip hg hm (pa_cons ha (pa_cons hb pa_nil hs2) hs) hs hp) fun σ H Rr ⟨φ, A, ρ, S, re, h⟩ => by
    refine tM.go S re (post_bind.mp h) fun w A1 φ1 H1 v h1 l1 S1 q1 => ?_
    refine tM.go S1 (re.mono l1) (post_mono (post_bind.mp h1) (fun _ _ z => z) fun _ _ z => z.mono l1) fun w2 A2 φ2 H2 v2 h2 l2 S2 q2 => ?_
    cases es : seqOf w A2 with
    | none => rw [es] at h2; exact h2.elim
    | some us =>
      cases es' : seqOf w2 A2 with
      | none => rw [es, es'] at h2; exact h2.elim
      | some vs =>
        rw [es, es'] at h2
        have q1' := q1.mono l2
        obtain ⟨p, xs, rfl, z1, z2⟩ := seqV_now S2 q1' es
        obtain ⟨p', ys, rfl, z3, z4⟩ := seqV_now S2 q2 es'
        exact ⟨p, p', kindW w, kindW w2, xs, ys, rfl, z1, z3, h2 φ2 H2 _ (l1.trans l2) S2 (zi_ok q1' q2)⟩
end
end Mi
namespace Mi
open PySem PySem.Spec PyProof.Rows L2
section
variable {X : Cx} {xr : XR} {K : PySem.W.Frag} {e a b c : Expr} {m ma mb mc : Ev} {pos : Pos}
/-! ### {} , d[k], d.setdefault(k, v) -/
noncomputable def mDct : Ev := fun _ A => .ok (.ref A.length) (A ++ [.dct []])
theorem se_dct : SE X xr (.Dict [] [] pos) mDct := PE.imp pe_dnewK fun σ H Q ⟨φ, A, ρ, S, re, h⟩ p hp => by
  obtain ⟨l, S'⟩ := S.alloc (o := .dct []) hp (u := .dK []) ⟨[], upd_same, rfl, .nil⟩
  exact h _ _ _ l S' ⟨p, rfl, by rw [← S.len]; simp⟩
noncomputable def keyW : W → Option Key
  | .int i => some (.inl i)
  | _ => none
noncomputable def valK (k : Key) : List (Key × W) → Option W
  | [] => none
  | (j, w) :: r => if j = k then some w else valK k r
theorem valK_read {φ : List Addr} {H : Hp} (k : Key) : ∀ {kvs : List (Key × W)} {us : List (Key × V)}, us.map (·.1) = kvs.map (·.1) → RVs K φ H (kvs.map (·.2)) (us.map (·.2)) →
    (∀ w, valK k kvs = some w → ∃ v, valV us k = some v ∧ RV K φ H w v) ∧ (valK k kvs = none → valV us k = none)
  | [], [], _, _ => ⟨fun w h => (by cases h), fun _ => rfl⟩
  | [], _ :: _, h, _ => by simp at h
  | _ :: _, [], h, _ => by simp at h
  | (j, w) :: kvs, (j', v) :: us, h, r => by
    simp only [List.map_cons, List.cons.injEq] at h
    obtain ⟨v', rr, e, h1, h2⟩ := r
    simp only [List.map_cons, List.cons.injEq] at e
    obtain ⟨rfl, rfl⟩ := e
    have ih := valK_read k h.2 h2
    have hj : j' = j := h.1
    subst hj
    by_cases hk : j' = k
    · refine ⟨fun w' hw => ⟨v, valV_pos hk, ?_⟩, fun hn => ?_⟩
      · unfold valK at hw; rw [if_pos hk] at hw; cases hw; exact h1
      · unfold valK at hn; rw [if_pos hk] at hn; cases hn
    · unfold valK
      rw [if_neg hk, valV_neg (p := (j', v)) hk]
      exact ih
theorem Sim.dct {φ : List Addr} {A : Hx} {H : Hp} {n : Nat} {kvs : List (Key × W)} {v : V} (S : Sim K φ A H) (q : RV K φ H (.ref n) v) (e : A[n]? = some (.dct kvs)) : ∃ p us, v = .ref p ∧ φ[n]? = some p ∧ H p = some (.dK us) ∧ us.map (·.1) = kvs.map (·.1) ∧ RVs K φ H (kvs.map (·.2)) (us.map (·.2)) := by
  obtain ⟨p, rfl, h1⟩ := q
  obtain ⟨p', h2, us, h3, h4, h5⟩ := S.ob n _ e
  rw [h1] at h2; cases h2
  exact ⟨p, us, rfl, h1, h3, h4, h5⟩
noncomputable def gDget : W → W → Hx → R W := fun d k A => match d, keyW k with
  | .ref n, some k => match A[n]? with
    | some (.dct kvs) => match valK k kvs with
      | some w => .ok w A
      | none => .bad
    | _ => .bad
  | _, _ => .bad
theorem se_dgetK {k : Nat} (hr : Room k X.A) (ha : SE X xr a ma) (hb : SE X xr b mb) (hs : NoSl b := by intro _ _; rfl) : SE X xr (.Subscript a b pos) (mBin gDget ma mb) :=
  PE.imp (pe_dget (hu_of hr) ha hb hs) fun σ H Q ⟨φ, A, ρ, S, re, h⟩ => by
    refine tM.go S re (post_bind.mp h) fun w A1 φ1 H1 v h1 l1 S1 q1 => ?_
    refine tM.go S1 (re.mono l1) (post_mono (post_bind.mp h1) (fun _ _ z => z) fun _ _ z => z.mono l1) fun w2 A2 φ2 H2 v2 h2 l2 S2 q2 => ?_
    unfold gDget at h2
    cases w with
    | ref n =>
      cases w2 with
      | int i =>
        obtain rfl := q2
        dsimp only [keyW] at h2
        cases e1 : A2[n]? with
        | none => rw [e1] at h2; exact h2.elim
        | some o => cases o with
          | dct kvs =>
            rw [e1] at h2
            dsimp only at h2
            obtain ⟨p, us, rfl, f1, g1, g2, g3⟩ := S2.dct (q1.mono l2) e1
            cases e2 : valK (.inl i) kvs with
            | none => rw [e2] at h2; exact h2.elim
            | some w =>
              rw [e2] at h2
              obtain ⟨v, hv, rv⟩ := (valK_read (.inl i) g2 g3).1 w e2
              refine ⟨p, v, rfl, ?_, h2 φ2 H2 v (l1.trans l2) S2 rv⟩
              rw [← hv]
              exact DGet.k (k := .inl i) g1
          | _ => rw [e1] at h2; exact h2.elim
      | _ => exact h2.elim
    | _ => exact h2.elim
noncomputable def rSetdef : V → List V → Hp → VK → Prop := fun x vs H Q => ∃ p us k d, x = .ref p ∧ vs = [kV k, d] ∧ H p = some (.dK us) ∧ us.length < sizeLine ∧ (∀ v, valV us k = some v → Q v H) ∧ (valV us k = none → Q d (upd H p (.dK (putK us k d))))
theorem mt_setdef : MtR X "dict.setdefault" rSetdef := by
  intro pins s σ H x vs v us Q I rx rv h
  obtain ⟨p, kvs, k, d, rfl, rfl, hp, hl, q1, q2⟩ := h
  cases rx
  obtain ⟨u1, u2, rfl, r1, r2⟩ := rv.two
  obtain ⟨z, hd, ws, rel, dd⟩ := dk_of I.hok hp
  refine call_meetsIn PySem.F.slot_dict_setdefault dd.typeIs PySem.F.entry_dict_setdefault (PySem.F.args_dict_setdefault_3 _ _ _) (kt_meets_setdefault (mixKind X.prog X.w) p (kV_is r1) hd u2) ⟨ws, dd, by rw [← rel.length]; exact z, fun v hv => ?_, fun hn h' dd' hs => ?_⟩
  · have rr := rel.val k
    rw [hv] at rr
    cases e : valV kvs k with
    | none => rw [e] at rr; exact rr.elim
    | some v' => rw [e] at rr; exact ⟨v', H, I.tok _, rr, q1 v' e⟩
  · have rr := rel.val k
    rw [hn] at rr
    cases e : valV kvs k with
    | some v' => rw [e] at rr; exact rr.elim
    | none =>
      have hl' : (putK kvs k d).length ≤ sizeLine := by have := length_putK kvs k d; omega
      have he : ∃ q, h'.get? p = some q := let ⟨q, _, _, hq, _⟩ := dd'; ⟨q, hq⟩
      exact ⟨d, _, d_write I (by rw [hp]; exact True.intro) hs he (dk_new hl' hd (rel.put k r2) dd'), r2, q2 e⟩
noncomputable def isD (x : W) (A : Hx) : Bool := match x with
  | .ref n => match A[n]? with
    | some (.dct _) => true
    | _ => false
  | _ => false
noncomputable def gSetdef : W → W → W → Hx → R W := fun d k v A => match d, keyW k with
  | .ref n, some k => match A[n]? with
    | some (.dct kvs) => if kvs.length < cpMost then (match valK k kvs with
      | some w => .ok w A
      | none => .ok v (A.set n (.dct (kvs ++ [(k, v)])))) else .bad
    | _ => .bad
  | _, _ => .bad
noncomputable def mMeth2 (g : W → W → W → Hx → R W) (a b c : Ev) : Ev := fun ρ A => (a ρ A).bind fun x A1 => if isD x A1 then (b ρ A1).bind fun y A2 => (c ρ A2).bind fun z A3 => g x y z A3 else .bad
theorem isD_read {φ : List Addr} {A : Hx} {H : Hp} {w : W} {v : V} (S : Sim K φ A H) (q : RV K φ H w v) (e : isD w A = true) : tyV K "dict" v H := by
  unfold isD at e
  cases w with
  | ref n =>
    dsimp only at e
    cases e1 : A[n]? with
    | none => rw [e1] at e; cases e
    | some o => cases o with
      | dct ws => obtain ⟨p, us, rfl, _, h, _⟩ := S.dct q e1; exact .inr (.inr (.inl ⟨rfl, .inl ⟨us, h⟩⟩))
      | _ => rw [e1] at e; cases e
  | _ => cases e
theorem se_setdef {apos cpos : Pos} (ho : SE X xr a ma) (he : SE X xr b mb) (hf : SE X xr c mc) (h1 : starEach [b, c] X.env = (false, eval b X.env) :: starEach [c] X.env := by rfl) (h2 : starEach [c] X.env = (false, eval c X.env) :: starEach [] X.env := by rfl)
    (hbase : attributeBase a "setdefault" X.env (eval a X.env) = eval a X.env := by rfl)
    (hfew : ((backTo cpos (starEach [b, c] X.env)).all (fun x => !x.1) && (backToKw cpos (keywordEach [] X.env)).all (fun x => x.1.isSome)
      && decide ([b, c].length + ([] : List Keyword).length + (if ([] : List Keyword).isEmpty then 0 else 1) < 30)) = true := by rfl) (hline : (apos.endLine == cpos.line) = true := by rfl) (hpl : (backTo cpos (starEach [c] X.env)).any (·.1) = false := by rfl) :
    SE X xr (.Call (.Attribute a "setdefault" apos) [b, c] [] cpos) (mMeth2 gSetdef ma mb mc) :=
  PE.imp (pe_bm PySem.F.plainAttrs_dict PySem.F.slot_dict_setdefault PySem.F.type_dict_setdefault mt_setdef ho (pa_cons he (pa_cons hf pa_nil h2) h1) hbase hfew hline h1 hpl) fun σ H Q ⟨φ, A, ρ, S, re, h⟩ => by
    refine tM.go S re (post_bind.mp h) fun w A1 φ1 H1 v h1 l1 S1 q1 => ?_
    by_cases hd : isD w A1 = true
    · rw [if_pos hd] at h1
      refine ⟨isD_read S1 q1 hd, ?_⟩
      refine tM.go S1 (re.mono l1) (post_mono (post_bind.mp h1) (fun _ _ z => z) fun _ _ z => z.mono l1) fun w2 A2 φ2 H2 v2 h2 l2 S2 q2 => ?_
      have l02 := l1.trans l2
      refine tM.go S2 (re.mono l02) (post_mono (post_bind.mp h2) (fun _ _ z => z) fun _ _ z => z.mono l02) fun w3 A3 φ3 H3 v3 h3 l3 S3 q3 => ?_
      have l03 := l02.trans l3
      unfold gSetdef at h3
      cases w with
      | ref n => cases w2 with
        | int i =>
          obtain rfl := q2
          dsimp only [keyW] at h3
          cases e1 : A3[n]? with
          | none => rw [e1] at h3; exact h3.elim
          | some o => cases o with
            | dct kvs =>
              rw [e1] at h3
              dsimp only at h3
              obtain ⟨p, us, rfl, f1, g1, g2, g3⟩ := S3.dct ((q1.mono l2).mono l3) e1
              have hlen : us.length = kvs.length := by have := congrArg List.length g2; simpa using this
              by_cases hz : kvs.length < cpMost
              · rw [if_pos hz] at h3
                have rd := valK_read (.inl i) g2 g3
                refine ⟨p, us, .inl i, v3, rfl, rfl, g1, ?_, fun v' hv => ?_, fun hn => ?_⟩
                · rw [hlen]
                  have : sizeLine = 16777216 := sizeLine_eq
                  unfold cpMost at hz
                  omega
                · cases e2 : valK (.inl i) kvs with
                  | none => rw [rd.2 e2] at hv; cases hv
                  | some w' =>
                    rw [e2] at h3
                    obtain ⟨v'', hv2, rv⟩ := rd.1 w' e2
                    rw [hv] at hv2; cases hv2
                    exact h3 φ3 H3 _ l03 S3 rv
                · cases e2 : valK (.inl i) kvs with
                  | some w' => obtain ⟨v'', hv2, rv⟩ := rd.1 w' e2; rw [hn] at hv2; cases hv2
                  | none =>
                    rw [e2] at h3
                    dsimp only at h3
                    rw [putK_new v3 hn]
                    have ln : Le X.K φ3 H3 φ3 (upd H3 p (.dK (us ++ [(.inl i, v3)]))) := Le.upd f1 (fun xs z => by rw [g1] at z; cases z) (fun _ _ z => by rw [g1] at z; cases z)
                    obtain ⟨w1, w2⟩ := S3.write (o := .dct kvs) (o' := .dct (kvs ++ [(.inl i, w3)])) e1 rfl rfl f1 (u := .dK (us ++ [(.inl i, v3)])) ⟨us ++ [(.inl i, v3)], upd_same, by simp [g2], by
                      rw [List.map_append, List.map_append]
                      exact (g3.mono ln).append (.one (q3.mono ln))⟩
                    exact h3 _ _ _ (l03.trans w1) w2 (q3.mono w1)
              · rw [if_neg hz] at h3; exact h3.elim
            | _ => rw [e1] at h3; exact h3.elim
        | _ => exact h3.elim
      | _ => exact h3.elim
    · rw [if_neg hd] at h1; exact h1.elim
end
end Mi
namespace Mi
open PySem PySem.Spec PyProof.Rows L2
/-! ### d.items() of a new dict that is frozen for the walk -/
noncomputable def Itd (d : Addr) (o : Obj) (us : List (Key × V)) : It :=
  ⟨fun i H => H d = some (.frz o (.dK us)) ∧ i < us.length, fun i H x H' => ∃ t p, us[i]? = some p ∧ H t = none ∧ x = .ref t ∧ H' = upd H t (.tup [kV p.1, p.2]), fun i H => H d = some (.frz o (.dK us)) ∧ us[i]? = none⟩
theorem kV_rel {P : Program} {w : World} {k : Key} {u : Value} (h : (mixKind P w).is k u = true) : RelV (kV k) u := by
  rw [mixKind_is] at h
  rcases keyIs_shape h with ⟨i, t, rfl, rfl⟩ | ⟨x, t, rfl, rfl⟩
  · exact ⟨t, rfl⟩
  · exact ⟨t, rfl⟩
theorem KV.at : ∀ {us : List (Key × V)} {vs : List (Key × Value)} {i : Nat} {p : Key × V}, KV us vs → us[i]? = some p → ∃ u, vs[i]? = some (p.1, u) ∧ RelV p.2 u
  | [], _, _, _, _, e => by simp at e
  | q :: us, _, 0, p, .cons (b := b) r t, e => by
    simp at e; subst e
    exact ⟨b.2, by simp only [List.getElem?_cons_zero]; rw [r.1], r.2⟩
  | q :: us, _, i + 1, p, .cons r t, e => by
    obtain ⟨u, h1, h2⟩ := KV.at (i := i) (p := p) t (by simpa using e)
    exact ⟨u, by simpa using h1, h2⟩
section
variable {X : Cx} {pins : List (Addr × Obj)} {σ : St} {H : Hp} {s : Shared}
/-- a frozen dict, as it stands -/
theorem _root_.L2.Inv.frzD {d : Addr} {o : Obj} {us : List (Key × V)} {ep : Nat} (I : Inv X pins σ H s) (h : H d = some (.frz o (.dK us))) (hep : ∃ es, o.data = .dict es ep) : ∃ vs, KV us vs ∧ s.heap.DictAt (mixKind X.prog X.w) d vs ep := by
  obtain ⟨ho, z, hd, vs, rel, dd⟩ := I.hok d _ h
  obtain ⟨ep', o', es', h1, h2, h3, r⟩ := dd.dictAt
  rw [ho] at h1; cases h1
  obtain ⟨es, he⟩ := hep
  have h4 := h3
  rw [he] at h4
  injection h4 with e1 e2
  subst e2
  exact ⟨vs, rel, o, es', ho, h2, h3, r⟩
end
theorem entry_ii : entryFor table "dict_itemiterator.__iter__" = some Builtin.«dict_keyiterator.__iter__» := entryFor_alias (id' := "dict_keyiterator.__iter__") (by kernel_rfl)
  (by first | rfl | decide +kernel | (unfold String.splitOn; simp +decide [String.splitOnAux])) (by decide +kernel) (by kernel_rfl)
theorem turn_items {P : Program} {w : World} {K : PySem.W.Frag} {elts : List Expr} {kk : Nat} {tpos : Pos} (d it : Addr) (o : Obj) (us : List (Key × V)) (ep : Nat) (hep : ∃ es, o.data = .dict es ep) :
    Turn P w K (.Tuple elts kk tpos) (Itd d o us) [it] it (fun i h => ∃ ok ov, IsItemIter h it d i us.length ep ok ov) where
  mem := by simp
  obj := fun i h ⟨ok, ov, st⟩ b hb => by
    rw [List.mem_singleton.mp hb]
    exact ⟨_, st, fun v e => nomatch e⟩
  keep := fun i h h' ⟨ok, ov, st⟩ k => ⟨ok, ov, k it (by simp) _ st⟩
  item := by
    intro X hP hw hK hc i pins s σ H E I hf st hg; subst hP hw hK
    obtain ⟨ok, ov, st⟩ := st
    obtain ⟨hd, hi⟩ := hg
    obtain ⟨vs, rel, da⟩ := I.frzD hd hep
    obtain ⟨u, hu, ru⟩ := KV.at rel (i := i) (p := us[i]) (by simp [hi])
    have st' : IsItemIter s.heap it d i vs.length ep ok ov := by rw [← rel.length]; exact st
    refine wpAny_pyNext_items_item st' da hu fun key h1 hkey ho hT hsz kp => ⟨_, rfl, wpAny_letOwnedTupleGo_items ho fun h2 he2 hs2 => ?_⟩
    have lt : it < s.heap.objs.size := Heap.lt_size st
    have T2 : h2.get? s.heap.objs.size = some { cls := .type "tuple", data := .seq #[key, u] } := hs2.extBut _ _ (Nat.ne_of_gt lt) hT
    refine ⟨.ref s.heap.objs.size, upd H s.heap.objs.size (.tup [kV us[i].1, us[i].2]), ?_, rfl, ⟨s.heap.objs.size, us[i], by simp [hi], I.hok.fresh (Nat.le_refl _), rfl, rfl⟩, ⟨_, _, by rw [rel.length]; exact he2⟩, fun b hb => ?_⟩
    · refine I.spun (fp := [it]) (t' := s.toks) (fun b ob hb eo => ?_) hf (Nat.le_refl _) ?_
      · exact hs2.extBut _ _ (fun z => hb (by simp [z])) (kp b ob (fun z => hb (by simp [z])) eo)
      · exact ⟨by show 2 ≤ sizeLine; decide, [key, u], .cons (kV_rel hkey) (.cons ru .nil), _, T2, ⟨rfl, rfl⟩, 0, rfl⟩
    · show upd H s.heap.objs.size _ b = none
      have bn : b ≠ s.heap.objs.size := fun z => by rw [List.mem_singleton.mp hb] at z; exact absurd lt (by rw [z]; exact Nat.lt_irrefl _)
      rw [upd_ne bn]; exact (hf b hb).1
  done := by
    intro X hP hw hK hc i pins s σ H E I hf st hg; subst hP hw hK
    obtain ⟨ok, ov, st⟩ := st
    obtain ⟨hd, hi⟩ := hg
    obtain ⟨vs, rel, da⟩ := I.frzD hd hep
    have st' : IsItemIter s.heap it d i vs.length ep ok ov := by rw [← rel.length]; exact st
    have hn : vs[i]? = none := by
      rw [List.getElem?_eq_none_iff] at hi ⊢
      rw [← rel.length]; exact hi
    exact wpAny_pyNext_items_end (I.ok.hd hc) st' da hn fun h1 hx => ⟨rfl, I.spun0 (fp := [it]) (t' := s.toks) (fun b ob hb eo => hx b ob (fun z => hb (by simp [z])) eo) hf⟩
  self := fun A i s Q E ⟨ok, ov, st⟩ h => by
    have hT : s.TypeIs (.ref it) "dict_itemiterator" := ⟨_, st, rfl⟩
    refine wpAny_pyIter_slot hT F.slot_dict_itemiterator_iter (wpAny_call_entry F.slot_dict_itemiterator_iter hT entry_ii ?_ (F.args_dict_itemiterator_iter_1 _))
    show wpAny _ _ (ret (.ref it)) _ _ s
    exact wpAny_pure ⟨_, rfl, "dict_itemiterator", _, hT, F.slot_dict_itemiterator_next.lookup, h⟩
section
variable {X : Cx} {xr : XR} {e a b : Expr} {m ma mb : Ev} {pos : Pos}
noncomputable def iItems (td : TE) : TI := fun σ H R => td σ H fun x H1 => ∃ d us, x = .ref d ∧ H1 d = some (.dK us) ∧ ∀ o, R (Itd d o us) (upd H1 d (.frz o (.dK us)))
theorem pi_items {elts : List Expr} {kk : Nat} {tpos apos cpos : Pos} {td : TE} (ho : PE X a td) (hbase : attributeBase a "items" X.env (eval a X.env) = eval a X.env) (hline : (apos.endLine == cpos.line) = true) :
    PI X (.Tuple elts kk tpos) (.Call (.Attribute a "items" apos) [] [] cpos) (iItems td) := by
  intro pins s σ H R I h
  refine wpAny_Call_method0_late hbase hline (thn (ho pins s σ H _ I h) fun v s1 ⟨x, H1, I1, r1, d, us, ex, hd, q⟩ => ?_)
  subst ex
  cases r1
  obtain ⟨z, hsys, vs, rel, dd⟩ := dk_of I1.hok hd
  obtain ⟨o, es, ep, hod, hex, hdat, r⟩ := id dd
  refine ⟨"dict", "dict.items", PySem.F.plainAttrs_dict, PySem.F.slot_dict_items, PySem.F.type_dict_items, dd.typeIs, fun b eb => by cases eb; exact ⟨o, hod, hex.2.1⟩, Calls.callWith_builtin rfl (PySem.evalArgs_none ?_)⟩
  refine call_meetsIn PySem.F.slot_dict_items dd.typeIs PySem.F.entry_dict_items (PySem.F.args_dict_items_1 _) (meets_dict_items (mixKind X.prog X.w) d hsys) ⟨⟨vs, dd⟩, ?_⟩
  have I2 : Inv X pins σ (upd H1 d (.frz o (.dK us))) { s1 with heap := s1.heap, toks := s1.toks } := I1.write (x := d) (e := d) (o := .frz o (.dK us)) (t' := s1.toks) (h' := s1.heap) (by rw [hd]; exact True.intro) (.inl rfl) (fun _ _ _ q => q) ⟨o, hod⟩ ⟨hod, z, hsys, vs, rel, dd⟩
  have I3 : Inv X pins σ (upd H1 d (.frz o (.dK us))) { s1 with heap := s1.heap.push { cls := .type "dict_items", data := .fields #[.ref d] } } := I2.kept (t' := s1.toks) fun b ob q => Heap.get?_push_of_some _ q
  have da : (s1.heap.push { cls := .type "dict_items", data := .fields #[.ref d] }).DictAt (mixKind X.prog X.w) d vs ep := ⟨o, es, Heap.get?_push_of_some _ hod, hex, hdat, r⟩
  refine wpAny_pyIter_items (s := { s1 with heap := s1.heap.push { cls := .type "dict_items", data := .fields #[.ref d] } }) ⟨_, Heap.get?_push_size _ rfl, rfl, rfl⟩ da ?_
  refine ⟨_, [_], _, _, _, rfl, I3.kept (t' := s1.toks) fun b ob q => Heap.get?_push_of_some _ q, turn_items d _ o us ep ⟨es, hdat⟩, ⟨.none, .none, ?_⟩, fun b hb => ?_, q o⟩
  · rw [rel.length]; exact Heap.get?_push_size _ rfl
  · have eb := List.mem_singleton.mp hb
    subst eb
    exact I3.fpOk (Nat.le_refl _) (I3.hok.fresh (Nat.le_refl _))
noncomputable def kW : Key → W
  | .inl i => .int i
  | .inr x => .str x
noncomputable def itIt (kvs : List (Key × W)) : Itx := ⟨fun _ i => some (kvs[i]?.map fun p => .tup [kW p.1, p.2]), kvs.length⟩
noncomputable def mItems (m : Ev) : Ei := fun ρ A => match A with
  | [] => (m ρ []).bind fun w A1 => match w, A1 with
    | .ref 0, [.dct kvs] => if nrs (kvs.map (·.2)) then .ok (itIt kvs) [] else .bad
    | _, _ => .bad
  | _ => .bad
theorem it_ok {K : PySem.W.Frag} {φ : List Addr} {H : Hp} {d : Addr} {o : Obj} {us : List (Key × V)} {kvs : List (Key × W)} (hd : H d = some (.frz o (.dK us))) (e1 : us.map (·.1) = kvs.map (·.1)) (e2 : RVs K φ H (kvs.map (·.2)) (us.map (·.2))) (n : nrs (kvs.map (·.2)) = true) :
    ItR K φ H (itIt kvs) (Itd d o us) := fun i φ' H' A' lw S' => by
  unfold itIt
  dsimp only
  have hd' := lw.fz d o _ hd
  have e2' : RVs K φ' H' (kvs.map (·.2)) (us.map (·.2)) := e2.nrm lw.tp n
  have hl : us.length = kvs.length := by have := congrArg List.length e1; simpa using this
  cases ei : kvs[i]? with
  | none =>
    refine ⟨fun _ z => (by cases z), fun _ => ⟨hd', ?_⟩⟩
    rw [List.getElem?_eq_none_iff] at ei ⊢
    rw [hl]; exact ei
  | some p =>
    have hi : i < kvs.length := (List.getElem?_eq_some_iff.mp ei).1
    refine ⟨fun u z => ?_, fun z => (by cases z)⟩
    cases z
    refine ⟨⟨hd', by rw [hl]; exact hi⟩, fun x H1 ⟨t, q, hq, ht, ex, eH⟩ => ?_⟩
    subst ex eH
    have k1 : q.1 = p.1 := by
      have a1 : (us.map (·.1))[i]? = some q.1 := by simp [hq]
      rw [e1] at a1
      simp [ei] at a1
      exact a1.symm
    have a2 : (kvs.map (·.2))[i]? = some p.2 := by simp [ei]
    obtain ⟨v, h1, h2⟩ := e2'.get a2
    have h3 : v = q.2 := by simp [hq] at h1; exact h1.symm
    subst h3
    rw [k1]
    have kr : RV K φ' H' (kW p.1) (kV p.1) := by cases p.1 <;> rfl
    obtain ⟨b1, b2, b3⟩ := tupNew S' ht (.cons kr (.one h2))
    exact ⟨b1, b2, b3⟩
theorem si_items {elts : List Expr} {kk : Nat} {tpos apos cpos : Pos} (ha : SE X xr a ma) (hbase : attributeBase a "items" X.env (eval a X.env) = eval a X.env := by rfl) (hline : (apos.endLine == cpos.line) = true := by rfl) :
    SI X xr (.Tuple elts kk tpos) (.Call (.Attribute a "items" apos) [] [] cpos) (mItems ma) :=
  PI.imp (pi_items ha hbase hline) fun σ H Rr ⟨φ, A, ρ, S, re, h⟩ => by
    unfold mItems at h
    cases A with
    | cons o A => exact h.elim
    | nil =>
      dsimp only at h
      have hφ : φ = [] := by have := S.len; simpa using this
      subst hφ
      refine tM.go S re (post_bind.mp h) fun w A1 φ1 H1 v h1 l1 S1 q1 => ?_
      split at h1
      · rename_i kvs
        by_cases hn : nrs (kvs.map (·.2)) = true
        · rw [if_pos hn] at h1
          obtain ⟨p, us, rfl, f1, g1, g2, g3⟩ := S1.dct q1 (kvs := kvs) rfl
          have h0 : H p = none := by
            rcases l1.nw 0 p f1 with z | z
            · simp at z
            · exact z
          refine ⟨p, us, rfl, g1, fun o => ?_⟩
          have tp : ∀ c vs, SqT X.K H1 c vs → SqT X.K (upd H1 p (.frz o (.dK us))) c vs := fun c vs t => Sqt_upd t (fun xs z => by rw [g1] at z; cases z) (fun _ _ z => by rw [g1] at z; cases z)
          have le : Le X.K [] H [] (upd H1 p (.frz o (.dK us))) := by
            refine ⟨fun n c z => z, fun c vs t => tp c vs (l1.tp c vs t), fun c u hc nn => ?_, fun n c z => .inl z, fun c z => ?_, fun c u u' hc => ?_⟩
            · rw [upd_ne (ne_of_none hc h0)]; exact l1.fr c u hc nn
            · by_cases hcp : c = p
              · rw [hcp]; exact h0
              · rw [upd_ne hcp] at z; exact l1.st c z
            · rw [upd_ne (ne_of_none hc h0)]; exact l1.fz c u u' hc
          exact h1 [] _ _ le Sim.none (it_ok (o := o) upd_same g2 (g3.nrm tp hn) hn)
        · rw [if_neg hn] at h1; exact h1.elim
      · exact h1.elim
end
end Mi
namespace Mi
open PySem PySem.Spec PyProof.Rows L2
/-! ### a def by a table of its answers -/
mutual
noncomputable def W.beq : W → W → Bool
  | .non, .non => true
  | .bl a, .bl b => a == b
  | .int a, .int b => decide (a = b)
  | .str a, .str b => decide (a = b)
  | .tup a, .tup b => beqs a b
  | _, _ => false
noncomputable def beqs : List W → List W → Bool
  | [], [] => true
  | a :: as, b :: bs => a.beq b && beqs as bs
  | _, _ => false
end
mutual
theorem W.eq_of : ∀ {a b : W}, a.beq b = true → a = b
  | .non, .non, _ => rfl
  | .bl a, .bl b, h => by have h' : (a == b) = true := h; rw [beq_iff_eq] at h'; rw [h']
  | .int a, .int b, h => by have h' : decide (a = b) = true := h; rw [decide_eq_true_iff] at h'; rw [h']
  | .str a, .str b, h => by have h' : decide (a = b) = true := h; rw [decide_eq_true_iff] at h'; rw [h']
  | .tup a, .tup b, h => by have h' : beqs a b = true := h; rw [eqs_of h']
  | .non, .bl _, h => nomatch h | .non, .int _, h => nomatch h | .non, .str _, h => nomatch h | .non, .tup _, h => nomatch h | .non, .ref _, h => nomatch h
  | .bl _, .non, h => nomatch h | .bl _, .int _, h => nomatch h | .bl _, .str _, h => nomatch h | .bl _, .tup _, h => nomatch h | .bl _, .ref _, h => nomatch h
  | .int _, .non, h => nomatch h | .int _, .bl _, h => nomatch h | .int _, .str _, h => nomatch h | .int _, .tup _, h => nomatch h | .int _, .ref _, h => nomatch h
  | .str _, .non, h => nomatch h | .str _, .bl _, h => nomatch h | .str _, .int _, h => nomatch h | .str _, .tup _, h => nomatch h | .str _, .ref _, h => nomatch h
  | .tup _, .non, h => nomatch h | .tup _, .bl _, h => nomatch h | .tup _, .int _, h => nomatch h | .tup _, .str _, h => nomatch h | .tup _, .ref _, h => nomatch h
  | .ref _, .non, h => nomatch h | .ref _, .bl _, h => nomatch h | .ref _, .int _, h => nomatch h | .ref _, .str _, h => nomatch h | .ref _, .tup _, h => nomatch h | .ref _, .ref _, h => nomatch h
theorem eqs_of : ∀ {a b : List W}, beqs a b = true → a = b
  | [], [], _ => rfl
  | a :: as, b :: bs, h => by
    have h' : (a.beq b && beqs as bs) = true := h
    rw [Bool.and_eq_true] at h'
    rw [W.eq_of h'.1, eqs_of h'.2]
  | [], _ :: _, h => nomatch h
  | _ :: _, [], h => nomatch h
end
noncomputable abbrev Tab := List (List W × W)
noncomputable def tabFn : Tab → Fn
  | [], _, _ => .bad
  | p :: l, us, A => if beqs p.1 us then .ok p.2 A else tabFn l us A
/-- the def answers so -/
noncomputable def okAt (f : Fn) (p : List W × W) : Bool := nrs p.1 && (match f p.1 [] with
  | .ok w _ => w.nr && w.beq p.2
  | _ => false)
theorem okAt_iso {f : Fn} {p : List W × W} (h : okAt f p = true) (A : Hx) : iso f p.1 A = .ok p.2 A := by
  unfold okAt at h
  rw [Bool.and_eq_true] at h
  obtain ⟨h1, h2⟩ := h
  unfold iso
  rw [if_pos h1]
  cases hf : f p.1 [] with
  | ok w A1 =>
    rw [hf] at h2
    dsimp only at h2 ⊢
    rw [Bool.and_eq_true] at h2
    have e := W.eq_of h2.2
    subst e
    cases hw : p.2 with
    | ref n => rw [hw] at h2; cases h2.1
    | _ =>
      rw [hw] at h2
      dsimp only
      rw [if_pos h2.1]
  | exc x A1 => rw [hf] at h2; cases h2
  | bad => rw [hf] at h2; cases h2
noncomputable def TabOk (f : Fn) (l : Tab) : Prop := ∀ p ∈ l, okAt f p = true
theorem TabOk.nil {f : Fn} : TabOk f [] := fun _ h => nomatch h
theorem TabOk.cons {f : Fn} {p : List W × W} {l : Tab} (h : okAt f p = true) (t : TabOk f l) : TabOk f (p :: l) := fun q hq => by
  rcases List.mem_cons.mp hq with rfl | hq
  · exact h
  · exact t q hq
theorem tab_eq {f : Fn} : ∀ {l : Tab}, TabOk f l → ∀ us A, tabFn l us A = .bad ∨ iso f us A = tabFn l us A
  | [], _, _, _ => .inl rfl
  | p :: l, h, us, A => by
    unfold tabFn
    by_cases e : beqs p.1 us = true
    · rw [if_pos e]
      rw [← eqs_of e]
      exact .inr (okAt_iso (h p (List.mem_cons_self ..)) A)
    · rw [if_neg e]
      exact tab_eq (fun q hq => h q (List.mem_cons_of_mem _ hq)) us A
section
variable {P : Program} {w : World} {K : PySem.W.Frag} {mg : Str → Option Value} {base : Heap}
/-! ### what the top has written -/
/-- a def of the text stands under its name -/
noncomputable def FD (K : PySem.W.Frag) (x : Str) (st : Stmt) : Prop := ∃ f fd, Fun K x x st f fd ∧ PySem.W.nsIn K mainGlobals x = some (some (.ref f))
theorem fd_mk {x : Str} {st : Stmt} {f : Addr} {oc : Value} {od an : Option Addr} {osl : Array (Option Value)} {kV doc pm cdv ct : Value} (a : PySem.W.nsIn K mainGlobals x = some (some (.ref f)))
    (l : K.lookup f = some ⟨oc, od, .func (PySem.W.fnOf x x (defArgs st) (defBody st) (defScope st) .none kV doc pm an cdv ct), osl⟩) (c : PySem.W.codeIn K cdv x = true) (k : PySem.W.keepIn K (.ref f) = true) : FD K x st := ⟨f, _, fun_mk l c k, a⟩
/-- a number of the top -/
noncomputable def CD (K : PySem.W.Frag) (x : Str) (i : Int) : Prop := ∃ t, PySem.W.nsIn K mainGlobals x = some (some (.int i t))
theorem cd_mk {x : Str} {i : Int} {t : Tok} (a : PySem.W.nsIn K mainGlobals x = some (some (.int i t))) : CD K x i := ⟨t, a⟩

/-- a def of the text, its object in hand -/
theorem fnO {x : Str} {st : Stmt} {f : Addr} {fd : FuncData} {N ps : List Str} {k : Nat} {m : Ex} (F : Fun K x x st f fd) (S : FnScope N ps (defScope st))
    (hbody : ∀ (cdv : Value) (A : Around) (outer : List Env) (s : Shared) (H : Hp) (E : XK), Room k (A.deeper (envOfC x (defScope st) s.heap.objs.size f cdv)) → SSs (cxOf CX0 P w K mg base N x (defScope st) f cdv A outer s H E).nox xr0 (defBody st) m) :
    FnOk P w K mg base CX0 (k + 1) f fd ps (spM K ps.length (runB N.length m)) := by
  refine F.ok S (fun vs H Q E h => h.1) fun cdv A outer s H vs Q E hr ⟨hl, φ, A1, ws, Sm, r, h⟩ => ⟨_, hbody cdv A outer s H E hr, ?_⟩
  refine ⟨φ, A1, ws.map some ++ List.replicate (N.length - ws.length) none, Sm, RE.start r, ?_⟩
  have h' := post_bind.mp h
  show R.post _ (FB K φ H _) _
  cases er : m (ws.map some ++ List.replicate (N.length - ws.length) none) A1 with
  | ok fl A2 =>
    rw [er] at h'
    cases fl with
    | rt w => exact h'
    | nx ρ => exact fun φ' H' σ' l S' _ => h' φ' H' .non l S' rfl
    | bk ρ => exact h'.elim
    | ct ρ => exact h'.elim
  | exc y A2 => rw [er] at h'; exact h'.elim
  | bad => rw [er] at h'; exact h'.elim

theorem len1 {us : List Value} (h : us.length = 1) : ∃ a, us = [a] := by
  match us, h with
  | [a], _ => exact ⟨a, rfl⟩
theorem len2 {us : List Value} (h : us.length = 2) : ∃ a b, us = [a, b] := by
  match us, h with
  | [a, b], _ => exact ⟨a, b, rfl⟩
theorem len3 {us : List Value} (h : us.length = 3) : ∃ a b c, us = [a, b, c] := by
  match us, h with
  | [a, b, c], _ => exact ⟨a, b, c, rfl⟩
theorem len4 {us : List Value} (h : us.length = 4) : ∃ a b c d, us = [a, b, c, d] := by
  match us, h with
  | [a, b, c, d], _ => exact ⟨a, b, c, d, rfl⟩
theorem len5 {us : List Value} (h : us.length = 5) : ∃ a b c d e, us = [a, b, c, d, e] := by
  match us, h with
  | [a, b, c, d, e], _ => exact ⟨a, b, c, d, e, rfl⟩

/-! ### the law's own head -/
/-- handed a list of ints, the law's meaning is True -/
noncomputable def LawOk (f : Fn) : Prop := ∀ ns : List Int, ns.length ≤ 63 → ∃ A, f [.ref 0] [.ro (ns.map W.int)] = .ok (.bl true) A
theorem law_start {H : Hp} {a : Addr} {ns : List Int} (hO : Only H) (hS : SqL K H a (ns.map V.int)) : Sim K [a] [.ro (ns.map W.int)] H := by
  refine ⟨rfl, fun i j b o o' h1 h2 h3 h4 m1 _ => ?_, fun n o h => ?_⟩
  · have hi : i = 0 := by have := (List.getElem?_eq_some_iff.mp h3).1; simp at this; omega
    have hj : j = 0 := by have := (List.getElem?_eq_some_iff.mp h4).1; simp at this; omega
    omega
  · have hn : n = 0 := by have := (List.getElem?_eq_some_iff.mp h).1; simp at this; omega
    subst hn
    simp at h
    subst h
    refine ⟨a, rfl, ns.map V.int, ?_, RVs.ints.mpr rfl⟩
    rcases hS with (z | z) | z
    · rcases hO a with q | ⟨ob, xs, q⟩
      · rw [z] at q; cases q
      · rw [z] at q; cases q
    · exact .inl z
    · exact .inr z
theorem walkM {l : PySem.W.OpenLaw} {k : Nat} {q : Program} {loose : List Str} {XP : (Str → Option Value) → Heap → Prop} {YP : World → Heap → Prop} {d : DefRec} {Kp : Params → PySem.W.Frag} {x : Str} {f : Fn} (ok : LawOk f)
    (hn : l.most = some 63) (hdf : d.params.defaults = []) (hr : Room k callerA) (hY : ∀ (w : World) (h : Heap), YP w h → (Kp w.params).In h)
    (F : ∀ (w : World) (mg : Str → Option Value) (fa : Addr) (h : Heap), (Kp w.params).In h → h.Ns mainGlobals mg → mg d.name = some (.ref fa) →
      ∃ fd : FuncData, (∀ (s : Shared) (u : Value), BindsTo s fd ⟨[u], []⟩ [(x, u)]) ∧ ∀ base : Heap, (Kp w.params).In base → base.Ns mainGlobals mg → FnOk l.prog w (Kp w.params) mg base CX0 k fa fd [x] (spM (Kp w.params) 1 f)) :
    PySem.W.WalkO q loose XP YP l.row.toRowW d [] (fun f vs => PySem.call f vs) :=
  L2.walk_of (n := 63) (k := k) (x := x) (CX := fun _ => CX0) (sp := fun w => spM (Kp w.params) 1 f) hn (by decide) hdf hr hY F (fun w H a ns hl hO hS => by
    refine ⟨rfl, [a], [.ro (ns.map W.int)], [.ref 0], law_start hO hS, .one ⟨a, rfl, rfl⟩, ?_⟩
    obtain ⟨A, e⟩ := ok ns hl
    rw [e]
    exact fun φ' H' v _ _ r => r) fun _ _ _ _ _ z => z
end
end Mi
/-! The rules once more, over judgements that nothing unfolds. -/
namespace Y
open PySem PySem.Spec PyProof.Rows L2 Mi
@[irreducible] noncomputable def YE (X : Cx) (xr : XR) (e : Expr) (m : Ev) : Prop := Mi.SE X xr e m
theorem YE_eq : @YE = @Mi.SE := by
  funext X xr e m
  unfold YE
  rfl
@[irreducible] noncomputable def YA (X : Cx) (xr : XR) (es : List Expr) (m : Ea) : Prop := Mi.SA X xr es m
theorem YA_eq : @YA = @Mi.SA := by
  funext X xr es m
  unfold YA
  rfl
@[irreducible] noncomputable def YT (X : Cx) (xr : XR) (e : Expr) (m : Ev) : Prop := Mi.ST X xr e m
theorem YT_eq : @YT = @Mi.ST := by
  funext X xr e m
  unfold YT
  rfl
@[irreducible] noncomputable def YW (X : Cx) (xr : XR) (e : Expr) (m : Ev) : Prop := Mi.SW X xr e m
theorem YW_eq : @YW = @Mi.SW := by
  funext X xr e m
  unfold YW
  rfl
@[irreducible] noncomputable def YS (X : Cx) (xr : XR) (st : Stmt) (m : Ex) : Prop := Mi.SS X xr st m
theorem YS_eq : @YS = @Mi.SS := by
  funext X xr st m
  unfold YS
  rfl
@[irreducible] noncomputable def YSs (X : Cx) (xr : XR) (st : List Stmt) (m : Ex) : Prop := Mi.SSs X xr st m
theorem YSs_eq : @YSs = @Mi.SSs := by
  funext X xr st m
  unfold YSs
  rfl
@[irreducible] noncomputable def YI (X : Cx) (xr : XR) (tg e : Expr) (m : Ei) : Prop := Mi.SI X xr tg e m
theorem YI_eq : @YI = @Mi.SI := by
  funext X xr tg e m
  unfold YI
  rfl
@[irreducible] noncomputable def YG (X : Cx) (tg : Expr) (m : Tg) : Prop := Mi.SG X tg m
theorem YG_eq : @YG = @Mi.SG := by
  funext X tg m
  unfold YG
  rfl
@[irreducible] noncomputable def YF (X : Cx) (xr : XR) (e : Expr) (m : Eq') : Prop := Mi.SF X xr e m
theorem YF_eq : @YF = @Mi.SF := by
  funext X xr e m
  unfold YF
  rfl
@[irreducible] noncomputable def YQ (X : Cx) (xr : XR) (e : Expr) (m : Eq') : Prop := Mi.SQ X xr e m
theorem YQ_eq : @YQ = @Mi.SQ := by
  funext X xr e m
  unfold YQ
  rfl
@[irreducible] noncomputable def YTs (X : Cx) (es : List Expr) (m : Ev) : Prop := Mi.STs X es m
theorem YTs_eq : @YTs = @Mi.STs := by
  funext X es m
  unfold YTs
  rfl
@[irreducible] noncomputable def YM (X : Cx) (elt : Expr) (gens : List Comprehension) (sc : Scope) (cpos : Pos) (d : Nat) (em : Em) : Prop := Mi.SM X elt gens sc cpos d em
theorem YM_eq : @YM = @Mi.SM := by
  funext X elt gens sc cpos d em
  unfold YM
  rfl
section
variable {X : Cx} {xr : XR} {K : PySem.W.Frag} {e a b c : Expr} {es : List Expr} {m ma mb mc : Ev} {m1 m2 : Ex} {pos : Pos} {st : Stmt} {rest : List Stmt}
theorem sa_cons {mr : Ea} (ha : YE X xr e ma) (hr : YA X xr es mr) (hs : starEach (e :: es) X.env = (false, eval e X.env) :: starEach es X.env := by rfl) : YA X xr (e :: es) (aCons ma mr) := by
  (try simp only [YE_eq, YA_eq, YT_eq, YW_eq, YS_eq, YSs_eq, YI_eq, YG_eq, YF_eq, YQ_eq, YTs_eq, YM_eq] at *)
  exact Mi.sa_cons ha hr hs
theorem sa_nil : YA X xr [] aNil := by
  (try simp only [YE_eq, YA_eq, YT_eq, YW_eq, YS_eq, YSs_eq, YI_eq, YG_eq, YF_eq, YQ_eq, YTs_eq, YM_eq] at *)
  exact Mi.sa_nil 
theorem se_add (ha : YE X xr a ma) (hb : YE X xr b mb) : YE X xr (.BinOp a .Add b pos) (mBin gAdd ma mb) := by
  (try simp only [YE_eq, YA_eq, YT_eq, YW_eq, YS_eq, YSs_eq, YI_eq, YG_eq, YF_eq, YQ_eq, YTs_eq, YM_eq] at *)
  exact Mi.se_add ha hb
theorem se_all {p : Pos} {q : Eq'} (hc : X.calm = true) (hm : X.mg "all" = none) (ha : YQ X xr e q) (hg : Gl X "all" := by rfl) (he : starEach [e] X.env = (false, eval e X.env) :: starEach [] X.env := by rfl) :
    YE X xr (.Call (.Name "all" p) [e] [] pos) (mQ gAll q) := by
  (try simp only [YE_eq, YA_eq, YT_eq, YW_eq, YS_eq, YSs_eq, YI_eq, YG_eq, YF_eq, YQ_eq, YTs_eq, YM_eq] at *)
  exact Mi.se_all hc hm ha hg he
theorem se_and {rest : List Expr} (ha : YE X xr a ma) (hb : YE X xr (.BoolOp .And (b :: rest) pos) mb) : YE X xr (.BoolOp .And (a :: b :: rest) pos) (mAnd ma mb) := by
  (try simp only [YE_eq, YA_eq, YT_eq, YW_eq, YS_eq, YSs_eq, YI_eq, YG_eq, YF_eq, YQ_eq, YTs_eq, YM_eq] at *)
  exact Mi.se_and ha hb
theorem se_any {p : Pos} {q : Eq'} (hc : X.calm = true) (hm : X.mg "any" = none) (ha : YQ X xr e q) (hg : Gl X "any" := by rfl) (he : starEach [e] X.env = (false, eval e X.env) :: starEach [] X.env := by rfl) :
    YE X xr (.Call (.Name "any" p) [e] [] pos) (mQ gAny q) := by
  (try simp only [YE_eq, YA_eq, YT_eq, YW_eq, YS_eq, YSs_eq, YI_eq, YG_eq, YF_eq, YQ_eq, YTs_eq, YM_eq] at *)
  exact Mi.se_any hc hm ha hg he
theorem se_bl {i j} : YE X xr (.Constant (.bool i) j pos) (mLit (.bl i)) := by
  (try simp only [YE_eq, YA_eq, YT_eq, YW_eq, YS_eq, YSs_eq, YI_eq, YG_eq, YF_eq, YQ_eq, YTs_eq, YM_eq] at *)
  exact Mi.se_bl 
theorem se_c {op : CmpOp} {g : W → W → Hx → R W} (h : CmpOk X op g) (ha : YE X xr a ma) (hb : YE X xr b mb) (h1 : op ≠ .In := by decide) (h2 : op ≠ .NotIn := by decide) : YE X xr (.Compare a [op] [b] pos) (mBin g ma mb) := by
  (try simp only [YE_eq, YA_eq, YT_eq, YW_eq, YS_eq, YSs_eq, YI_eq, YG_eq, YF_eq, YQ_eq, YTs_eq, YM_eq] at *)
  exact Mi.se_c h ha hb h1 h2
theorem se_c2 {op op' : CmpOp} {g g' : W → W → Hx → R W} (h : CmpOk X op g) (h' : CmpOk X op' g') (ha : YE X xr a ma) (hb : YE X xr b mb) (hc : YE X xr c mc) (hm : lastMarks [op, op'] [b, c] = false := by with_unfolding_all rfl) :
    YE X xr (.Compare a [op, op'] [b, c] pos) (mChain g g' ma mb mc) := by
  (try simp only [YE_eq, YA_eq, YT_eq, YW_eq, YS_eq, YSs_eq, YI_eq, YG_eq, YF_eq, YQ_eq, YTs_eq, YM_eq] at *)
  exact Mi.se_c2 h h' ha hb hc hm
theorem se_call {k n : Nat} {x : Str} {p : Pos} {f : Fn} {mr : Ea} (F : FnM X.prog X.w X.K X.mg X.base k x n f) (hr : Room k X.A) (ha : YA X xr0 (e :: es) mr) (hl : ALen mr n) (hg : Gl X x := by rfl)
    (hdb : (x == ("__debug__" : Str)) = false := by decide) (he : starEach (e :: es) X.env = (false, eval e X.env) :: starEach es X.env := by rfl) (hpl : (backTo pos (starEach es X.env)).any (·.1) = false := by rfl) :
    YE X xr0 (.Call (.Name x p) (e :: es) [] pos) (mCall f mr) := by
  (try simp only [YE_eq, YA_eq, YT_eq, YW_eq, YS_eq, YSs_eq, YI_eq, YG_eq, YF_eq, YQ_eq, YTs_eq, YM_eq] at *)
  exact Mi.se_call F hr ha hl hg hdb he hpl
theorem se_ci {op : CmpOp} {g : W → W → Hx → R W} (h : InOk X op g) (ha : YE X xr a ma) (hb : YE X xr b mb) (hm : behindInMarks op b = false := by rfl) : YE X xr (.Compare a [op] [b] pos) (mBin g ma mb) := by
  (try simp only [YE_eq, YA_eq, YT_eq, YW_eq, YS_eq, YSs_eq, YI_eq, YG_eq, YF_eq, YQ_eq, YTs_eq, YM_eq] at *)
  exact Mi.se_ci h ha hb hm
theorem se_count {apos cpos : Pos} (ho : YE X xr a ma) (he : YE X xr b mb) (hs : starEach [b] X.env = (false, eval b X.env) :: starEach [] X.env := by rfl)
    (hbase : attributeBase a "count" X.env (eval a X.env) = eval a X.env := by rfl)
    (hfew : ((backTo cpos (starEach [b] X.env)).all (fun x => !x.1) && (backToKw cpos (keywordEach [] X.env)).all (fun x => x.1.isSome)
      && decide ([b].length + ([] : List Keyword).length + (if ([] : List Keyword).isEmpty then 0 else 1) < 30)) = true := by rfl) (hline : (apos.endLine == cpos.line) = true := by rfl) :
    YE X xr (.Call (.Attribute a "count" apos) [b] [] cpos) (mMethT gCount ma mb) := by
  (try simp only [YE_eq, YA_eq, YT_eq, YW_eq, YS_eq, YSs_eq, YI_eq, YG_eq, YF_eq, YQ_eq, YTs_eq, YM_eq] at *)
  exact Mi.se_count ho he hs hbase hfew hline
theorem se_cutFrom {p2 : Pos} (ha : YE X xr a ma) (hb : YE X xr b mb) : YE X xr (.Subscript a (.Slice (some b) none none p2) pos) (mBin gCutFrom ma mb) := by
  (try simp only [YE_eq, YA_eq, YT_eq, YW_eq, YS_eq, YSs_eq, YI_eq, YG_eq, YF_eq, YQ_eq, YTs_eq, YM_eq] at *)
  exact Mi.se_cutFrom ha hb
theorem se_dct : YE X xr (.Dict [] [] pos) mDct := by
  (try simp only [YE_eq, YA_eq, YT_eq, YW_eq, YS_eq, YSs_eq, YI_eq, YG_eq, YF_eq, YQ_eq, YTs_eq, YM_eq] at *)
  exact Mi.se_dct 
theorem se_dgetK {k : Nat} (hr : Room k X.A) (ha : YE X xr a ma) (hb : YE X xr b mb) (hs : NoSl b := by intro _ _; rfl) : YE X xr (.Subscript a b pos) (mBin gDget ma mb) := by
  (try simp only [YE_eq, YA_eq, YT_eq, YW_eq, YS_eq, YSs_eq, YI_eq, YG_eq, YF_eq, YQ_eq, YTs_eq, YM_eq] at *)
  exact Mi.se_dgetK hr ha hb hs
theorem se_div (ha : YE X xr a ma) (hb : YE X xr b mb) : YE X xr (.BinOp a .FloorDiv b pos) (mBin gDiv ma mb) := by
  (try simp only [YE_eq, YA_eq, YT_eq, YW_eq, YS_eq, YSs_eq, YI_eq, YG_eq, YF_eq, YQ_eq, YTs_eq, YM_eq] at *)
  exact Mi.se_div ha hb
theorem se_glob {x : Str} {i : Int} {t : Tok} (hg : Gl X x) (hm : X.mg x = some (.int i t)) (hd : (x == ("__debug__" : Str)) = false := by decide) : YE X xr (.Name x pos) (mLit (.int i)) := by
  (try simp only [YE_eq, YA_eq, YT_eq, YW_eq, YS_eq, YSs_eq, YI_eq, YG_eq, YF_eq, YQ_eq, YTs_eq, YM_eq] at *)
  exact Mi.se_glob hg hm hd
theorem se_if {c : Expr} (hc : YT X xr c mc) (ha : YE X xr a ma) (hb : YE X xr b mb) : YE X xr (.IfExp c a b pos) (mIf mc ma mb) := by
  (try simp only [YE_eq, YA_eq, YT_eq, YW_eq, YS_eq, YSs_eq, YI_eq, YG_eq, YF_eq, YQ_eq, YTs_eq, YM_eq] at *)
  exact Mi.se_if hc ha hb
theorem se_int {i j} : YE X xr (.Constant (.int i) j pos) (mLit (.int i)) := by
  (try simp only [YE_eq, YA_eq, YT_eq, YW_eq, YS_eq, YSs_eq, YI_eq, YG_eq, YF_eq, YQ_eq, YTs_eq, YM_eq] at *)
  exact Mi.se_int 
theorem se_is (t : Ty) {x : Str} {p p' : Pos} (hm : X.mg "isinstance" = none) (hm' : X.mg x = none) (hx : bootBuiltins x = some (.type t.nm)) (ha : YE X xr e m) (hg : Gl X "isinstance" := by rfl) (hg' : Gl X x := by rfl)
    (hn : x ≠ "__name__" := by decide) (hd : (x == ("__debug__" : Str)) = false := by decide)
    (h1 : starEach [e, .Name x p'] X.env = (false, eval e X.env) :: starEach [.Name x p'] X.env := by rfl) (h2 : (backTo pos (starEach [.Name x p'] X.env)).any (·.1) = false := by rfl) :
    YE X xr (.Call (.Name "isinstance" p) [e, .Name x p'] [] pos) (mIs t m) := by
  (try simp only [YE_eq, YA_eq, YT_eq, YW_eq, YS_eq, YSs_eq, YI_eq, YG_eq, YF_eq, YQ_eq, YTs_eq, YM_eq] at *)
  exact Mi.se_is t hm hm' hx ha hg hg' hn hd h1 h2
theorem se_ix (ha : YE X xr a ma) (hb : YE X xr b mb) (hs : PlainIx b := by intro _ _; rfl) : YE X xr (.Subscript a b pos) (mBin gIx ma mb) := by
  (try simp only [YE_eq, YA_eq, YT_eq, YW_eq, YS_eq, YSs_eq, YI_eq, YG_eq, YF_eq, YQ_eq, YTs_eq, YM_eq] at *)
  exact Mi.se_ix ha hb hs
theorem se_len {p : Pos} {q : Eq'} (hm : X.mg "len" = none) (ha : YQ X xr e q) (hg : Gl X "len" := by rfl) (he : starEach [e] X.env = (false, eval e X.env) :: starEach [] X.env := by rfl) :
    YE X xr (.Call (.Name "len" p) [e] [] pos) (mQ gLen q) := by
  (try simp only [YE_eq, YA_eq, YT_eq, YW_eq, YS_eq, YSs_eq, YI_eq, YG_eq, YF_eq, YQ_eq, YTs_eq, YM_eq] at *)
  exact Mi.se_len hm ha hg he
theorem se_list {q : Eq'} (h : YF X xr e q) : YE X xr e (mList q) := by
  (try simp only [YE_eq, YA_eq, YT_eq, YW_eq, YS_eq, YSs_eq, YI_eq, YG_eq, YF_eq, YQ_eq, YTs_eq, YM_eq] at *)
  exact Mi.se_list h
theorem se_listR1 {p p' pos' : Pos} (hc : X.calm = true) (hm : X.mg "list" = none) (hm' : X.mg "range" = none) (ha : YE X xr a ma) (hg : Gl X "list" := by rfl) (hg' : Gl X "range" := by rfl) (hs : starEach [a] X.env = [(false, eval a X.env)] := by rfl)
    (hs' : starEach [.Call (.Name "range" p') [a] [] pos'] X.env = (false, eval (.Call (.Name "range" p') [a] [] pos') X.env) :: starEach [] X.env := by rfl) :
    YE X xr (.Call (.Name "list" p) [.Call (.Name "range" p') [a] [] pos'] [] pos) (mListR1 ma) := by
  (try simp only [YE_eq, YA_eq, YT_eq, YW_eq, YS_eq, YSs_eq, YI_eq, YG_eq, YF_eq, YQ_eq, YTs_eq, YM_eq] at *)
  exact Mi.se_listR1 hc hm hm' ha hg hg' hs hs'
theorem se_lstN {mr : Ea} {n : Nat} (h : YA X xr es mr) (hl : ALen mr n) (hn : n ≤ cpMost := by decide) : YE X xr (.List es pos) (mLst mr) := by
  (try simp only [YE_eq, YA_eq, YT_eq, YW_eq, YS_eq, YSs_eq, YI_eq, YG_eq, YF_eq, YQ_eq, YTs_eq, YM_eq] at *)
  exact Mi.se_lstN h hl hn
theorem se_max1 {p : Pos} {q : Eq'} (hc : X.calm = true) (hm : X.mg "max" = none) (ha : YQ X xr e q) (hg : Gl X "max" := by rfl) (he : starEach [e] X.env = (false, eval e X.env) :: starEach [] X.env := by rfl) :
    YE X xr (.Call (.Name "max" p) [e] [] pos) (mQ gMax q) := by
  (try simp only [YE_eq, YA_eq, YT_eq, YW_eq, YS_eq, YSs_eq, YI_eq, YG_eq, YF_eq, YQ_eq, YTs_eq, YM_eq] at *)
  exact Mi.se_max1 hc hm ha hg he
theorem se_min2 {p : Pos} (hc : X.calm = true) (hm : X.mg "min" = none) (ha : YE X xr a ma) (hb : YE X xr b mb) (hgl : Gl X "min" := by rfl) (h1 : starEach [a, b] X.env = (false, eval a X.env) :: starEach [b] X.env := by rfl) (h2 : starEach [b] X.env = (false, eval b X.env) :: starEach [] X.env := by rfl) (hpl : (backTo pos (starEach [b] X.env)).any (·.1) = false := by rfl) :
    YE X xr (.Call (.Name "min" p) [a, b] [] pos) (mBin gMin2 ma mb) := by
  (try simp only [YE_eq, YA_eq, YT_eq, YW_eq, YS_eq, YSs_eq, YI_eq, YG_eq, YF_eq, YQ_eq, YTs_eq, YM_eq] at *)
  exact Mi.se_min2 hc hm ha hb hgl h1 h2 hpl
theorem se_mod (ha : YE X xr a ma) (hb : YE X xr b mb) : YE X xr (.BinOp a .Mod b pos) (mBin gModI ma mb) := by
  (try simp only [YE_eq, YA_eq, YT_eq, YW_eq, YS_eq, YSs_eq, YI_eq, YG_eq, YF_eq, YQ_eq, YTs_eq, YM_eq] at *)
  exact Mi.se_mod ha hb
theorem se_mul (ha : YE X xr a ma) (hb : YE X xr b mb) : YE X xr (.BinOp a .Mult b pos) (mBin gMul ma mb) := by
  (try simp only [YE_eq, YA_eq, YT_eq, YW_eq, YS_eq, YSs_eq, YI_eq, YG_eq, YF_eq, YQ_eq, YTs_eq, YM_eq] at *)
  exact Mi.se_mul ha hb
theorem se_neg (ha : YE X xr a ma) : YE X xr (.UnaryOp .USub a pos) (mUn gNeg ma) := by
  (try simp only [YE_eq, YA_eq, YT_eq, YW_eq, YS_eq, YSs_eq, YI_eq, YG_eq, YF_eq, YQ_eq, YTs_eq, YM_eq] at *)
  exact Mi.se_neg ha
theorem se_non {j} : YE X xr (.Constant .none j pos) (mLit .non) := by
  (try simp only [YE_eq, YA_eq, YT_eq, YW_eq, YS_eq, YSs_eq, YI_eq, YG_eq, YF_eq, YQ_eq, YTs_eq, YM_eq] at *)
  exact Mi.se_non 
theorem se_not (ha : YE X xr a ma) : YE X xr (.UnaryOp .Not a pos) (mNot ma) := by
  (try simp only [YE_eq, YA_eq, YT_eq, YW_eq, YS_eq, YSs_eq, YI_eq, YG_eq, YF_eq, YQ_eq, YTs_eq, YM_eq] at *)
  exact Mi.se_not ha
theorem se_one {op} (h : YE X xr a ma) : YE X xr (.BoolOp op [a] pos) ma := by
  (try simp only [YE_eq, YA_eq, YT_eq, YW_eq, YS_eq, YSs_eq, YI_eq, YG_eq, YF_eq, YQ_eq, YTs_eq, YM_eq] at *)
  exact Mi.se_one h
theorem se_setdef {apos cpos : Pos} (ho : YE X xr a ma) (he : YE X xr b mb) (hf : YE X xr c mc) (h1 : starEach [b, c] X.env = (false, eval b X.env) :: starEach [c] X.env := by rfl) (h2 : starEach [c] X.env = (false, eval c X.env) :: starEach [] X.env := by rfl)
    (hbase : attributeBase a "setdefault" X.env (eval a X.env) = eval a X.env := by rfl)
    (hfew : ((backTo cpos (starEach [b, c] X.env)).all (fun x => !x.1) && (backToKw cpos (keywordEach [] X.env)).all (fun x => x.1.isSome)
      && decide ([b, c].length + ([] : List Keyword).length + (if ([] : List Keyword).isEmpty then 0 else 1) < 30)) = true := by rfl) (hline : (apos.endLine == cpos.line) = true := by rfl) (hpl : (backTo cpos (starEach [c] X.env)).any (·.1) = false := by rfl) :
    YE X xr (.Call (.Attribute a "setdefault" apos) [b, c] [] cpos) (mMeth2 gSetdef ma mb mc) := by
  (try simp only [YE_eq, YA_eq, YT_eq, YW_eq, YS_eq, YSs_eq, YI_eq, YG_eq, YF_eq, YQ_eq, YTs_eq, YM_eq] at *)
  exact Mi.se_setdef ho he hf h1 h2 hbase hfew hline hpl
theorem se_sub (ha : YE X xr a ma) (hb : YE X xr b mb) : YE X xr (.BinOp a .Sub b pos) (mBin gSub ma mb) := by
  (try simp only [YE_eq, YA_eq, YT_eq, YW_eq, YS_eq, YSs_eq, YI_eq, YG_eq, YF_eq, YQ_eq, YTs_eq, YM_eq] at *)
  exact Mi.se_sub ha hb
theorem se_sum {p : Pos} {q : Eq'} (hc : X.calm = true) (hm : X.mg "sum" = none) (ha : YQ X xr e q) (hg : Gl X "sum" := by rfl) (he : starEach [e] X.env = (false, eval e X.env) :: starEach [] X.env := by rfl) :
    YE X xr (.Call (.Name "sum" p) [e] [] pos) (mQ gSum q) := by
  (try simp only [YE_eq, YA_eq, YT_eq, YW_eq, YS_eq, YSs_eq, YI_eq, YG_eq, YF_eq, YQ_eq, YTs_eq, YM_eq] at *)
  exact Mi.se_sum hc hm ha hg he
theorem se_tupN {x1} {mr : Ea} {n : Nat} (h : YA X xr es mr) (hl : ALen mr n) (hn : n ≤ cpMost := by decide) : YE X xr (.Tuple es x1 pos) (mTup mr) := by
  (try simp only [YE_eq, YA_eq, YT_eq, YW_eq, YS_eq, YSs_eq, YI_eq, YG_eq, YF_eq, YQ_eq, YTs_eq, YM_eq] at *)
  exact Mi.se_tupN h hl hn
theorem se_tuple {p : Pos} {q : Eq'} (hm : X.mg "tuple" = none) (ha : YQ X xr e q) (hg : Gl X "tuple" := by rfl) (he : starEach [e] X.env = (false, eval e X.env) :: starEach [] X.env := by rfl) :
    YE X xr (.Call (.Name "tuple" p) [e] [] pos) (mQ gTup q) := by
  (try simp only [YE_eq, YA_eq, YT_eq, YW_eq, YS_eq, YSs_eq, YI_eq, YG_eq, YF_eq, YQ_eq, YTs_eq, YM_eq] at *)
  exact Mi.se_tuple hm ha hg he
theorem se_var (i : Nat) {x : Str} (hN : X.N[i]? = some x := by rfl) (hv : Vis X.env.scope x := by first | exact Or.inl rfl | exact Or.inr (Or.inl rfl) | exact Or.inr (Or.inr rfl)) (hd : (x == ("__debug__" : Str)) = false := by decide)
    (hcd : (x == ("__classdict__" : Str)) = false := by decide) : YE X xr (.Name x pos) (mVar i) := by
  (try simp only [YE_eq, YA_eq, YT_eq, YW_eq, YS_eq, YSs_eq, YI_eq, YG_eq, YF_eq, YQ_eq, YTs_eq, YM_eq] at *)
  exact Mi.se_var i hN hv hd hcd
theorem sf_comp {elt tg iter : Expr} {ifs : List Expr} {gs : List Comprehension} {sc : Scope} {mi : Ei} {tw : Tg} {mf : Ev} {em : Em} {N : List Str} (nl : Nat) (cap : List Nat) (hc : X.calm = true) (S : CpScope X sc) (hcap : capOk X.N N sc nl cap = true) (hw : YI X xr tg iter mi)
    (hin : ∀ s H fp, YG (cpCx X N sc s H fp noxe) tg tw ∧ YTs (cpCx X N sc s H fp noxe) ifs mf ∧ YM (cpCx X N sc s H fp noxe) elt (⟨tg, iter, ifs, 0⟩ :: gs) sc pos 0 em)
    (ha : ∀ g', gs[0]? = some g' → g'.is_async = 0 := by intro _ h; cases h <;> rfl)
    (hs : ∀ x, foldedSetIterable iter X.env x = pure x := by intro _; rfl) : YF X xr (.ListComp elt (⟨tg, iter, ifs, 0⟩ :: gs) sc pos) (cItems nl cap mi tw mf em) := by
  (try simp only [YE_eq, YA_eq, YT_eq, YW_eq, YS_eq, YSs_eq, YI_eq, YG_eq, YF_eq, YQ_eq, YTs_eq, YM_eq] at *)
  exact Mi.sf_comp nl cap hc S hcap hw hin ha hs
theorem sg_pair (i j : Nat) {x y : Str} {p q : Pos} {k : Nat} (hc : X.calm = true) (hN : X.N.Nodup) (hi : X.N[i]? = some x := by rfl) (hx : Loc X.env.scope x := by first | exact Or.inl rfl | exact Or.inr rfl) (hf : X.fn x = true ∨ X.env.scope.names.lookup x = some .local := by first | exact .inl rfl | exact .inr rfl)
    (hj : X.N[j]? = some y := by rfl) (hy : Loc X.env.scope y := by first | exact Or.inl rfl | exact Or.inr rfl) (hg : X.fn y = true ∨ X.env.scope.names.lookup y = some .local := by first | exact .inl rfl | exact .inr rfl) : YG X (.Tuple [.Name x p, .Name y q] k pos) (gPair i j) := by
  (try simp only [YE_eq, YA_eq, YT_eq, YW_eq, YS_eq, YSs_eq, YI_eq, YG_eq, YF_eq, YQ_eq, YTs_eq, YM_eq] at *)
  exact Mi.sg_pair i j hc hN hi hx hf hj hy hg
theorem sg_pair3 (i j k : Nat) {x y z : Str} {p q r pp : Pos} {n n' : Nat} (hc : X.calm = true) (hN : X.N.Nodup) (hi : X.N[i]? = some x := by rfl) (hx : Loc X.env.scope x := by first | exact Or.inl rfl | exact Or.inr rfl) (hf : X.fn x = true ∨ X.env.scope.names.lookup x = some .local := by first | exact .inl rfl | exact .inr rfl)
    (hj : X.N[j]? = some y := by rfl) (hy : Loc X.env.scope y := by first | exact Or.inl rfl | exact Or.inr rfl) (hg : X.fn y = true ∨ X.env.scope.names.lookup y = some .local := by first | exact .inl rfl | exact .inr rfl)
    (hk : X.N[k]? = some z := by rfl) (hz : Loc X.env.scope z := by first | exact Or.inl rfl | exact Or.inr rfl) (hh : X.fn z = true ∨ X.env.scope.names.lookup z = some .local := by first | exact .inl rfl | exact .inr rfl) :
    YG X (.Tuple [.Name x p, .Tuple [.Name y q, .Name z r] n' pp] n pos) (gPair3 i j k) := by
  (try simp only [YE_eq, YA_eq, YT_eq, YW_eq, YS_eq, YSs_eq, YI_eq, YG_eq, YF_eq, YQ_eq, YTs_eq, YM_eq] at *)
  exact Mi.sg_pair3 i j k hc hN hi hx hf hj hy hg hk hz hh
theorem sg_var (i : Nat) {x : Str} (hN : X.N.Nodup) (hi : X.N[i]? = some x := by rfl) (hx : Loc X.env.scope x := by first | exact Or.inl rfl | exact Or.inr rfl) (hf : X.fn x = true ∨ X.env.scope.names.lookup x = some .local := by first | exact .inl rfl | exact .inr rfl) : YG X (.Name x pos) (gVar i) := by
  (try simp only [YE_eq, YA_eq, YT_eq, YW_eq, YS_eq, YSs_eq, YI_eq, YG_eq, YF_eq, YQ_eq, YTs_eq, YM_eq] at *)
  exact Mi.sg_var i hN hi hx hf
theorem si_E {tg : Expr} (h : YE X xr e m) : YI X xr tg e (mIt m) := by
  (try simp only [YE_eq, YA_eq, YT_eq, YW_eq, YS_eq, YSs_eq, YI_eq, YG_eq, YF_eq, YQ_eq, YTs_eq, YM_eq] at *)
  exact Mi.si_E h
theorem si_enum {elts : List Expr} {kk : Nat} {tpos p : Pos} (hg : Gl X "enumerate") (hm : X.mg "enumerate" = none) (ha : YE X xr a ma) (hs : starEach [a] X.env = [(false, eval a X.env)] := by rfl) : YI X xr (.Tuple elts kk tpos) (.Call (.Name "enumerate" p) [a] [] pos) (mEnum ma) := by
  (try simp only [YE_eq, YA_eq, YT_eq, YW_eq, YS_eq, YSs_eq, YI_eq, YG_eq, YF_eq, YQ_eq, YTs_eq, YM_eq] at *)
  exact Mi.si_enum hg hm ha hs
theorem si_items {elts : List Expr} {kk : Nat} {tpos apos cpos : Pos} (ha : YE X xr a ma) (hbase : attributeBase a "items" X.env (eval a X.env) = eval a X.env := by rfl) (hline : (apos.endLine == cpos.line) = true := by rfl) :
    YI X xr (.Tuple elts kk tpos) (.Call (.Attribute a "items" apos) [] [] cpos) (mItems ma) := by
  (try simp only [YE_eq, YA_eq, YT_eq, YW_eq, YS_eq, YSs_eq, YI_eq, YG_eq, YF_eq, YQ_eq, YTs_eq, YM_eq] at *)
  exact Mi.si_items ha hbase hline
theorem si_rng1 {tg : Expr} {p : Pos} (hg : Gl X "range") (hm : X.mg "range" = none) (ha : YE X xr a ma) (hs : starEach [a] X.env = [(false, eval a X.env)] := by rfl) : YI X xr tg (.Call (.Name "range" p) [a] [] pos) (mRng1 ma) := by
  (try simp only [YE_eq, YA_eq, YT_eq, YW_eq, YS_eq, YSs_eq, YI_eq, YG_eq, YF_eq, YQ_eq, YTs_eq, YM_eq] at *)
  exact Mi.si_rng1 hg hm ha hs
theorem si_rng2 {tg : Expr} {p : Pos} (hg : Gl X "range") (hm : X.mg "range" = none) (ha : YE X xr a ma) (hb : YE X xr b mb) (hs : starEach [a, b] X.env = [(false, eval a X.env), (false, eval b X.env)] := by rfl) (hs2 : starEach [b] X.env = [(false, eval b X.env)] := by rfl) : YI X xr tg (.Call (.Name "range" p) [a, b] [] pos) (mRng2 ma mb) := by
  (try simp only [YE_eq, YA_eq, YT_eq, YW_eq, YS_eq, YSs_eq, YI_eq, YG_eq, YF_eq, YQ_eq, YTs_eq, YM_eq] at *)
  exact Mi.si_rng2 hg hm ha hb hs hs2
theorem si_rngD {tg : Expr} {p p1 p2 : Pos} {k} (hg : Gl X "range") (hm : X.mg "range" = none) (ha : YE X xr a ma) (hb : YE X xr b mb)
    (h1 : starEach [a, b, .UnaryOp .USub (.Constant (.int 1) k p1) p2] X.env = (false, eval a X.env) :: starEach [b, .UnaryOp .USub (.Constant (.int 1) k p1) p2] X.env := by rfl)
    (h2 : starEach [b, .UnaryOp .USub (.Constant (.int 1) k p1) p2] X.env = (false, eval b X.env) :: starEach [.UnaryOp .USub (.Constant (.int 1) k p1) p2] X.env := by rfl)
    (h3 : (backTo pos (starEach [b, .UnaryOp .USub (.Constant (.int 1) k p1) p2] X.env)).any (·.1) = false := by rfl) :
    YI X xr tg (.Call (.Name "range" p) [a, b, .UnaryOp .USub (.Constant (.int 1) k p1) p2] [] pos) (mRngD ma mb) := by
  (try simp only [YE_eq, YA_eq, YT_eq, YW_eq, YS_eq, YSs_eq, YI_eq, YG_eq, YF_eq, YQ_eq, YTs_eq, YM_eq] at *)
  exact Mi.si_rngD hg hm ha hb h1 h2 h3
theorem si_zip {elts : List Expr} {kk : Nat} {tpos p : Pos} (hg : Gl X "zip") (hm : X.mg "zip" = none) (ha : YE X xr a ma) (hb : YE X xr b mb) (hs : starEach [a, b] X.env = (false, eval a X.env) :: starEach [b] X.env := by rfl) (hs2 : starEach [b] X.env = (false, eval b X.env) :: starEach [] X.env := by rfl) (hp : (backTo pos (starEach [b] X.env)).any (·.1) = false := by rfl) :
    YI X xr (.Tuple elts kk tpos) (.Call (.Name "zip" p) [a, b] [] pos) (mZip ma mb) := by
  (try simp only [YE_eq, YA_eq, YT_eq, YW_eq, YS_eq, YSs_eq, YI_eq, YG_eq, YF_eq, YQ_eq, YTs_eq, YM_eq] at *)
  exact Mi.si_zip hg hm ha hb hs hs2 hp
theorem sm_elt {elt : Expr} {gens : List Comprehension} {sc : Scope} {d : Nat} {me : Ev} (hx : ∀ e s, X.xe e s → False) (he : YE X xr0 elt me) (hg : gens[d + 1]? = none) : YM X elt gens sc pos d (emElt me) := by
  (try simp only [YE_eq, YA_eq, YT_eq, YW_eq, YS_eq, YSs_eq, YI_eq, YG_eq, YF_eq, YQ_eq, YTs_eq, YM_eq] at *)
  exact Mi.sm_elt hx he hg
theorem sm_for {elt tg iter : Expr} {ifs : List Expr} {gens : List Comprehension} {sc : Scope} {d : Nat} {mi : Ei} {tw : Tg} {mf : Ev} {em : Em} (hx : ∀ e s, X.xe e s → False) (hc : X.calm = true) (hg : gens[d + 1]? = some ⟨tg, iter, ifs, 0⟩) (ha : ∀ g', gens[d + 2]? = some g' → g'.is_async = 0)
    (hw : YI X xr0 tg iter mi) (hgt : YG X tg tw) (hi : YTs X ifs mf) (hm : YM X elt gens sc pos (d + 1) em) (hs : ∀ x, foldedSetIterable iter X.env x = pure x := by intro _; rfl) : YM X elt gens sc pos d (emFor mi tw mf em) := by
  (try simp only [YE_eq, YA_eq, YT_eq, YW_eq, YS_eq, YSs_eq, YI_eq, YG_eq, YF_eq, YQ_eq, YTs_eq, YM_eq] at *)
  exact Mi.sm_for hx hc hg ha hw hgt hi hm hs
theorem sq_E (h : YE X xr e m) : YQ X xr e (mSeq m) := by
  (try simp only [YE_eq, YA_eq, YT_eq, YW_eq, YS_eq, YSs_eq, YI_eq, YG_eq, YF_eq, YQ_eq, YTs_eq, YM_eq] at *)
  exact Mi.sq_E h
theorem sq_F {q : Eq'} (h : YF X xr e q) : YQ X xr e q := by
  (try simp only [YE_eq, YA_eq, YT_eq, YW_eq, YS_eq, YSs_eq, YI_eq, YG_eq, YF_eq, YQ_eq, YTs_eq, YM_eq] at *)
  exact Mi.sq_F h
theorem ss_aug (i : Nat) {x : Str} {pos' : Pos} (hN : X.N.Nodup) (he : YE X xr e m) (hi : X.N[i]? = some x := by rfl) (hx : Loc X.env.scope x := by first | exact Or.inl rfl | exact Or.inr rfl)
    (hf : X.fn x = true ∨ X.env.scope.names.lookup x = some .local := by first | exact .inl rfl | exact .inr rfl) : YS X xr (.AugAssign (.Name x pos') .Add e pos) (xAug i m) := by
  (try simp only [YE_eq, YA_eq, YT_eq, YW_eq, YS_eq, YSs_eq, YI_eq, YG_eq, YF_eq, YQ_eq, YTs_eq, YM_eq] at *)
  exact Mi.ss_aug i hN he hi hx hf
theorem ss_augS {o i : Expr} {mo mi : Ev} {tpos : Pos} (ho : YE X xr o mo) (hi : YE X xr i mi) (he : YE X xr e m)
    (ha : ∀ ov iv new, augStore i ov iv new = (do holding [new, ov, iv] (setItem ov iv new); release [new, ov, iv] []; pure .next) := by intros; rfl) : YS X xr (.AugAssign (.Subscript o i tpos) .Add e pos) (xAugS mo mi m) := by
  (try simp only [YE_eq, YA_eq, YT_eq, YW_eq, YS_eq, YSs_eq, YI_eq, YG_eq, YF_eq, YQ_eq, YTs_eq, YM_eq] at *)
  exact Mi.ss_augS ho hi he ha
theorem ss_bad : YS X xr st xBad := by
  (try simp only [YE_eq, YA_eq, YT_eq, YW_eq, YS_eq, YSs_eq, YI_eq, YG_eq, YF_eq, YQ_eq, YTs_eq, YM_eq] at *)
  exact Mi.ss_bad 
theorem ss_cons (h1 : YS X xr st m1) (h2 : YSs X xr rest m2) : YSs X xr (st :: rest) (xSeq m1 m2) := by
  (try simp only [YE_eq, YA_eq, YT_eq, YW_eq, YS_eq, YSs_eq, YI_eq, YG_eq, YF_eq, YQ_eq, YTs_eq, YM_eq] at *)
  exact Mi.ss_cons h1 h2
theorem ss_expr (he : YE X xr e m) (hs : swapsWith e none pos.line X.env = pure false := by rfl) : YS X xr (.Expr e pos) (xDo m) := by
  (try simp only [YE_eq, YA_eq, YT_eq, YW_eq, YS_eq, YSs_eq, YI_eq, YG_eq, YF_eq, YQ_eq, YTs_eq, YM_eq] at *)
  exact Mi.ss_expr he hs
theorem ss_for {tg iter : Expr} {body : List Stmt} {mi : Ei} {tw : Tg} (hp : PassesOwn (model X.prog X.w) X.A X.env X.xe) (hc : X.calm = true) (hi : YI X xr tg iter mi) (hg : YG X tg tw) (hb : YSs X xr body m1)
    (hs : ∀ x, foldedSetIterable iter X.env x = pure x := by intro _; rfl) : YS X xr (.For tg iter body [] pos) (xFor mi tw m1) := by
  (try simp only [YE_eq, YA_eq, YT_eq, YW_eq, YS_eq, YSs_eq, YI_eq, YG_eq, YF_eq, YQ_eq, YTs_eq, YM_eq] at *)
  exact Mi.ss_for hp hc hi hg hb hs
theorem ss_if {sa sb : List Stmt} (hc : YT X xr c mc) (ha : YSs X xr sa m1) (hb : YSs X xr sb m2) : YS X xr (.If c sa sb pos) (xIf mc m1 m2) := by
  (try simp only [YE_eq, YA_eq, YT_eq, YW_eq, YS_eq, YSs_eq, YI_eq, YG_eq, YF_eq, YQ_eq, YTs_eq, YM_eq] at *)
  exact Mi.ss_if hc ha hb
theorem ss_nil : YSs X xr [] xNil := by
  (try simp only [YE_eq, YA_eq, YT_eq, YW_eq, YS_eq, YSs_eq, YI_eq, YG_eq, YF_eq, YQ_eq, YTs_eq, YM_eq] at *)
  exact Mi.ss_nil 
theorem ss_ret (he : YE X xr e m) : YS X xr (.Return (some e) pos) (xRet m) := by
  (try simp only [YE_eq, YA_eq, YT_eq, YW_eq, YS_eq, YSs_eq, YI_eq, YG_eq, YF_eq, YQ_eq, YTs_eq, YM_eq] at *)
  exact Mi.ss_ret he
theorem ss_set (i : Nat) {x : Str} {pos' : Pos} (hN : X.N.Nodup) (he : YE X xr e m) (hi : X.N[i]? = some x := by rfl) (hx : Loc X.env.scope x := by first | exact Or.inl rfl | exact Or.inr rfl) (hs : swapsWith e (some (.Name x pos')) pos.line X.env = pure false := by rfl)
    (hf : X.fn x = true ∨ X.env.scope.names.lookup x = some .local := by first | exact .inl rfl | exact .inr rfl) : YS X xr (.Assign [.Name x pos'] e pos) (xSet i m) := by
  (try simp only [YE_eq, YA_eq, YT_eq, YW_eq, YS_eq, YSs_eq, YI_eq, YG_eq, YF_eq, YQ_eq, YTs_eq, YM_eq] at *)
  exact Mi.ss_set i hN he hi hx hs hf
theorem ss_setComp (i : Nat) {x : Str} {elt tg iter : Expr} {ifs : List Expr} {gs : List Comprehension} {sc : Scope} {mi : Ei} {tw : Tg} {mf : Ev} {em : Em} {N : List Str} {px spos : Pos} (nl : Nat) (cap : List Nat) (hN : X.N.Nodup)
    (hc : X.calm = true) (S : CpScope X sc) (hcap : capOk X.N N sc nl cap = true) (hw : YI X xr tg iter mi)
    (hin : ∀ s H fp, YG (cpCx X N sc s H fp noxe) tg tw ∧ YTs (cpCx X N sc s H fp noxe) ifs mf ∧ YM (cpCx X N sc s H fp noxe) elt (⟨tg, iter, ifs, 0⟩ :: gs) sc pos 0 em)
    (hi' : X.N[i]? = some x := by rfl) (hx : X.env.scope.names.lookup x = some .local := by rfl)
    (hsw : swapsWith (.ListComp elt (⟨tg, iter, ifs, 0⟩ :: gs) sc pos) (some (.Name x px)) spos.line X.env = pure true := by rfl)
    (ha : ∀ g', gs[0]? = some g' → g'.is_async = 0 := by intro _ h; cases h <;> rfl)
    (hs : ∀ x, foldedSetIterable iter X.env x = pure x := by intro _; rfl) : YS X xr (.Assign [.Name x px] (.ListComp elt (⟨tg, iter, ifs, 0⟩ :: gs) sc pos) spos) (xSet i (mList (cItems nl cap mi tw mf em))) := by
  (try simp only [YE_eq, YA_eq, YT_eq, YW_eq, YS_eq, YSs_eq, YI_eq, YG_eq, YF_eq, YQ_eq, YTs_eq, YM_eq] at *)
  exact Mi.ss_setComp i nl cap hN hc S hcap hw hin hi' hx hsw ha hs
theorem st_bool (h : YW X xr e m) : YT X xr e m := by
  (try simp only [YE_eq, YA_eq, YT_eq, YW_eq, YS_eq, YSs_eq, YI_eq, YG_eq, YF_eq, YQ_eq, YTs_eq, YM_eq] at *)
  exact Mi.st_bool h
theorem st_c {op : CmpOp} {g : W → W → Hx → R W} (h : CmpOk X op g) (ha : YE X xr a ma) (hb : YE X xr b mb) (h1 : op ≠ .In := by decide) (h2 : op ≠ .NotIn := by decide) : YT X xr (.Compare a [op] [b] pos) (mBin g ma mb) := by
  (try simp only [YE_eq, YA_eq, YT_eq, YW_eq, YS_eq, YSs_eq, YI_eq, YG_eq, YF_eq, YQ_eq, YTs_eq, YM_eq] at *)
  exact Mi.st_c h ha hb h1 h2
theorem st_c2 {op op' : CmpOp} {g g' : W → W → Hx → R W} (h : CmpOk X op g) (h' : CmpOk X op' g') (ha : YE X xr a ma) (hb : YE X xr b mb) (hc : YE X xr c mc) (hm : lastMarks [op, op'] [b, c] = false := by with_unfolding_all rfl) :
    YT X xr (.Compare a [op, op'] [b, c] pos) (mChain g g' ma mb mc) := by
  (try simp only [YE_eq, YA_eq, YT_eq, YW_eq, YS_eq, YSs_eq, YI_eq, YG_eq, YF_eq, YQ_eq, YTs_eq, YM_eq] at *)
  exact Mi.st_c2 h h' ha hb hc hm
theorem st_ci {op : CmpOp} {g : W → W → Hx → R W} (h : InOk X op g) (ha : YE X xr a ma) (hb : YE X xr b mb) (hm : behindInMarks op b = false := by rfl) : YT X xr (.Compare a [op] [b] pos) (mBin g ma mb) := by
  (try simp only [YE_eq, YA_eq, YT_eq, YW_eq, YS_eq, YSs_eq, YI_eq, YG_eq, YF_eq, YQ_eq, YTs_eq, YM_eq] at *)
  exact Mi.st_ci h ha hb hm
theorem st_not (ha : YT X xr a ma) : YT X xr (.UnaryOp .Not a pos) (mNot ma) := by
  (try simp only [YE_eq, YA_eq, YT_eq, YW_eq, YS_eq, YSs_eq, YI_eq, YG_eq, YF_eq, YQ_eq, YTs_eq, YM_eq] at *)
  exact Mi.st_not ha
theorem st_val (h : YE X xr e m) (he : ∀ whole, isTrue e X.env whole = (do let v ← whole; standAt e.pos; holding [v] (truthy v)) := by intro _; rfl) : YT X xr e m := by
  (try simp only [YE_eq, YA_eq, YT_eq, YW_eq, YS_eq, YSs_eq, YI_eq, YG_eq, YF_eq, YQ_eq, YTs_eq, YM_eq] at *)
  exact Mi.st_val h he
theorem sts_nil : YTs X [] (mLit (.bl true)) := by
  (try simp only [YE_eq, YA_eq, YT_eq, YW_eq, YS_eq, YSs_eq, YI_eq, YG_eq, YF_eq, YQ_eq, YTs_eq, YM_eq] at *)
  exact Mi.sts_nil 
theorem sts_one (h : YT X xr0 c mc) : YTs X [c] mc := by
  (try simp only [YE_eq, YA_eq, YT_eq, YW_eq, YS_eq, YSs_eq, YI_eq, YG_eq, YF_eq, YQ_eq, YTs_eq, YM_eq] at *)
  exact Mi.sts_one h
theorem sw_and {rest : List Expr} (ha : YT X xr a ma) (hb : YW X xr (.BoolOp .And (b :: rest) pos) mb) : YW X xr (.BoolOp .And (a :: b :: rest) pos) (mAnd ma mb) := by
  (try simp only [YE_eq, YA_eq, YT_eq, YW_eq, YS_eq, YSs_eq, YI_eq, YG_eq, YF_eq, YQ_eq, YTs_eq, YM_eq] at *)
  exact Mi.sw_and ha hb
theorem sw_and1 (ha : YT X xr a ma) : YW X xr (.BoolOp .And [a] pos) ma := by
  (try simp only [YE_eq, YA_eq, YT_eq, YW_eq, YS_eq, YSs_eq, YI_eq, YG_eq, YF_eq, YQ_eq, YTs_eq, YM_eq] at *)
  exact Mi.sw_and1 ha
theorem sw_or {rest : List Expr} (ha : YT X xr a ma) (hb : YW X xr (.BoolOp .Or (b :: rest) pos) mb) : YW X xr (.BoolOp .Or (a :: b :: rest) pos) (mOr ma mb) := by
  (try simp only [YE_eq, YA_eq, YT_eq, YW_eq, YS_eq, YSs_eq, YI_eq, YG_eq, YF_eq, YQ_eq, YTs_eq, YM_eq] at *)
  exact Mi.sw_or ha hb
theorem sw_or1 (ha : YT X xr a ma) : YW X xr (.BoolOp .Or [a] pos) ma := by
  (try simp only [YE_eq, YA_eq, YT_eq, YW_eq, YS_eq, YSs_eq, YI_eq, YG_eq, YF_eq, YQ_eq, YTs_eq, YM_eq] at *)
  exact Mi.sw_or1 ha
theorem fnM {P : Program} {w : World} {K : PySem.W.Frag} {mg : Str → Option Value} {base : Heap} {x : Str} {st : Stmt} {f : Addr} {fd : FuncData} {N ps : List Str} {k : Nat} {m : Ex} (F : Fun K x x st f fd) (hm : mg x = some (.ref f)) (S : FnScope N ps (defScope st))
    (hb : ∀ (kV doc pm : Value) (an : Option Addr) (cdv ct : Value) (us : List Value), us.length = ps.length → bindArgs (PySem.W.fnOf x x (defArgs st) (defBody st) (defScope st) .none kV doc pm an cdv ct) ⟨us, []⟩ = pure (ps.zip us))
    (hbody : ∀ (cdv : Value) (A : Around) (outer : List Env) (s : Shared) (H : Hp) (E : XK), Room k (A.deeper (envOfC x (defScope st) s.heap.objs.size f cdv)) → YSs (cxOf CX0 P w K mg base N x (defScope st) f cdv A outer s H E).nox xr0 (defBody st) m) :
    FnM P w K mg base (k + 1) x ps.length (runB N.length m) := by
  (try simp only [YE_eq, YA_eq, YT_eq, YW_eq, YS_eq, YSs_eq, YI_eq, YG_eq, YF_eq, YQ_eq, YTs_eq, YM_eq] at *)
  exact Mi.fnM F hm S hb hbody
theorem fnO {P : Program} {w : World} {K : PySem.W.Frag} {mg : Str → Option Value} {base : Heap} {x : Str} {st : Stmt} {f : Addr} {fd : FuncData} {N ps : List Str} {k : Nat} {m : Ex} (F : Fun K x x st f fd) (S : FnScope N ps (defScope st))
    (hbody : ∀ (cdv : Value) (A : Around) (outer : List Env) (s : Shared) (H : Hp) (E : XK), Room k (A.deeper (envOfC x (defScope st) s.heap.objs.size f cdv)) → YSs (cxOf CX0 P w K mg base N x (defScope st) f cdv A outer s H E).nox xr0 (defBody st) m) :
    FnOk P w K mg base CX0 (k + 1) f fd ps (spM K ps.length (runB N.length m)) := by
  (try simp only [YE_eq, YA_eq, YT_eq, YW_eq, YS_eq, YSs_eq, YI_eq, YG_eq, YF_eq, YQ_eq, YTs_eq, YM_eq] at *)
  exact Mi.fnO F S hbody
end
end Y
namespace G
open PySem L2 Mi
noncomputable def top (i : Nat) : Stmt := PySem.Challenge.pw_nearkinds_k63_whole_known_tables.main.body.getD i (.Pass ⟨0, 0, 0, 0⟩)
structure Bu (mg : Str → Option Value) : Prop where
  b_all : mg "all" = none
  b_any : mg "any" = none
  b_bool : mg "bool" = none
  b_enumerate : mg "enumerate" = none
  b_int : mg "int" = none
  b_isinstance : mg "isinstance" = none
  b_len : mg "len" = none
  b_list : mg "list" = none
  b_max : mg "max" = none
  b_min : mg "min" = none
  b_range : mg "range" = none
  b_sum : mg "sum" = none
  b_tuple : mg "tuple" = none
  b_zip : mg "zip" = none
  c_MOST_NUMBER_BY_RULE : ∃ t, mg "MOST_NUMBER_BY_RULE" = some (.int 9 t)
  c_MOST_PLACES : ∃ t, mg "MOST_PLACES" = some (.int 8 t)
  c_MOST_SIGNS_BY_RULE : ∃ t, mg "MOST_SIGNS_BY_RULE" = some (.int 12 t)
  c_MOST_THINGS : ∃ t, mg "MOST_THINGS" = some (.int 4 t)
noncomputable abbrev s_is_whole : Stmt := top 1
theorem sc_is_whole : FnScope ["thing"] ["thing"] (defScope s_is_whole) := ⟨rfl, rfl, rfl, by decide +kernel, rfl, by decide +kernel, by decide +kernel⟩
noncomputable def m_is_whole : Ex := xSeq (xRet (mAnd (mIs .int (mVar 0)) (mNot (mIs .bl (mVar 0))))) (xNil)
theorem r_is_whole {P : Program} {w : World} {K : PySem.W.Frag} {mg : Str → Option Value} {base : Heap} {k : Nat} (T : Bu mg) {f : Addr} {fd : FuncData} (F : Fun K "is_whole" "is_whole" s_is_whole f fd) (hm : mg "is_whole" = some (.ref f)) : FnM P w K mg base (k + 1) "is_whole" 1 (runB 1 (m_is_whole)) :=
  Y.fnM F hm sc_is_whole (fun _ _ _ _ _ _ us hl => (len1 hl).elim fun a q => by subst q; rfl) fun cdv A outer s H E hr => Y.ss_cons (Y.ss_ret (Y.se_and (Y.se_is .int T.b_isinstance T.b_int (by rfl) (Y.se_var 0)) (Y.se_one (Y.se_not (Y.se_is .bl T.b_isinstance T.b_bool (by rfl) (Y.se_var 0)))))) (Y.ss_nil)
noncomputable abbrev s_is_whole_below : Stmt := top 2
theorem sc_is_whole_below : FnScope ["thing", "limit"] ["thing", "limit"] (defScope s_is_whole_below) := ⟨rfl, rfl, rfl, by decide +kernel, rfl, by decide +kernel, by decide +kernel⟩
noncomputable def m_is_whole_below (f_is_whole : Fn) : Ex := xSeq (xRet (mAnd (mCall f_is_whole (aCons (mVar 0) (aNil))) (mChain gLe gLt (mLit (.int 0)) (mVar 0) (mVar 1)))) (xNil)
theorem r_is_whole_below {P : Program} {w : World} {K : PySem.W.Frag} {mg : Str → Option Value} {base : Heap} {k : Nat} (T : Bu mg) {f : Addr} {fd : FuncData} (F : Fun K "is_whole_below" "is_whole_below" s_is_whole_below f fd) (hm : mg "is_whole_below" = some (.ref f)) {f_is_whole : Fn} (F_is_whole : FnM P w K mg base k "is_whole" 1 f_is_whole) : FnM P w K mg base (k + 1) "is_whole_below" 2 (runB 2 (m_is_whole_below f_is_whole)) :=
  Y.fnM F hm sc_is_whole_below (fun _ _ _ _ _ _ us hl => (len2 hl).elim fun a h => h.elim fun b q => by subst q; rfl) fun cdv A outer s H E hr => Y.ss_cons (Y.ss_ret (Y.se_and (Y.se_call F_is_whole hr (Y.sa_cons (Y.se_var 0) (Y.sa_nil)) (al_cons al_nil)) (Y.se_one (Y.se_c2 c_le c_lt (Y.se_int) (Y.se_var 0) (Y.se_var 1))))) (Y.ss_nil)
noncomputable abbrev s_is_wholes : Stmt := top 3
theorem sc_is_wholes : FnScope ["thing", "many"] ["thing", "many"] (defScope s_is_wholes) := ⟨rfl, rfl, rfl, by decide +kernel, rfl, by decide +kernel, by decide +kernel⟩
noncomputable def m_is_wholes (f_is_whole : Fn) : Ex := xSeq (xRet (mAnd (mIs .tup (mVar 0)) (mAnd (mBin gEq (mQ gLen (mSeq (mVar 0))) (mVar 1)) (mQ gAll (cItems 1 [] (mIt (mVar 0)) (gVar 0) (mLit (.bl true)) (emElt (mCall f_is_whole (aCons (mVar 0) (aNil))))))))) (xNil)
theorem r_is_wholes {P : Program} {w : World} {K : PySem.W.Frag} {mg : Str → Option Value} {base : Heap} {k : Nat} (T : Bu mg) {f : Addr} {fd : FuncData} (F : Fun K "is_wholes" "is_wholes" s_is_wholes f fd) (hm : mg "is_wholes" = some (.ref f)) {f_is_whole : Fn} (F_is_whole : FnM P w K mg base k "is_whole" 1 f_is_whole) : FnM P w K mg base (k + 1) "is_wholes" 2 (runB 2 (m_is_wholes f_is_whole)) :=
  Y.fnM F hm sc_is_wholes (fun _ _ _ _ _ _ us hl => (len2 hl).elim fun a h => h.elim fun b q => by subst q; rfl) fun cdv A outer s H E hr => Y.ss_cons (Y.ss_ret (Y.se_and (Y.se_is .tup T.b_isinstance T.b_tuple (by rfl) (Y.se_var 0)) (Y.se_and (Y.se_c (c_eqD hr) (Y.se_len T.b_len (Y.sq_E (Y.se_var 0))) (Y.se_var 1)) (Y.se_one (Y.se_all rfl T.b_all (Y.sq_F (Y.sf_comp (N := ["part"]) 1 [] rfl (cps (by kernel_rfl)) (by kernel_rfl) (Y.si_E (Y.se_var 0)) (fun _ _ _ => ⟨Y.sg_var 0 (by decide +kernel : (["part"] : List Str).Nodup), Y.sts_nil, Y.sm_elt (fun _ _ z => z) (Y.se_call F_is_whole hr (Y.sa_cons (Y.se_var 0) (Y.sa_nil)) (al_cons al_nil)) rfl⟩)))))))) (Y.ss_nil)
noncomputable abbrev s_is_wholes_below : Stmt := top 4
theorem sc_is_wholes_below : FnScope ["thing", "many", "limit"] ["thing", "many", "limit"] (defScope s_is_wholes_below) := ⟨rfl, rfl, rfl, by decide +kernel, rfl, by decide +kernel, by decide +kernel⟩
noncomputable def m_is_wholes_below (f_is_wholes : Fn) : Ex := xSeq (xRet (mAnd (mCall f_is_wholes (aCons (mVar 0) (aCons (mVar 1) (aNil)))) (mQ gAll (cItems 1 [2] (mIt (mVar 0)) (gVar 0) (mLit (.bl true)) (emElt (mChain gLe gLt (mLit (.int 0)) (mVar 0) (mVar 1))))))) (xNil)
theorem r_is_wholes_below {P : Program} {w : World} {K : PySem.W.Frag} {mg : Str → Option Value} {base : Heap} {k : Nat} (T : Bu mg) {f : Addr} {fd : FuncData} (F : Fun K "is_wholes_below" "is_wholes_below" s_is_wholes_below f fd) (hm : mg "is_wholes_below" = some (.ref f)) {f_is_wholes : Fn} (F_is_wholes : FnM P w K mg base k "is_wholes" 2 f_is_wholes) : FnM P w K mg base (k + 1) "is_wholes_below" 3 (runB 3 (m_is_wholes_below f_is_wholes)) :=
  Y.fnM F hm sc_is_wholes_below (fun _ _ _ _ _ _ us hl => (len3 hl).elim fun a h => h.elim fun b h => h.elim fun c q => by subst q; rfl) fun cdv A outer s H E hr => Y.ss_cons (Y.ss_ret (Y.se_and (Y.se_call F_is_wholes hr (Y.sa_cons (Y.se_var 0) (Y.sa_cons (Y.se_var 1) (Y.sa_nil))) (al_cons (al_cons al_nil))) (Y.se_one (Y.se_all rfl T.b_all (Y.sq_F (Y.sf_comp (N := ["part", "limit"]) 1 [2] rfl (cps (by kernel_rfl)) (by kernel_rfl) (Y.si_E (Y.se_var 0)) (fun _ _ _ => ⟨Y.sg_var 0 (by decide +kernel : (["part", "limit"] : List Str).Nodup), Y.sts_nil, Y.sm_elt (fun _ _ z => z) (Y.se_c2 c_le c_lt (Y.se_int) (Y.se_var 0) (Y.se_var 1)) rfl⟩))))))) (Y.ss_nil)
noncomputable abbrev s_is_whole_between : Stmt := top 5
theorem sc_is_whole_between : FnScope ["thing", "least", "greatest"] ["thing", "least", "greatest"] (defScope s_is_whole_between) := ⟨rfl, rfl, rfl, by decide +kernel, rfl, by decide +kernel, by decide +kernel⟩
noncomputable def m_is_whole_between (f_is_whole : Fn) : Ex := xSeq (xRet (mAnd (mCall f_is_whole (aCons (mVar 0) (aNil))) (mChain gLe gLe (mVar 1) (mVar 0) (mVar 2)))) (xNil)
theorem r_is_whole_between {P : Program} {w : World} {K : PySem.W.Frag} {mg : Str → Option Value} {base : Heap} {k : Nat} (T : Bu mg) {f : Addr} {fd : FuncData} (F : Fun K "is_whole_between" "is_whole_between" s_is_whole_between f fd) (hm : mg "is_whole_between" = some (.ref f)) {f_is_whole : Fn} (F_is_whole : FnM P w K mg base k "is_whole" 1 f_is_whole) : FnM P w K mg base (k + 1) "is_whole_between" 3 (runB 3 (m_is_whole_between f_is_whole)) :=
  Y.fnM F hm sc_is_whole_between (fun _ _ _ _ _ _ us hl => (len3 hl).elim fun a h => h.elim fun b h => h.elim fun c q => by subst q; rfl) fun cdv A outer s H E hr => Y.ss_cons (Y.ss_ret (Y.se_and (Y.se_call F_is_whole hr (Y.sa_cons (Y.se_var 0) (Y.sa_nil)) (al_cons al_nil)) (Y.se_one (Y.se_c2 c_le c_le (Y.se_var 1) (Y.se_var 0) (Y.se_var 2))))) (Y.ss_nil)
noncomputable abbrev s_is_table : Stmt := top 14
theorem sc_is_table : FnScope ["thing", "many"] ["thing"] (defScope s_is_table) := ⟨rfl, rfl, rfl, by decide +kernel, rfl, by decide +kernel, by decide +kernel⟩
noncomputable def m_is_table (f_is_even : Fn) (f_is_wholes_below : Fn) (f_leaves_no_kind_out : Fn) : Ex := xSeq (xIf (mOr (mNot (mIs .tup (mVar 0))) (mNot (mChain gLe gLe (mLit (.int 1)) (mQ gLen (mSeq (mVar 0))) (mLit (.int 8))))) (xSeq (xRet (mLit (.bl false))) (xNil)) (xNil)) (xSeq (xSet 1 (mQ gLen (mSeq (mVar 0)))) (xSeq (xIf (mNot (mQ gAll (cItems 1 [1] (mIt (mVar 0)) (gVar 0) (mLit (.bl true)) (emElt (mCall f_is_wholes_below (aCons (mVar 0) (aCons (mVar 1) (aCons (mVar 1) (aNil))))))))) (xSeq (xRet (mLit (.bl false))) (xNil)) (xNil)) (xSeq (xRet (mAnd (mCall f_is_even (aCons (mVar 0) (aNil))) (mCall f_leaves_no_kind_out (aCons (mVar 0) (aNil))))) (xNil))))
theorem r_is_table {P : Program} {w : World} {K : PySem.W.Frag} {mg : Str → Option Value} {base : Heap} {k : Nat} (T : Bu mg) {f : Addr} {fd : FuncData} (F : Fun K "is_table" "is_table" s_is_table f fd) (hm : mg "is_table" = some (.ref f)) {f_is_even : Fn} (F_is_even : FnM P w K mg base k "is_even" 1 f_is_even) {f_is_wholes_below : Fn} (F_is_wholes_below : FnM P w K mg base k "is_wholes_below" 3 f_is_wholes_below) {f_leaves_no_kind_out : Fn} (F_leaves_no_kind_out : FnM P w K mg base k "leaves_no_kind_out" 1 f_leaves_no_kind_out) : FnM P w K mg base (k + 1) "is_table" 1 (runB 2 (m_is_table f_is_even f_is_wholes_below f_leaves_no_kind_out)) :=
  Y.fnM F hm sc_is_table (fun _ _ _ _ _ _ us hl => (len1 hl).elim fun a q => by subst q; rfl) fun cdv A outer s H E hr => Y.ss_cons (Y.ss_if (Y.st_bool (Y.sw_or (Y.st_not (Y.st_val (Y.se_is .tup T.b_isinstance T.b_tuple (by rfl) (Y.se_var 0)))) (Y.sw_or1 (Y.st_not (Y.st_c2 c_le c_le (Y.se_int) (Y.se_len T.b_len (Y.sq_E (Y.se_var 0))) (Y.se_glob rfl T.c_MOST_PLACES.choose_spec)))))) (Y.ss_cons (Y.ss_ret (Y.se_bl)) (Y.ss_nil)) (Y.ss_nil)) (Y.ss_cons (Y.ss_set 1 sc_is_table.nd (Y.se_len T.b_len (Y.sq_E (Y.se_var 0)))) (Y.ss_cons (Y.ss_if (Y.st_not (Y.st_val (Y.se_all rfl T.b_all (Y.sq_F (Y.sf_comp (N := ["row", "many"]) 1 [1] rfl (cps (by kernel_rfl)) (by kernel_rfl) (Y.si_E (Y.se_var 0)) (fun _ _ _ => ⟨Y.sg_var 0 (by decide +kernel : (["row", "many"] : List Str).Nodup), Y.sts_nil, Y.sm_elt (fun _ _ z => z) (Y.se_call F_is_wholes_below hr (Y.sa_cons (Y.se_var 0) (Y.sa_cons (Y.se_var 1) (Y.sa_cons (Y.se_var 1) (Y.sa_nil)))) (al_cons (al_cons (al_cons al_nil)))) rfl⟩)))))) (Y.ss_cons (Y.ss_ret (Y.se_bl)) (Y.ss_nil)) (Y.ss_nil)) (Y.ss_cons (Y.ss_ret (Y.se_and (Y.se_call F_is_even hr (Y.sa_cons (Y.se_var 0) (Y.sa_nil)) (al_cons al_nil)) (Y.se_one (Y.se_call F_leaves_no_kind_out hr (Y.sa_cons (Y.se_var 0) (Y.sa_nil)) (al_cons al_nil))))) (Y.ss_nil))))
noncomputable abbrev s_is_even : Stmt := top 15
theorem sc_is_even : FnScope ["rows", "a", "row", "b", "kind"] ["rows"] (defScope s_is_even) := ⟨rfl, rfl, rfl, by decide +kernel, rfl, by decide +kernel, by decide +kernel⟩
noncomputable def m_is_even : Ex := xSeq (xFor (mEnum (mVar 0)) (gPair 1 2) (xSeq (xFor (mEnum (mVar 2)) (gPair 3 4) (xSeq (xIf (mOr (mBin gNe (mBin gEq (mVar 4) (mLit (.int 0))) (mBin gEq (mVar 1) (mVar 3))) (mBin gNe (mBin gIx (mBin gIx (mVar 0) (mVar 3)) (mVar 1)) (mVar 4))) (xSeq (xRet (mLit (.bl false))) (xNil)) (xNil)) (xNil))) (xNil))) (xSeq (xRet (mLit (.bl true))) (xNil))
theorem r_is_even {P : Program} {w : World} {K : PySem.W.Frag} {mg : Str → Option Value} {base : Heap} {k : Nat} (T : Bu mg) {f : Addr} {fd : FuncData} (F : Fun K "is_even" "is_even" s_is_even f fd) (hm : mg "is_even" = some (.ref f)) : FnM P w K mg base (k + 1) "is_even" 1 (runB 5 (m_is_even)) :=
  Y.fnM F hm sc_is_even (fun _ _ _ _ _ _ us hl => (len1 hl).elim fun a q => by subst q; rfl) fun cdv A outer s H E hr => Y.ss_cons (Y.ss_for PassesOwn.never rfl (Y.si_enum rfl T.b_enumerate (Y.se_var 0)) (Y.sg_pair 1 2 rfl sc_is_even.nd) (Y.ss_cons (Y.ss_for PassesOwn.never rfl (Y.si_enum rfl T.b_enumerate (Y.se_var 2)) (Y.sg_pair 3 4 rfl sc_is_even.nd) (Y.ss_cons (Y.ss_if (Y.st_bool (Y.sw_or (Y.st_c (c_neD hr) (Y.se_c (c_eqD hr) (Y.se_var 4) (Y.se_int)) (Y.se_c (c_eqD hr) (Y.se_var 1) (Y.se_var 3))) (Y.sw_or1 (Y.st_c (c_neD hr) (Y.se_ix (Y.se_ix (Y.se_var 0) (Y.se_var 3)) (Y.se_var 1)) (Y.se_var 4))))) (Y.ss_cons (Y.ss_ret (Y.se_bl)) (Y.ss_nil)) (Y.ss_nil)) (Y.ss_nil))) (Y.ss_nil))) (Y.ss_cons (Y.ss_ret (Y.se_bl)) (Y.ss_nil))
noncomputable abbrev s_leaves_no_kind_out : Stmt := top 16
theorem sc_leaves_no_kind_out : FnScope ["rows", "standing"] ["rows"] (defScope s_leaves_no_kind_out) := ⟨rfl, rfl, rfl, by decide +kernel, rfl, by decide +kernel, by decide +kernel⟩
noncomputable def m_leaves_no_kind_out : Ex := xSeq (xSet 1 (mList (cItems 2 [] (mIt (mVar 0)) (gVar 0) (mLit (.bl true)) (emFor (mIt (mVar 0)) (gVar 1) (mLit (.bl true)) (emElt (mVar 1)))))) (xSeq (xRet (mQ gAll (cItems 1 [1] (mRng1 (mQ gMax (mSeq (mVar 1)))) (gVar 0) (mLit (.bl true)) (emElt (mBin gIn (mVar 0) (mVar 1)))))) (xNil))
theorem r_leaves_no_kind_out {P : Program} {w : World} {K : PySem.W.Frag} {mg : Str → Option Value} {base : Heap} {k : Nat} (T : Bu mg) {f : Addr} {fd : FuncData} (F : Fun K "leaves_no_kind_out" "leaves_no_kind_out" s_leaves_no_kind_out f fd) (hm : mg "leaves_no_kind_out" = some (.ref f)) : FnM P w K mg base (k + 1) "leaves_no_kind_out" 1 (runB 2 (m_leaves_no_kind_out)) :=
  Y.fnM F hm sc_leaves_no_kind_out (fun _ _ _ _ _ _ us hl => (len1 hl).elim fun a q => by subst q; rfl) fun cdv A outer s H E hr => Y.ss_cons (Y.ss_set 1 sc_leaves_no_kind_out.nd (Y.se_list (Y.sf_comp (N := ["row", "kind"]) 2 [] rfl (cps (by kernel_rfl)) (by kernel_rfl) (Y.si_E (Y.se_var 0)) (fun _ _ _ => ⟨Y.sg_var 0 (by decide +kernel : (["row", "kind"] : List Str).Nodup), Y.sts_nil, Y.sm_for (fun _ _ z => z) rfl rfl (by intro _ h; cases h <;> rfl) (Y.si_E (Y.se_var 0)) (Y.sg_var 1 (by decide +kernel : (["row", "kind"] : List Str).Nodup)) (Y.sts_nil) (Y.sm_elt (fun _ _ z => z) (Y.se_var 1) rfl)⟩)))) (Y.ss_cons (Y.ss_ret (Y.se_all rfl T.b_all (Y.sq_F (Y.sf_comp (N := ["kind", "standing"]) 1 [1] rfl (cps (by kernel_rfl)) (by kernel_rfl) (Y.si_rng1 rfl T.b_range (Y.se_max1 rfl T.b_max (Y.sq_E (Y.se_var 1)))) (fun _ _ _ => ⟨Y.sg_var 0 (by decide +kernel : (["kind", "standing"] : List Str).Nodup), Y.sts_nil, Y.sm_elt (fun _ _ z => z) (Y.se_ci c_in (Y.se_var 0) (Y.se_var 1)) rfl⟩))))) (Y.ss_nil))
noncomputable abbrev s_require_table : Stmt := top 17
theorem sc_require_table : FnScope ["table"] ["table"] (defScope s_require_table) := ⟨rfl, rfl, rfl, by decide +kernel, rfl, by decide +kernel, by decide +kernel⟩
noncomputable def m_require_table (f_is_table : Fn) : Ex := xSeq (xIf (mNot (mCall f_is_table (aCons (mVar 0) (aNil)))) (xSeq (xBad) (xNil)) (xNil)) (xNil)
theorem r_require_table {P : Program} {w : World} {K : PySem.W.Frag} {mg : Str → Option Value} {base : Heap} {k : Nat} (T : Bu mg) {f : Addr} {fd : FuncData} (F : Fun K "require_table" "require_table" s_require_table f fd) (hm : mg "require_table" = some (.ref f)) {f_is_table : Fn} (F_is_table : FnM P w K mg base k "is_table" 1 f_is_table) : FnM P w K mg base (k + 1) "require_table" 1 (runB 1 (m_require_table f_is_table)) :=
  Y.fnM F hm sc_require_table (fun _ _ _ _ _ _ us hl => (len1 hl).elim fun a q => by subst q; rfl) fun cdv A outer s H E hr => Y.ss_cons (Y.ss_if (Y.st_not (Y.st_val (Y.se_call F_is_table hr (Y.sa_cons (Y.se_var 0) (Y.sa_nil)) (al_cons al_nil)))) (Y.ss_cons (Y.ss_bad) (Y.ss_nil)) (Y.ss_nil)) (Y.ss_nil)
noncomputable abbrev s_count_kinds : Stmt := top 18
theorem sc_count_kinds : FnScope ["table"] ["table"] (defScope s_count_kinds) := ⟨rfl, rfl, rfl, by decide +kernel, rfl, by decide +kernel, by decide +kernel⟩
noncomputable def m_count_kinds : Ex := xSeq (xRet (mBin gAdd (mQ gMax (cItems 1 [] (mIt (mVar 0)) (gVar 0) (mLit (.bl true)) (emElt (mQ gMax (mSeq (mVar 0)))))) (mLit (.int 1)))) (xNil)
theorem r_count_kinds {P : Program} {w : World} {K : PySem.W.Frag} {mg : Str → Option Value} {base : Heap} {k : Nat} (T : Bu mg) {f : Addr} {fd : FuncData} (F : Fun K "count_kinds" "count_kinds" s_count_kinds f fd) (hm : mg "count_kinds" = some (.ref f)) : FnM P w K mg base (k + 1) "count_kinds" 1 (runB 1 (m_count_kinds)) :=
  Y.fnM F hm sc_count_kinds (fun _ _ _ _ _ _ us hl => (len1 hl).elim fun a q => by subst q; rfl) fun cdv A outer s H E hr => Y.ss_cons (Y.ss_ret (Y.se_add (Y.se_max1 rfl T.b_max (Y.sq_F (Y.sf_comp (N := ["row"]) 1 [] rfl (cps (by kernel_rfl)) (by kernel_rfl) (Y.si_E (Y.se_var 0)) (fun _ _ _ => ⟨Y.sg_var 0 (by decide +kernel : (["row"] : List Str).Nodup), Y.sts_nil, Y.sm_elt (fun _ _ z => z) (Y.se_max1 rfl T.b_max (Y.sq_E (Y.se_var 0))) rfl⟩)))) (Y.se_int))) (Y.ss_nil)
noncomputable abbrev s_kinds_many : Stmt := top 19
theorem sc_kinds_many : FnScope ["table"] ["table"] (defScope s_kinds_many) := ⟨rfl, rfl, rfl, by decide +kernel, rfl, by decide +kernel, by decide +kernel⟩
noncomputable def m_kinds_many (f_count_kinds : Fn) (f_require_table : Fn) : Ex := xSeq (xDo (mCall f_require_table (aCons (mVar 0) (aNil)))) (xSeq (xRet (mCall f_count_kinds (aCons (mVar 0) (aNil)))) (xNil))
theorem r_kinds_many {P : Program} {w : World} {K : PySem.W.Frag} {mg : Str → Option Value} {base : Heap} {k : Nat} (T : Bu mg) {f : Addr} {fd : FuncData} (F : Fun K "kinds_many" "kinds_many" s_kinds_many f fd) (hm : mg "kinds_many" = some (.ref f)) {f_count_kinds : Fn} (F_count_kinds : FnM P w K mg base k "count_kinds" 1 f_count_kinds) {f_require_table : Fn} (F_require_table : FnM P w K mg base k "require_table" 1 f_require_table) : FnM P w K mg base (k + 1) "kinds_many" 1 (runB 1 (m_kinds_many f_count_kinds f_require_table)) :=
  Y.fnM F hm sc_kinds_many (fun _ _ _ _ _ _ us hl => (len1 hl).elim fun a q => by subst q; rfl) fun cdv A outer s H E hr => Y.ss_cons (Y.ss_expr (Y.se_call F_require_table hr (Y.sa_cons (Y.se_var 0) (Y.sa_nil)) (al_cons al_nil))) (Y.ss_cons (Y.ss_ret (Y.se_call F_count_kinds hr (Y.sa_cons (Y.se_var 0) (Y.sa_nil)) (al_cons al_nil))) (Y.ss_nil))
noncomputable abbrev s_require_kind : Stmt := top 20
theorem sc_require_kind : FnScope ["table", "kind"] ["table", "kind"] (defScope s_require_kind) := ⟨rfl, rfl, rfl, by decide +kernel, rfl, by decide +kernel, by decide +kernel⟩
noncomputable def m_require_kind (f_count_kinds : Fn) (f_is_whole_below : Fn) : Ex := xSeq (xIf (mNot (mCall f_is_whole_below (aCons (mVar 1) (aCons (mCall f_count_kinds (aCons (mVar 0) (aNil))) (aNil))))) (xSeq (xBad) (xNil)) (xNil)) (xNil)
theorem r_require_kind {P : Program} {w : World} {K : PySem.W.Frag} {mg : Str → Option Value} {base : Heap} {k : Nat} (T : Bu mg) {f : Addr} {fd : FuncData} (F : Fun K "require_kind" "require_kind" s_require_kind f fd) (hm : mg "require_kind" = some (.ref f)) {f_count_kinds : Fn} (F_count_kinds : FnM P w K mg base k "count_kinds" 1 f_count_kinds) {f_is_whole_below : Fn} (F_is_whole_below : FnM P w K mg base k "is_whole_below" 2 f_is_whole_below) : FnM P w K mg base (k + 1) "require_kind" 2 (runB 2 (m_require_kind f_count_kinds f_is_whole_below)) :=
  Y.fnM F hm sc_require_kind (fun _ _ _ _ _ _ us hl => (len2 hl).elim fun a h => h.elim fun b q => by subst q; rfl) fun cdv A outer s H E hr => Y.ss_cons (Y.ss_if (Y.st_not (Y.st_val (Y.se_call F_is_whole_below hr (Y.sa_cons (Y.se_var 1) (Y.sa_cons (Y.se_call F_count_kinds hr (Y.sa_cons (Y.se_var 0) (Y.sa_nil)) (al_cons al_nil)) (Y.sa_nil))) (al_cons (al_cons al_nil))))) (Y.ss_cons (Y.ss_bad) (Y.ss_nil)) (Y.ss_nil)) (Y.ss_nil)
noncomputable abbrev s_count_shares : Stmt := top 21
theorem sc_count_shares : FnScope ["table", "one", "other", "many", "counts", "i", "j"] ["table", "one", "other"] (defScope s_count_shares) := ⟨rfl, rfl, rfl, by decide +kernel, rfl, by decide +kernel, by decide +kernel⟩
noncomputable def m_count_shares (f_count_kinds : Fn) : Ex := xSeq (xSet 3 (mCall f_count_kinds (aCons (mVar 0) (aNil)))) (xSeq (xSet 4 (mList (cItems 1 [3] (mRng1 (mVar 3)) (gVar 0) (mLit (.bl true)) (emElt (mBin gMul (mLst (aCons (mLit (.int 0)) (aNil))) (mVar 1)))))) (xSeq (xFor (mZip (mBin gIx (mVar 0) (mVar 1)) (mBin gIx (mVar 0) (mVar 2))) (gPair 5 6) (xSeq (xAugS (mBin gIx (mVar 4) (mVar 5)) (mVar 6) (mLit (.int 1))) (xNil))) (xSeq (xRet (mQ gTup (cItems 1 [] (mIt (mVar 4)) (gVar 0) (mLit (.bl true)) (emElt (mQ gTup (mSeq (mVar 0))))))) (xNil))))
theorem r_count_shares {P : Program} {w : World} {K : PySem.W.Frag} {mg : Str → Option Value} {base : Heap} {k : Nat} (T : Bu mg) {f : Addr} {fd : FuncData} (F : Fun K "count_shares" "count_shares" s_count_shares f fd) (hm : mg "count_shares" = some (.ref f)) {f_count_kinds : Fn} (F_count_kinds : FnM P w K mg base k "count_kinds" 1 f_count_kinds) : FnM P w K mg base (k + 1) "count_shares" 3 (runB 7 (m_count_shares f_count_kinds)) :=
  Y.fnM F hm sc_count_shares (fun _ _ _ _ _ _ us hl => (len3 hl).elim fun a h => h.elim fun b h => h.elim fun c q => by subst q; rfl) fun cdv A outer s H E hr => Y.ss_cons (Y.ss_set 3 sc_count_shares.nd (Y.se_call F_count_kinds hr (Y.sa_cons (Y.se_var 0) (Y.sa_nil)) (al_cons al_nil))) (Y.ss_cons (Y.ss_setComp 4 (N := ["kind", "many"]) 1 [3] sc_count_shares.nd rfl (cps (by kernel_rfl)) (by kernel_rfl) (Y.si_rng1 rfl T.b_range (Y.se_var 3)) (fun _ _ _ => ⟨Y.sg_var 0 (by decide +kernel : (["kind", "many"] : List Str).Nodup), Y.sts_nil, Y.sm_elt (fun _ _ z => z) (Y.se_mul (Y.se_lstN (Y.sa_cons (Y.se_int) (Y.sa_nil)) (al_cons al_nil)) (Y.se_var 1)) rfl⟩)) (Y.ss_cons (Y.ss_for PassesOwn.never rfl (Y.si_zip rfl T.b_zip (Y.se_ix (Y.se_var 0) (Y.se_var 1)) (Y.se_ix (Y.se_var 0) (Y.se_var 2))) (Y.sg_pair 5 6 rfl sc_count_shares.nd) (Y.ss_cons (Y.ss_augS (Y.se_ix (Y.se_var 4) (Y.se_var 5)) (Y.se_var 6) (Y.se_int)) (Y.ss_nil))) (Y.ss_cons (Y.ss_ret (Y.se_tuple T.b_tuple (Y.sq_F (Y.sf_comp (N := ["row"]) 1 [] rfl (cps (by kernel_rfl)) (by kernel_rfl) (Y.si_E (Y.se_var 4)) (fun _ _ _ => ⟨Y.sg_var 0 (by decide +kernel : (["row"] : List Str).Nodup), Y.sts_nil, Y.sm_elt (fun _ _ z => z) (Y.se_tuple T.b_tuple (Y.sq_E (Y.se_var 0))) rfl⟩))))) (Y.ss_nil))))
noncomputable abbrev s_first_pairs : Stmt := top 22
theorem sc_first_pairs : FnScope ["table", "firsts", "a", "row", "b", "kind"] ["table"] (defScope s_first_pairs) := ⟨rfl, rfl, rfl, by decide +kernel, rfl, by decide +kernel, by decide +kernel⟩
noncomputable def m_first_pairs : Ex := xSeq (xSet 1 (mDct)) (xSeq (xFor (mEnum (mVar 0)) (gPair 2 3) (xSeq (xFor (mEnum (mVar 3)) (gPair 4 5) (xSeq (xDo (mMeth2 gSetdef (mVar 1) (mVar 5) (mTup (aCons (mVar 2) (aCons (mVar 4) (aNil)))))) (xNil))) (xNil))) (xSeq (xRet (mVar 1)) (xNil)))
theorem r_first_pairs {P : Program} {w : World} {K : PySem.W.Frag} {mg : Str → Option Value} {base : Heap} {k : Nat} (T : Bu mg) {f : Addr} {fd : FuncData} (F : Fun K "first_pairs" "first_pairs" s_first_pairs f fd) (hm : mg "first_pairs" = some (.ref f)) : FnM P w K mg base (k + 1) "first_pairs" 1 (runB 6 (m_first_pairs)) :=
  Y.fnM F hm sc_first_pairs (fun _ _ _ _ _ _ us hl => (len1 hl).elim fun a q => by subst q; rfl) fun cdv A outer s H E hr => Y.ss_cons (Y.ss_set 1 sc_first_pairs.nd (Y.se_dct)) (Y.ss_cons (Y.ss_for PassesOwn.never rfl (Y.si_enum rfl T.b_enumerate (Y.se_var 0)) (Y.sg_pair 2 3 rfl sc_first_pairs.nd) (Y.ss_cons (Y.ss_for PassesOwn.never rfl (Y.si_enum rfl T.b_enumerate (Y.se_var 3)) (Y.sg_pair 4 5 rfl sc_first_pairs.nd) (Y.ss_cons (Y.ss_expr (Y.se_setdef (Y.se_var 1) (Y.se_var 5) (Y.se_tupN (Y.sa_cons (Y.se_var 2) (Y.sa_cons (Y.se_var 4) (Y.sa_nil))) (al_cons (al_cons al_nil))))) (Y.ss_nil))) (Y.ss_nil))) (Y.ss_cons (Y.ss_ret (Y.se_var 1)) (Y.ss_nil)))
noncomputable abbrev s_kind_shares : Stmt := top 23
theorem sc_kind_shares : FnScope ["table", "firsts", "pairs"] ["table"] (defScope s_kind_shares) := ⟨rfl, rfl, rfl, by decide +kernel, rfl, by decide +kernel, by decide +kernel⟩
noncomputable def m_kind_shares (f_count_kinds : Fn) (f_count_shares : Fn) (f_first_pairs : Fn) : Ex := xSeq (xSet 1 (mCall f_first_pairs (aCons (mVar 0) (aNil)))) (xSeq (xSet 2 (mList (cItems 1 [1] (mRng1 (mCall f_count_kinds (aCons (mVar 0) (aNil)))) (gVar 0) (mLit (.bl true)) (emElt (mBin gDget (mVar 1) (mVar 0)))))) (xSeq (xRet (mList (cItems 2 [0] (mIt (mVar 2)) (gPair 0 1) (mLit (.bl true)) (emElt (mCall f_count_shares (aCons (mVar 2) (aCons (mVar 0) (aCons (mVar 1) (aNil))))))))) (xNil)))
theorem r_kind_shares {P : Program} {w : World} {K : PySem.W.Frag} {mg : Str → Option Value} {base : Heap} {k : Nat} (T : Bu mg) {f : Addr} {fd : FuncData} (F : Fun K "kind_shares" "kind_shares" s_kind_shares f fd) (hm : mg "kind_shares" = some (.ref f)) {f_count_kinds : Fn} (F_count_kinds : FnM P w K mg base k "count_kinds" 1 f_count_kinds) {f_count_shares : Fn} (F_count_shares : FnM P w K mg base k "count_shares" 3 f_count_shares) {f_first_pairs : Fn} (F_first_pairs : FnM P w K mg base k "first_pairs" 1 f_first_pairs) : FnM P w K mg base (k + 1) "kind_shares" 1 (runB 3 (m_kind_shares f_count_kinds f_count_shares f_first_pairs)) :=
  Y.fnM F hm sc_kind_shares (fun _ _ _ _ _ _ us hl => (len1 hl).elim fun a q => by subst q; rfl) fun cdv A outer s H E hr => Y.ss_cons (Y.ss_set 1 sc_kind_shares.nd (Y.se_call F_first_pairs hr (Y.sa_cons (Y.se_var 0) (Y.sa_nil)) (al_cons al_nil))) (Y.ss_cons (Y.ss_setComp 2 (N := ["kind", "firsts"]) 1 [1] sc_kind_shares.nd rfl (cps (by kernel_rfl)) (by kernel_rfl) (Y.si_rng1 rfl T.b_range (Y.se_call F_count_kinds hr (Y.sa_cons (Y.se_var 0) (Y.sa_nil)) (al_cons al_nil))) (fun _ _ _ => ⟨Y.sg_var 0 (by decide +kernel : (["kind", "firsts"] : List Str).Nodup), Y.sts_nil, Y.sm_elt (fun _ _ z => z) (Y.se_dgetK hr (Y.se_var 1) (Y.se_var 0)) rfl⟩)) (Y.ss_cons (Y.ss_ret (Y.se_list (Y.sf_comp (N := ["a", "b", "table"]) 2 [0] rfl (cps (by kernel_rfl)) (by kernel_rfl) (Y.si_E (Y.se_var 2)) (fun _ _ _ => ⟨Y.sg_pair 0 1 rfl (by decide +kernel : (["a", "b", "table"] : List Str).Nodup), Y.sts_nil, Y.sm_elt (fun _ _ z => z) (Y.se_call F_count_shares hr (Y.sa_cons (Y.se_var 2) (Y.sa_cons (Y.se_var 0) (Y.sa_cons (Y.se_var 1) (Y.sa_nil)))) (al_cons (al_cons (al_cons al_nil)))) rfl⟩)))) (Y.ss_nil)))
noncomputable abbrev s_search_break : Stmt := top 24
theorem sc_search_break : FnScope ["table", "kind", "a", "b", "shares", "c", "row", "e", "by"] ["table"] (defScope s_search_break) := ⟨rfl, rfl, rfl, by decide +kernel, rfl, by decide +kernel, by decide +kernel⟩
noncomputable def m_search_break (f_count_shares : Fn) (f_first_pairs : Fn) : Ex := xSeq (xFor (mItems (mCall f_first_pairs (aCons (mVar 0) (aNil)))) (gPair3 1 2 3) (xSeq (xSet 4 (mCall f_count_shares (aCons (mVar 0) (aCons (mVar 2) (aCons (mVar 3) (aNil)))))) (xSeq (xFor (mEnum (mVar 0)) (gPair 5 6) (xSeq (xFor (mEnum (mVar 6)) (gPair 7 8) (xSeq (xIf (mAnd (mBin gEq (mVar 8) (mVar 1)) (mBin gNe (mCall f_count_shares (aCons (mVar 0) (aCons (mVar 5) (aCons (mVar 7) (aNil))))) (mVar 4))) (xSeq (xRet (mTup (aCons (mVar 2) (aCons (mVar 3) (aCons (mVar 5) (aCons (mVar 7) (aNil))))))) (xNil)) (xNil)) (xNil))) (xNil))) (xNil)))) (xSeq (xRet (mLit .non)) (xNil))
theorem r_search_break {P : Program} {w : World} {K : PySem.W.Frag} {mg : Str → Option Value} {base : Heap} {k : Nat} (T : Bu mg) {f : Addr} {fd : FuncData} (F : Fun K "search_break" "search_break" s_search_break f fd) (hm : mg "search_break" = some (.ref f)) {f_count_shares : Fn} (F_count_shares : FnM P w K mg base k "count_shares" 3 f_count_shares) {f_first_pairs : Fn} (F_first_pairs : FnM P w K mg base k "first_pairs" 1 f_first_pairs) : FnM P w K mg base (k + 1) "search_break" 1 (runB 9 (m_search_break f_count_shares f_first_pairs)) :=
  Y.fnM F hm sc_search_break (fun _ _ _ _ _ _ us hl => (len1 hl).elim fun a q => by subst q; rfl) fun cdv A outer s H E hr => Y.ss_cons (Y.ss_for PassesOwn.never rfl (Y.si_items (Y.se_call F_first_pairs hr (Y.sa_cons (Y.se_var 0) (Y.sa_nil)) (al_cons al_nil))) (Y.sg_pair3 1 2 3 rfl sc_search_break.nd) (Y.ss_cons (Y.ss_set 4 sc_search_break.nd (Y.se_call F_count_shares hr (Y.sa_cons (Y.se_var 0) (Y.sa_cons (Y.se_var 2) (Y.sa_cons (Y.se_var 3) (Y.sa_nil)))) (al_cons (al_cons (al_cons al_nil))))) (Y.ss_cons (Y.ss_for PassesOwn.never rfl (Y.si_enum rfl T.b_enumerate (Y.se_var 0)) (Y.sg_pair 5 6 rfl sc_search_break.nd) (Y.ss_cons (Y.ss_for PassesOwn.never rfl (Y.si_enum rfl T.b_enumerate (Y.se_var 6)) (Y.sg_pair 7 8 rfl sc_search_break.nd) (Y.ss_cons (Y.ss_if (Y.st_bool (Y.sw_and (Y.st_c (c_eqD hr) (Y.se_var 8) (Y.se_var 1)) (Y.sw_and1 (Y.st_c (c_neD hr) (Y.se_call F_count_shares hr (Y.sa_cons (Y.se_var 0) (Y.sa_cons (Y.se_var 5) (Y.sa_cons (Y.se_var 7) (Y.sa_nil)))) (al_cons (al_cons (al_cons al_nil)))) (Y.se_var 4))))) (Y.ss_cons (Y.ss_ret (Y.se_tupN (Y.sa_cons (Y.se_var 2) (Y.sa_cons (Y.se_var 3) (Y.sa_cons (Y.se_var 5) (Y.sa_cons (Y.se_var 7) (Y.sa_nil))))) (al_cons (al_cons (al_cons (al_cons al_nil)))))) (Y.ss_nil)) (Y.ss_nil)) (Y.ss_nil))) (Y.ss_nil))) (Y.ss_nil)))) (Y.ss_cons (Y.ss_ret (Y.se_non)) (Y.ss_nil))
noncomputable abbrev s_is_steady : Stmt := top 25
theorem sc_is_steady : FnScope ["table"] ["table"] (defScope s_is_steady) := ⟨rfl, rfl, rfl, by decide +kernel, rfl, by decide +kernel, by decide +kernel⟩
noncomputable def m_is_steady (f_require_table : Fn) (f_search_break : Fn) : Ex := xSeq (xDo (mCall f_require_table (aCons (mVar 0) (aNil)))) (xSeq (xRet (mBin (gIs false) (mCall f_search_break (aCons (mVar 0) (aNil))) (mLit .non))) (xNil))
theorem r_is_steady {P : Program} {w : World} {K : PySem.W.Frag} {mg : Str → Option Value} {base : Heap} {k : Nat} (T : Bu mg) {f : Addr} {fd : FuncData} (F : Fun K "is_steady" "is_steady" s_is_steady f fd) (hm : mg "is_steady" = some (.ref f)) {f_require_table : Fn} (F_require_table : FnM P w K mg base k "require_table" 1 f_require_table) {f_search_break : Fn} (F_search_break : FnM P w K mg base k "search_break" 1 f_search_break) : FnM P w K mg base (k + 1) "is_steady" 1 (runB 1 (m_is_steady f_require_table f_search_break)) :=
  Y.fnM F hm sc_is_steady (fun _ _ _ _ _ _ us hl => (len1 hl).elim fun a q => by subst q; rfl) fun cdv A outer s H E hr => Y.ss_cons (Y.ss_expr (Y.se_call F_require_table hr (Y.sa_cons (Y.se_var 0) (Y.sa_nil)) (al_cons al_nil))) (Y.ss_cons (Y.ss_ret (Y.se_c c_is (Y.se_call F_search_break hr (Y.sa_cons (Y.se_var 0) (Y.sa_nil)) (al_cons al_nil)) (Y.se_non))) (Y.ss_nil))
noncomputable abbrev s_require_steady : Stmt := top 26
theorem sc_require_steady : FnScope ["table"] ["table"] (defScope s_require_steady) := ⟨rfl, rfl, rfl, by decide +kernel, rfl, by decide +kernel, by decide +kernel⟩
noncomputable def m_require_steady (f_require_table : Fn) (f_search_break : Fn) : Ex := xSeq (xDo (mCall f_require_table (aCons (mVar 0) (aNil)))) (xSeq (xIf (mBin (gIs true) (mCall f_search_break (aCons (mVar 0) (aNil))) (mLit .non)) (xSeq (xBad) (xNil)) (xNil)) (xNil))
theorem r_require_steady {P : Program} {w : World} {K : PySem.W.Frag} {mg : Str → Option Value} {base : Heap} {k : Nat} (T : Bu mg) {f : Addr} {fd : FuncData} (F : Fun K "require_steady" "require_steady" s_require_steady f fd) (hm : mg "require_steady" = some (.ref f)) {f_require_table : Fn} (F_require_table : FnM P w K mg base k "require_table" 1 f_require_table) {f_search_break : Fn} (F_search_break : FnM P w K mg base k "search_break" 1 f_search_break) : FnM P w K mg base (k + 1) "require_steady" 1 (runB 1 (m_require_steady f_require_table f_search_break)) :=
  Y.fnM F hm sc_require_steady (fun _ _ _ _ _ _ us hl => (len1 hl).elim fun a q => by subst q; rfl) fun cdv A outer s H E hr => Y.ss_cons (Y.ss_expr (Y.se_call F_require_table hr (Y.sa_cons (Y.se_var 0) (Y.sa_nil)) (al_cons al_nil))) (Y.ss_cons (Y.ss_if (Y.st_c c_isnot (Y.se_call F_search_break hr (Y.sa_cons (Y.se_var 0) (Y.sa_nil)) (al_cons al_nil)) (Y.se_non)) (Y.ss_cons (Y.ss_bad) (Y.ss_nil)) (Y.ss_nil)) (Y.ss_nil))
noncomputable abbrev s_require_number : Stmt := top 31
theorem sc_require_number : FnScope ["number", "least", "greatest"] ["number", "least", "greatest"] (defScope s_require_number) := ⟨rfl, rfl, rfl, by decide +kernel, rfl, by decide +kernel, by decide +kernel⟩
noncomputable def m_require_number (f_is_whole_between : Fn) : Ex := xSeq (xIf (mNot (mCall f_is_whole_between (aCons (mVar 0) (aCons (mVar 1) (aCons (mVar 2) (aNil)))))) (xSeq (xBad) (xNil)) (xNil)) (xNil)
theorem r_require_number {P : Program} {w : World} {K : PySem.W.Frag} {mg : Str → Option Value} {base : Heap} {k : Nat} (T : Bu mg) {f : Addr} {fd : FuncData} (F : Fun K "require_number" "require_number" s_require_number f fd) (hm : mg "require_number" = some (.ref f)) {f_is_whole_between : Fn} (F_is_whole_between : FnM P w K mg base k "is_whole_between" 3 f_is_whole_between) : FnM P w K mg base (k + 1) "require_number" 3 (runB 3 (m_require_number f_is_whole_between)) :=
  Y.fnM F hm sc_require_number (fun _ _ _ _ _ _ us hl => (len3 hl).elim fun a h => h.elim fun b h => h.elim fun c q => by subst q; rfl) fun cdv A outer s H E hr => Y.ss_cons (Y.ss_if (Y.st_not (Y.st_val (Y.se_call F_is_whole_between hr (Y.sa_cons (Y.se_var 0) (Y.sa_cons (Y.se_var 1) (Y.sa_cons (Y.se_var 2) (Y.sa_nil)))) (al_cons (al_cons (al_cons al_nil)))))) (Y.ss_cons (Y.ss_bad) (Y.ss_nil)) (Y.ss_nil)) (Y.ss_nil)
noncomputable abbrev s_require_kind_to : Stmt := top 32
theorem sc_require_kind_to : FnScope ["kind", "greatest"] ["kind", "greatest"] (defScope s_require_kind_to) := ⟨rfl, rfl, rfl, by decide +kernel, rfl, by decide +kernel, by decide +kernel⟩
noncomputable def m_require_kind_to (f_is_whole_between : Fn) : Ex := xSeq (xIf (mNot (mCall f_is_whole_between (aCons (mVar 0) (aCons (mLit (.int 0)) (aCons (mVar 1) (aNil)))))) (xSeq (xBad) (xNil)) (xNil)) (xNil)
theorem r_require_kind_to {P : Program} {w : World} {K : PySem.W.Frag} {mg : Str → Option Value} {base : Heap} {k : Nat} (T : Bu mg) {f : Addr} {fd : FuncData} (F : Fun K "require_kind_to" "require_kind_to" s_require_kind_to f fd) (hm : mg "require_kind_to" = some (.ref f)) {f_is_whole_between : Fn} (F_is_whole_between : FnM P w K mg base k "is_whole_between" 3 f_is_whole_between) : FnM P w K mg base (k + 1) "require_kind_to" 2 (runB 2 (m_require_kind_to f_is_whole_between)) :=
  Y.fnM F hm sc_require_kind_to (fun _ _ _ _ _ _ us hl => (len2 hl).elim fun a h => h.elim fun b q => by subst q; rfl) fun cdv A outer s H E hr => Y.ss_cons (Y.ss_if (Y.st_not (Y.st_val (Y.se_call F_is_whole_between hr (Y.sa_cons (Y.se_var 0) (Y.sa_cons (Y.se_int) (Y.sa_cons (Y.se_var 1) (Y.sa_nil)))) (al_cons (al_cons (al_cons al_nil)))))) (Y.ss_cons (Y.ss_bad) (Y.ss_nil)) (Y.ss_nil)) (Y.ss_nil)
noncomputable abbrev s_raised : Stmt := top 33
theorem sc_raised : FnScope ["base", "times", "result", "turn"] ["base", "times"] (defScope s_raised) := ⟨rfl, rfl, rfl, by decide +kernel, rfl, by decide +kernel, by decide +kernel⟩
noncomputable def m_raised : Ex := xSeq (xSet 2 (mLit (.int 1))) (xSeq (xFor (mRng1 (mVar 1)) (gVar 3) (xSeq (xSet 2 (mBin gMul (mVar 2) (mVar 0))) (xNil))) (xSeq (xRet (mVar 2)) (xNil)))
theorem r_raised {P : Program} {w : World} {K : PySem.W.Frag} {mg : Str → Option Value} {base : Heap} {k : Nat} (T : Bu mg) {f : Addr} {fd : FuncData} (F : Fun K "raised" "raised" s_raised f fd) (hm : mg "raised" = some (.ref f)) : FnM P w K mg base (k + 1) "raised" 2 (runB 4 (m_raised)) :=
  Y.fnM F hm sc_raised (fun _ _ _ _ _ _ us hl => (len2 hl).elim fun a h => h.elim fun b q => by subst q; rfl) fun cdv A outer s H E hr => Y.ss_cons (Y.ss_set 2 sc_raised.nd (Y.se_int)) (Y.ss_cons (Y.ss_for PassesOwn.never rfl (Y.si_rng1 rfl T.b_range (Y.se_var 1)) (Y.sg_var 3 sc_raised.nd) (Y.ss_cons (Y.ss_set 2 sc_raised.nd (Y.se_mul (Y.se_var 2) (Y.se_var 0))) (Y.ss_nil))) (Y.ss_cons (Y.ss_ret (Y.se_var 2)) (Y.ss_nil)))
noncomputable abbrev s_count_lots : Stmt := top 34
theorem sc_count_lots : FnScope ["some", "many", "result", "step"] ["some", "many"] (defScope s_count_lots) := ⟨rfl, rfl, rfl, by decide +kernel, rfl, by decide +kernel, by decide +kernel⟩
noncomputable def m_count_lots : Ex := xSeq (xSet 2 (mLit (.int 1))) (xSeq (xFor (mRng1 (mVar 0)) (gVar 3) (xSeq (xSet 2 (mBin gDiv (mBin gMul (mVar 2) (mBin gSub (mVar 1) (mVar 3))) (mBin gAdd (mVar 3) (mLit (.int 1))))) (xNil))) (xSeq (xRet (mVar 2)) (xNil)))
theorem r_count_lots {P : Program} {w : World} {K : PySem.W.Frag} {mg : Str → Option Value} {base : Heap} {k : Nat} (T : Bu mg) {f : Addr} {fd : FuncData} (F : Fun K "count_lots" "count_lots" s_count_lots f fd) (hm : mg "count_lots" = some (.ref f)) : FnM P w K mg base (k + 1) "count_lots" 2 (runB 4 (m_count_lots)) :=
  Y.fnM F hm sc_count_lots (fun _ _ _ _ _ _ us hl => (len2 hl).elim fun a h => h.elim fun b q => by subst q; rfl) fun cdv A outer s H E hr => Y.ss_cons (Y.ss_set 2 sc_count_lots.nd (Y.se_int)) (Y.ss_cons (Y.ss_for PassesOwn.never rfl (Y.si_rng1 rfl T.b_range (Y.se_var 0)) (Y.sg_var 3 sc_count_lots.nd) (Y.ss_cons (Y.ss_set 2 sc_count_lots.nd (Y.se_div (Y.se_mul (Y.se_var 2) (Y.se_sub (Y.se_var 1) (Y.se_var 3))) (Y.se_add (Y.se_var 3) (Y.se_int)))) (Y.ss_nil))) (Y.ss_cons (Y.ss_ret (Y.se_var 2)) (Y.ss_nil)))
noncomputable abbrev s_list_words : Stmt := top 35
theorem sc_list_words : FnScope ["many", "signs", "words", "turn"] ["many", "signs"] (defScope s_list_words) := ⟨rfl, rfl, rfl, by decide +kernel, rfl, by decide +kernel, by decide +kernel⟩
noncomputable def m_list_words : Ex := xSeq (xSet 2 (mLst (aCons (mTup (aNil)) (aNil)))) (xSeq (xFor (mRng1 (mVar 0)) (gVar 3) (xSeq (xSet 2 (mList (cItems 2 [1] (mIt (mVar 2)) (gVar 0) (mLit (.bl true)) (emFor (mRng1 (mVar 2)) (gVar 1) (mLit (.bl true)) (emElt (mBin gAdd (mVar 0) (mTup (aCons (mVar 1) (aNil))))))))) (xNil))) (xSeq (xRet (mVar 2)) (xNil)))
theorem r_list_words {P : Program} {w : World} {K : PySem.W.Frag} {mg : Str → Option Value} {base : Heap} {k : Nat} (T : Bu mg) {f : Addr} {fd : FuncData} (F : Fun K "list_words" "list_words" s_list_words f fd) (hm : mg "list_words" = some (.ref f)) : FnM P w K mg base (k + 1) "list_words" 2 (runB 4 (m_list_words)) :=
  Y.fnM F hm sc_list_words (fun _ _ _ _ _ _ us hl => (len2 hl).elim fun a h => h.elim fun b q => by subst q; rfl) fun cdv A outer s H E hr => Y.ss_cons (Y.ss_set 2 sc_list_words.nd (Y.se_lstN (Y.sa_cons (Y.se_tupN (Y.sa_nil) (al_nil)) (Y.sa_nil)) (al_cons al_nil))) (Y.ss_cons (Y.ss_for PassesOwn.never rfl (Y.si_rng1 rfl T.b_range (Y.se_var 0)) (Y.sg_var 3 sc_list_words.nd) (Y.ss_cons (Y.ss_setComp 2 (N := ["word", "sign", "signs"]) 2 [1] sc_list_words.nd rfl (cps (by kernel_rfl)) (by kernel_rfl) (Y.si_E (Y.se_var 2)) (fun _ _ _ => ⟨Y.sg_var 0 (by decide +kernel : (["word", "sign", "signs"] : List Str).Nodup), Y.sts_nil, Y.sm_for (fun _ _ z => z) rfl rfl (by intro _ h; cases h <;> rfl) (Y.si_rng1 rfl T.b_range (Y.se_var 2)) (Y.sg_var 1 (by decide +kernel : (["word", "sign", "signs"] : List Str).Nodup)) (Y.sts_nil) (Y.sm_elt (fun _ _ z => z) (Y.se_add (Y.se_var 0) (Y.se_tupN (Y.sa_cons (Y.se_var 1) (Y.sa_nil)) (al_cons al_nil))) rfl)⟩)) (Y.ss_nil))) (Y.ss_cons (Y.ss_ret (Y.se_var 2)) (Y.ss_nil)))
noncomputable abbrev s_count_unlike : Stmt := top 36
theorem sc_count_unlike : FnScope ["one", "other"] ["one", "other"] (defScope s_count_unlike) := ⟨rfl, rfl, rfl, by decide +kernel, rfl, by decide +kernel, by decide +kernel⟩
noncomputable def m_count_unlike : Ex := xSeq (xRet (mQ gLen (cItems 2 [] (mZip (mVar 0) (mVar 1)) (gPair 0 1) (mBin gNe (mVar 0) (mVar 1)) (emElt (mVar 0))))) (xNil)
theorem r_count_unlike {P : Program} {w : World} {K : PySem.W.Frag} {mg : Str → Option Value} {base : Heap} {k : Nat} (T : Bu mg) {f : Addr} {fd : FuncData} (F : Fun K "count_unlike" "count_unlike" s_count_unlike f fd) (hm : mg "count_unlike" = some (.ref f)) : FnM P w K mg base (k + 1) "count_unlike" 2 (runB 2 (m_count_unlike)) :=
  Y.fnM F hm sc_count_unlike (fun _ _ _ _ _ _ us hl => (len2 hl).elim fun a h => h.elim fun b q => by subst q; rfl) fun cdv A outer s H E hr => Y.ss_cons (Y.ss_ret (Y.se_len T.b_len (Y.sq_F (Y.sf_comp (N := ["sign", "second"]) 2 [] rfl (cps (by kernel_rfl)) (by kernel_rfl) (Y.si_zip rfl T.b_zip (Y.se_var 0) (Y.se_var 1)) (fun _ _ _ => ⟨Y.sg_pair 0 1 rfl (by decide +kernel : (["sign", "second"] : List Str).Nodup), Y.sts_one (Y.st_c (c_neD hr) (Y.se_var 0) (Y.se_var 1)), Y.sm_elt (fun _ _ z => z) (Y.se_var 0) rfl⟩))))) (Y.ss_nil)
noncomputable abbrev s_words_table : Stmt := top 37
theorem sc_words_table : FnScope ["many", "signs", "words"] ["many", "signs"] (defScope s_words_table) := ⟨rfl, rfl, rfl, by decide +kernel, rfl, by decide +kernel, by decide +kernel⟩
noncomputable def m_words_table (f_count_unlike : Fn) (f_list_words : Fn) (f_raised : Fn) (f_require_number : Fn) : Ex := xSeq (xDo (mCall f_require_number (aCons (mVar 0) (aCons (mLit (.int 1)) (aCons (mLit (.int 8)) (aNil)))))) (xSeq (xDo (mCall f_require_number (aCons (mVar 1) (aCons (mLit (.int 1)) (aCons (mLit (.int 8)) (aNil)))))) (xSeq (xIf (mBin gGt (mCall f_raised (aCons (mVar 1) (aCons (mVar 0) (aNil)))) (mLit (.int 8))) (xSeq (xBad) (xNil)) (xNil)) (xSeq (xSet 2 (mCall f_list_words (aCons (mVar 0) (aCons (mVar 1) (aNil))))) (xSeq (xRet (mQ gTup (cItems 1 [2] (mIt (mVar 2)) (gVar 0) (mLit (.bl true)) (emElt (mQ gTup (cItems 1 [0] (mIt (mVar 1)) (gVar 0) (mLit (.bl true)) (emElt (mCall f_count_unlike (aCons (mVar 1) (aCons (mVar 0) (aNil))))))))))) (xNil)))))
theorem r_words_table {P : Program} {w : World} {K : PySem.W.Frag} {mg : Str → Option Value} {base : Heap} {k : Nat} (T : Bu mg) {f : Addr} {fd : FuncData} (F : Fun K "words_table" "words_table" s_words_table f fd) (hm : mg "words_table" = some (.ref f)) {f_count_unlike : Fn} (F_count_unlike : FnM P w K mg base k "count_unlike" 2 f_count_unlike) {f_list_words : Fn} (F_list_words : FnM P w K mg base k "list_words" 2 f_list_words) {f_raised : Fn} (F_raised : FnM P w K mg base k "raised" 2 f_raised) {f_require_number : Fn} (F_require_number : FnM P w K mg base k "require_number" 3 f_require_number) : FnM P w K mg base (k + 1) "words_table" 2 (runB 3 (m_words_table f_count_unlike f_list_words f_raised f_require_number)) :=
  Y.fnM F hm sc_words_table (fun _ _ _ _ _ _ us hl => (len2 hl).elim fun a h => h.elim fun b q => by subst q; rfl) fun cdv A outer s H E hr => Y.ss_cons (Y.ss_expr (Y.se_call F_require_number hr (Y.sa_cons (Y.se_var 0) (Y.sa_cons (Y.se_int) (Y.sa_cons (Y.se_glob rfl T.c_MOST_PLACES.choose_spec) (Y.sa_nil)))) (al_cons (al_cons (al_cons al_nil))))) (Y.ss_cons (Y.ss_expr (Y.se_call F_require_number hr (Y.sa_cons (Y.se_var 1) (Y.sa_cons (Y.se_int) (Y.sa_cons (Y.se_glob rfl T.c_MOST_PLACES.choose_spec) (Y.sa_nil)))) (al_cons (al_cons (al_cons al_nil))))) (Y.ss_cons (Y.ss_if (Y.st_c c_gt (Y.se_call F_raised hr (Y.sa_cons (Y.se_var 1) (Y.sa_cons (Y.se_var 0) (Y.sa_nil))) (al_cons (al_cons al_nil))) (Y.se_glob rfl T.c_MOST_PLACES.choose_spec)) (Y.ss_cons (Y.ss_bad) (Y.ss_nil)) (Y.ss_nil)) (Y.ss_cons (Y.ss_set 2 sc_words_table.nd (Y.se_call F_list_words hr (Y.sa_cons (Y.se_var 0) (Y.sa_cons (Y.se_var 1) (Y.sa_nil))) (al_cons (al_cons al_nil)))) (Y.ss_cons (Y.ss_ret (Y.se_tuple T.b_tuple (Y.sq_F (Y.sf_comp (N := ["one", "words"]) 1 [2] rfl (cps (by kernel_rfl)) (by kernel_rfl) (Y.si_E (Y.se_var 2)) (fun _ _ _ => ⟨Y.sg_var 0 (by decide +kernel : (["one", "words"] : List Str).Nodup), Y.sts_nil, Y.sm_elt (fun _ _ z => z) (Y.se_tuple T.b_tuple (Y.sq_F (Y.sf_comp (N := ["other", "one"]) 1 [0] rfl (cps (by kernel_rfl)) (by kernel_rfl) (Y.si_E (Y.se_var 1)) (fun _ _ _ => ⟨Y.sg_var 0 (by decide +kernel : (["other", "one"] : List Str).Nodup), Y.sts_nil, Y.sm_elt (fun _ _ z => z) (Y.se_call F_count_unlike hr (Y.sa_cons (Y.se_var 1) (Y.sa_cons (Y.se_var 0) (Y.sa_nil))) (al_cons (al_cons al_nil))) rfl⟩)))) rfl⟩))))) (Y.ss_nil)))))
noncomputable abbrev s_pair_kind : Stmt := top 38
theorem sc_pair_kind : FnScope ["one", "other"] ["one", "other"] (defScope s_pair_kind) := ⟨rfl, rfl, rfl, by decide +kernel, rfl, by decide +kernel, by decide +kernel⟩
noncomputable def m_pair_kind : Ex := xSeq (xIf (mBin gEq (mVar 0) (mVar 1)) (xSeq (xRet (mLit (.int 0))) (xNil)) (xNil)) (xSeq (xRet (mIf (mOr (mBin gIn (mBin gIx (mVar 0) (mLit (.int 0))) (mVar 1)) (mBin gIn (mBin gIx (mVar 0) (mLit (.int 1))) (mVar 1))) (mLit (.int 1)) (mLit (.int 2)))) (xNil))
theorem r_pair_kind {P : Program} {w : World} {K : PySem.W.Frag} {mg : Str → Option Value} {base : Heap} {k : Nat} (T : Bu mg) {f : Addr} {fd : FuncData} (F : Fun K "pair_kind" "pair_kind" s_pair_kind f fd) (hm : mg "pair_kind" = some (.ref f)) : FnM P w K mg base (k + 1) "pair_kind" 2 (runB 2 (m_pair_kind)) :=
  Y.fnM F hm sc_pair_kind (fun _ _ _ _ _ _ us hl => (len2 hl).elim fun a h => h.elim fun b q => by subst q; rfl) fun cdv A outer s H E hr => Y.ss_cons (Y.ss_if (Y.st_c (c_eqD hr) (Y.se_var 0) (Y.se_var 1)) (Y.ss_cons (Y.ss_ret (Y.se_int)) (Y.ss_nil)) (Y.ss_nil)) (Y.ss_cons (Y.ss_ret (Y.se_if (Y.st_bool (Y.sw_or (Y.st_ci c_in (Y.se_ix (Y.se_var 0) (Y.se_int)) (Y.se_var 1)) (Y.sw_or1 (Y.st_ci c_in (Y.se_ix (Y.se_var 0) (Y.se_int)) (Y.se_var 1))))) (Y.se_int) (Y.se_int))) (Y.ss_nil))
noncomputable abbrev s_pairs_table : Stmt := top 39
theorem sc_pairs_table : FnScope ["many", "pairs"] ["many"] (defScope s_pairs_table) := ⟨rfl, rfl, rfl, by decide +kernel, rfl, by decide +kernel, by decide +kernel⟩
noncomputable def m_pairs_table (f_pair_kind : Fn) (f_require_number : Fn) : Ex := xSeq (xDo (mCall f_require_number (aCons (mVar 0) (aCons (mLit (.int 2)) (aCons (mLit (.int 4)) (aNil)))))) (xSeq (xSet 1 (mList (cItems 2 [0] (mRng1 (mVar 0)) (gVar 0) (mLit (.bl true)) (emFor (mRng2 (mBin gAdd (mVar 0) (mLit (.int 1))) (mVar 2)) (gVar 1) (mLit (.bl true)) (emElt (mTup (aCons (mVar 0) (aCons (mVar 1) (aNil))))))))) (xSeq (xRet (mQ gTup (cItems 1 [1] (mIt (mVar 1)) (gVar 0) (mLit (.bl true)) (emElt (mQ gTup (cItems 1 [0] (mIt (mVar 1)) (gVar 0) (mLit (.bl true)) (emElt (mCall f_pair_kind (aCons (mVar 1) (aCons (mVar 0) (aNil))))))))))) (xNil)))
theorem r_pairs_table {P : Program} {w : World} {K : PySem.W.Frag} {mg : Str → Option Value} {base : Heap} {k : Nat} (T : Bu mg) {f : Addr} {fd : FuncData} (F : Fun K "pairs_table" "pairs_table" s_pairs_table f fd) (hm : mg "pairs_table" = some (.ref f)) {f_pair_kind : Fn} (F_pair_kind : FnM P w K mg base k "pair_kind" 2 f_pair_kind) {f_require_number : Fn} (F_require_number : FnM P w K mg base k "require_number" 3 f_require_number) : FnM P w K mg base (k + 1) "pairs_table" 1 (runB 2 (m_pairs_table f_pair_kind f_require_number)) :=
  Y.fnM F hm sc_pairs_table (fun _ _ _ _ _ _ us hl => (len1 hl).elim fun a q => by subst q; rfl) fun cdv A outer s H E hr => Y.ss_cons (Y.ss_expr (Y.se_call F_require_number hr (Y.sa_cons (Y.se_var 0) (Y.sa_cons (Y.se_int) (Y.sa_cons (Y.se_glob rfl T.c_MOST_THINGS.choose_spec) (Y.sa_nil)))) (al_cons (al_cons (al_cons al_nil))))) (Y.ss_cons (Y.ss_set 1 sc_pairs_table.nd (Y.se_list (Y.sf_comp (N := ["a", "b", "many"]) 2 [0] rfl (cps (by kernel_rfl)) (by kernel_rfl) (Y.si_rng1 rfl T.b_range (Y.se_var 0)) (fun _ _ _ => ⟨Y.sg_var 0 (by decide +kernel : (["a", "b", "many"] : List Str).Nodup), Y.sts_nil, Y.sm_for (fun _ _ z => z) rfl rfl (by intro _ h; cases h <;> rfl) (Y.si_rng2 rfl T.b_range (Y.se_add (Y.se_var 0) (Y.se_int)) (Y.se_var 2)) (Y.sg_var 1 (by decide +kernel : (["a", "b", "many"] : List Str).Nodup)) (Y.sts_nil) (Y.sm_elt (fun _ _ z => z) (Y.se_tupN (Y.sa_cons (Y.se_var 0) (Y.sa_cons (Y.se_var 1) (Y.sa_nil))) (al_cons (al_cons al_nil))) rfl)⟩)))) (Y.ss_cons (Y.ss_ret (Y.se_tuple T.b_tuple (Y.sq_F (Y.sf_comp (N := ["one", "pairs"]) 1 [1] rfl (cps (by kernel_rfl)) (by kernel_rfl) (Y.si_E (Y.se_var 1)) (fun _ _ _ => ⟨Y.sg_var 0 (by decide +kernel : (["one", "pairs"] : List Str).Nodup), Y.sts_nil, Y.sm_elt (fun _ _ z => z) (Y.se_tuple T.b_tuple (Y.sq_F (Y.sf_comp (N := ["other", "one"]) 1 [0] rfl (cps (by kernel_rfl)) (by kernel_rfl) (Y.si_E (Y.se_var 1)) (fun _ _ _ => ⟨Y.sg_var 0 (by decide +kernel : (["other", "one"] : List Str).Nodup), Y.sts_nil, Y.sm_elt (fun _ _ z => z) (Y.se_call F_pair_kind hr (Y.sa_cons (Y.se_var 1) (Y.sa_cons (Y.se_var 0) (Y.sa_nil))) (al_cons (al_cons al_nil))) rfl⟩)))) rfl⟩))))) (Y.ss_nil)))
noncomputable abbrev s_ring_table : Stmt := top 40
theorem sc_ring_table : FnScope ["many"] ["many"] (defScope s_ring_table) := ⟨rfl, rfl, rfl, by decide +kernel, rfl, by decide +kernel, by decide +kernel⟩
noncomputable def m_ring_table (f_require_number : Fn) : Ex := xSeq (xDo (mCall f_require_number (aCons (mVar 0) (aCons (mLit (.int 1)) (aCons (mLit (.int 8)) (aNil)))))) (xSeq (xRet (mQ gTup (cItems 1 [0] (mRng1 (mVar 0)) (gVar 0) (mLit (.bl true)) (emElt (mQ gTup (cItems 1 [0, 1] (mRng1 (mVar 1)) (gVar 0) (mLit (.bl true)) (emElt (mBin gMin2 (mBin gModI (mBin gSub (mVar 1) (mVar 0)) (mVar 2)) (mBin gModI (mBin gSub (mVar 0) (mVar 1)) (mVar 2)))))))))) (xNil))
theorem r_ring_table {P : Program} {w : World} {K : PySem.W.Frag} {mg : Str → Option Value} {base : Heap} {k : Nat} (T : Bu mg) {f : Addr} {fd : FuncData} (F : Fun K "ring_table" "ring_table" s_ring_table f fd) (hm : mg "ring_table" = some (.ref f)) {f_require_number : Fn} (F_require_number : FnM P w K mg base k "require_number" 3 f_require_number) : FnM P w K mg base (k + 1) "ring_table" 1 (runB 1 (m_ring_table f_require_number)) :=
  Y.fnM F hm sc_ring_table (fun _ _ _ _ _ _ us hl => (len1 hl).elim fun a q => by subst q; rfl) fun cdv A outer s H E hr => Y.ss_cons (Y.ss_expr (Y.se_call F_require_number hr (Y.sa_cons (Y.se_var 0) (Y.sa_cons (Y.se_int) (Y.sa_cons (Y.se_glob rfl T.c_MOST_PLACES.choose_spec) (Y.sa_nil)))) (al_cons (al_cons (al_cons al_nil))))) (Y.ss_cons (Y.ss_ret (Y.se_tuple T.b_tuple (Y.sq_F (Y.sf_comp (N := ["a", "many"]) 1 [0] rfl (cps (by kernel_rfl)) (by kernel_rfl) (Y.si_rng1 rfl T.b_range (Y.se_var 0)) (fun _ _ _ => ⟨Y.sg_var 0 (by decide +kernel : (["a", "many"] : List Str).Nodup), Y.sts_nil, Y.sm_elt (fun _ _ z => z) (Y.se_tuple T.b_tuple (Y.sq_F (Y.sf_comp (N := ["b", "a", "many"]) 1 [0, 1] rfl (cps (by kernel_rfl)) (by kernel_rfl) (Y.si_rng1 rfl T.b_range (Y.se_var 1)) (fun _ _ _ => ⟨Y.sg_var 0 (by decide +kernel : (["b", "a", "many"] : List Str).Nodup), Y.sts_nil, Y.sm_elt (fun _ _ z => z) (Y.se_min2 rfl T.b_min (Y.se_mod (Y.se_sub (Y.se_var 1) (Y.se_var 0)) (Y.se_var 2)) (Y.se_mod (Y.se_sub (Y.se_var 0) (Y.se_var 1)) (Y.se_var 2))) rfl⟩)))) rfl⟩))))) (Y.ss_nil))
noncomputable abbrev s_alike_table : Stmt := top 41
theorem sc_alike_table : FnScope ["many"] ["many"] (defScope s_alike_table) := ⟨rfl, rfl, rfl, by decide +kernel, rfl, by decide +kernel, by decide +kernel⟩
noncomputable def m_alike_table (f_blocks_table : Fn) : Ex := xSeq (xRet (mCall f_blocks_table (aCons (mLit (.int 1)) (aCons (mVar 0) (aNil))))) (xNil)
theorem r_alike_table {P : Program} {w : World} {K : PySem.W.Frag} {mg : Str → Option Value} {base : Heap} {k : Nat} (T : Bu mg) {f : Addr} {fd : FuncData} (F : Fun K "alike_table" "alike_table" s_alike_table f fd) (hm : mg "alike_table" = some (.ref f)) {f_blocks_table : Fn} (F_blocks_table : FnM P w K mg base k "blocks_table" 2 f_blocks_table) : FnM P w K mg base (k + 1) "alike_table" 1 (runB 1 (m_alike_table f_blocks_table)) :=
  Y.fnM F hm sc_alike_table (fun _ _ _ _ _ _ us hl => (len1 hl).elim fun a q => by subst q; rfl) fun cdv A outer s H E hr => Y.ss_cons (Y.ss_ret (Y.se_call F_blocks_table hr (Y.sa_cons (Y.se_int) (Y.sa_cons (Y.se_var 0) (Y.sa_nil))) (al_cons (al_cons al_nil)))) (Y.ss_nil)
noncomputable abbrev s_block_kind : Stmt := top 42
theorem sc_block_kind : FnScope ["size", "a", "b"] ["size", "a", "b"] (defScope s_block_kind) := ⟨rfl, rfl, rfl, by decide +kernel, rfl, by decide +kernel, by decide +kernel⟩
noncomputable def m_block_kind : Ex := xSeq (xIf (mBin gEq (mVar 1) (mVar 2)) (xSeq (xRet (mLit (.int 0))) (xNil)) (xNil)) (xSeq (xRet (mIf (mOr (mBin gEq (mVar 0) (mLit (.int 1))) (mBin gEq (mBin gDiv (mVar 1) (mVar 0)) (mBin gDiv (mVar 2) (mVar 0)))) (mLit (.int 1)) (mLit (.int 2)))) (xNil))
theorem r_block_kind {P : Program} {w : World} {K : PySem.W.Frag} {mg : Str → Option Value} {base : Heap} {k : Nat} (T : Bu mg) {f : Addr} {fd : FuncData} (F : Fun K "block_kind" "block_kind" s_block_kind f fd) (hm : mg "block_kind" = some (.ref f)) : FnM P w K mg base (k + 1) "block_kind" 3 (runB 3 (m_block_kind)) :=
  Y.fnM F hm sc_block_kind (fun _ _ _ _ _ _ us hl => (len3 hl).elim fun a h => h.elim fun b h => h.elim fun c q => by subst q; rfl) fun cdv A outer s H E hr => Y.ss_cons (Y.ss_if (Y.st_c (c_eqD hr) (Y.se_var 1) (Y.se_var 2)) (Y.ss_cons (Y.ss_ret (Y.se_int)) (Y.ss_nil)) (Y.ss_nil)) (Y.ss_cons (Y.ss_ret (Y.se_if (Y.st_bool (Y.sw_or (Y.st_c (c_eqD hr) (Y.se_var 0) (Y.se_int)) (Y.sw_or1 (Y.st_c (c_eqD hr) (Y.se_div (Y.se_var 1) (Y.se_var 0)) (Y.se_div (Y.se_var 2) (Y.se_var 0)))))) (Y.se_int) (Y.se_int))) (Y.ss_nil))
noncomputable abbrev s_blocks_table : Stmt := top 43
theorem sc_blocks_table : FnScope ["many", "size", "places"] ["many", "size"] (defScope s_blocks_table) := ⟨rfl, rfl, rfl, by decide +kernel, rfl, by decide +kernel, by decide +kernel⟩
noncomputable def m_blocks_table (f_block_kind : Fn) (f_require_number : Fn) : Ex := xSeq (xDo (mCall f_require_number (aCons (mVar 0) (aCons (mLit (.int 1)) (aCons (mLit (.int 8)) (aNil)))))) (xSeq (xDo (mCall f_require_number (aCons (mVar 1) (aCons (mLit (.int 1)) (aCons (mLit (.int 8)) (aNil)))))) (xSeq (xIf (mBin gGt (mBin gMul (mVar 0) (mVar 1)) (mLit (.int 8))) (xSeq (xBad) (xNil)) (xNil)) (xSeq (xSet 2 (mListR1 (mBin gMul (mVar 0) (mVar 1)))) (xSeq (xRet (mQ gTup (cItems 1 [1, 2] (mIt (mVar 2)) (gVar 0) (mLit (.bl true)) (emElt (mQ gTup (cItems 1 [0, 1] (mIt (mVar 2)) (gVar 0) (mLit (.bl true)) (emElt (mCall f_block_kind (aCons (mVar 2) (aCons (mVar 1) (aCons (mVar 0) (aNil)))))))))))) (xNil)))))
theorem r_blocks_table {P : Program} {w : World} {K : PySem.W.Frag} {mg : Str → Option Value} {base : Heap} {k : Nat} (T : Bu mg) {f : Addr} {fd : FuncData} (F : Fun K "blocks_table" "blocks_table" s_blocks_table f fd) (hm : mg "blocks_table" = some (.ref f)) {f_block_kind : Fn} (F_block_kind : FnM P w K mg base k "block_kind" 3 f_block_kind) {f_require_number : Fn} (F_require_number : FnM P w K mg base k "require_number" 3 f_require_number) : FnM P w K mg base (k + 1) "blocks_table" 2 (runB 3 (m_blocks_table f_block_kind f_require_number)) :=
  Y.fnM F hm sc_blocks_table (fun _ _ _ _ _ _ us hl => (len2 hl).elim fun a h => h.elim fun b q => by subst q; rfl) fun cdv A outer s H E hr => Y.ss_cons (Y.ss_expr (Y.se_call F_require_number hr (Y.sa_cons (Y.se_var 0) (Y.sa_cons (Y.se_int) (Y.sa_cons (Y.se_glob rfl T.c_MOST_PLACES.choose_spec) (Y.sa_nil)))) (al_cons (al_cons (al_cons al_nil))))) (Y.ss_cons (Y.ss_expr (Y.se_call F_require_number hr (Y.sa_cons (Y.se_var 1) (Y.sa_cons (Y.se_int) (Y.sa_cons (Y.se_glob rfl T.c_MOST_PLACES.choose_spec) (Y.sa_nil)))) (al_cons (al_cons (al_cons al_nil))))) (Y.ss_cons (Y.ss_if (Y.st_c c_gt (Y.se_mul (Y.se_var 0) (Y.se_var 1)) (Y.se_glob rfl T.c_MOST_PLACES.choose_spec)) (Y.ss_cons (Y.ss_bad) (Y.ss_nil)) (Y.ss_nil)) (Y.ss_cons (Y.ss_set 2 sc_blocks_table.nd (Y.se_listR1 rfl T.b_list T.b_range (Y.se_mul (Y.se_var 0) (Y.se_var 1)))) (Y.ss_cons (Y.ss_ret (Y.se_tuple T.b_tuple (Y.sq_F (Y.sf_comp (N := ["a", "size", "places"]) 1 [1, 2] rfl (cps (by kernel_rfl)) (by kernel_rfl) (Y.si_E (Y.se_var 2)) (fun _ _ _ => ⟨Y.sg_var 0 (by decide +kernel : (["a", "size", "places"] : List Str).Nodup), Y.sts_nil, Y.sm_elt (fun _ _ z => z) (Y.se_tuple T.b_tuple (Y.sq_F (Y.sf_comp (N := ["b", "a", "size"]) 1 [0, 1] rfl (cps (by kernel_rfl)) (by kernel_rfl) (Y.si_E (Y.se_var 2)) (fun _ _ _ => ⟨Y.sg_var 0 (by decide +kernel : (["b", "a", "size"] : List Str).Nodup), Y.sts_nil, Y.sm_elt (fun _ _ z => z) (Y.se_call F_block_kind hr (Y.sa_cons (Y.se_var 2) (Y.sa_cons (Y.se_var 1) (Y.sa_cons (Y.se_var 0) (Y.sa_nil)))) (al_cons (al_cons (al_cons al_nil)))) rfl⟩)))) rfl⟩))))) (Y.ss_nil)))))
noncomputable abbrev s_words_number : Stmt := top 44
theorem sc_words_number : FnScope ["many", "signs", "one", "other", "third", "total", "outside", "first", "second", "ways"] ["many", "signs", "one", "other", "third"] (defScope s_words_number) := ⟨rfl, rfl, rfl, by decide +kernel, rfl, by decide +kernel, by decide +kernel⟩
noncomputable def m_words_number (f_count_lots : Fn) (f_raised : Fn) (f_require_kind_to : Fn) (f_require_number : Fn) : Ex := xSeq (xDo (mCall f_require_number (aCons (mVar 0) (aCons (mLit (.int 1)) (aCons (mLit (.int 12)) (aNil)))))) (xSeq (xDo (mCall f_require_number (aCons (mVar 1) (aCons (mLit (.int 1)) (aCons (mLit (.int 9)) (aNil)))))) (xSeq (xDo (mCall f_require_kind_to (aCons (mVar 2) (aCons (mVar 0) (aNil))))) (xSeq (xDo (mCall f_require_kind_to (aCons (mVar 3) (aCons (mVar 0) (aNil))))) (xSeq (xDo (mCall f_require_kind_to (aCons (mVar 4) (aCons (mVar 0) (aNil))))) (xSeq (xIf (mAnd (mBin gEq (mVar 1) (mLit (.int 1))) (mBin gGt (mVar 4) (mLit (.int 0)))) (xSeq (xRet (mLit (.int 0))) (xNil)) (xNil)) (xSeq (xSet 5 (mLit (.int 0))) (xSeq (xFor (mRng1 (mBin gAdd (mBin gSub (mVar 0) (mVar 4)) (mLit (.int 1)))) (gVar 6) (xSeq (xSet 7 (mBin gSub (mBin gAdd (mVar 4) (mVar 6)) (mVar 2))) (xSeq (xSet 8 (mBin gSub (mBin gAdd (mVar 4) (mVar 6)) (mVar 3))) (xSeq (xIf (mAnd (mBin gGe (mVar 7) (mLit (.int 0))) (mAnd (mBin gGe (mVar 8) (mLit (.int 0))) (mBin gLe (mBin gAdd (mVar 7) (mVar 8)) (mVar 4)))) (xSeq (xSet 9 (mBin gMul (mCall f_count_lots (aCons (mVar 6) (aCons (mBin gSub (mVar 0) (mVar 4)) (aNil)))) (mCall f_raised (aCons (mBin gSub (mVar 1) (mLit (.int 1))) (aCons (mVar 6) (aNil)))))) (xSeq (xSet 9 (mBin gMul (mBin gMul (mVar 9) (mCall f_count_lots (aCons (mVar 7) (aCons (mVar 4) (aNil))))) (mCall f_count_lots (aCons (mVar 8) (aCons (mBin gSub (mVar 4) (mVar 7)) (aNil)))))) (xSeq (xAug 5 (mBin gMul (mVar 9) (mCall f_raised (aCons (mBin gSub (mVar 1) (mLit (.int 2))) (aCons (mBin gSub (mBin gSub (mVar 4) (mVar 7)) (mVar 8)) (aNil)))))) (xNil)))) (xNil)) (xNil))))) (xSeq (xRet (mVar 5)) (xNil)))))))))
theorem r_words_number {P : Program} {w : World} {K : PySem.W.Frag} {mg : Str → Option Value} {base : Heap} {k : Nat} (T : Bu mg) {f : Addr} {fd : FuncData} (F : Fun K "words_number" "words_number" s_words_number f fd) (hm : mg "words_number" = some (.ref f)) {f_count_lots : Fn} (F_count_lots : FnM P w K mg base k "count_lots" 2 f_count_lots) {f_raised : Fn} (F_raised : FnM P w K mg base k "raised" 2 f_raised) {f_require_kind_to : Fn} (F_require_kind_to : FnM P w K mg base k "require_kind_to" 2 f_require_kind_to) {f_require_number : Fn} (F_require_number : FnM P w K mg base k "require_number" 3 f_require_number) : FnM P w K mg base (k + 1) "words_number" 5 (runB 10 (m_words_number f_count_lots f_raised f_require_kind_to f_require_number)) :=
  Y.fnM F hm sc_words_number (fun _ _ _ _ _ _ us hl => (len5 hl).elim fun a h => h.elim fun b h => h.elim fun c h => h.elim fun d h => h.elim fun e q => by subst q; rfl) fun cdv A outer s H E hr => Y.ss_cons (Y.ss_expr (Y.se_call F_require_number hr (Y.sa_cons (Y.se_var 0) (Y.sa_cons (Y.se_int) (Y.sa_cons (Y.se_glob rfl T.c_MOST_SIGNS_BY_RULE.choose_spec) (Y.sa_nil)))) (al_cons (al_cons (al_cons al_nil))))) (Y.ss_cons (Y.ss_expr (Y.se_call F_require_number hr (Y.sa_cons (Y.se_var 1) (Y.sa_cons (Y.se_int) (Y.sa_cons (Y.se_glob rfl T.c_MOST_NUMBER_BY_RULE.choose_spec) (Y.sa_nil)))) (al_cons (al_cons (al_cons al_nil))))) (Y.ss_cons (Y.ss_expr (Y.se_call F_require_kind_to hr (Y.sa_cons (Y.se_var 2) (Y.sa_cons (Y.se_var 0) (Y.sa_nil))) (al_cons (al_cons al_nil)))) (Y.ss_cons (Y.ss_expr (Y.se_call F_require_kind_to hr (Y.sa_cons (Y.se_var 3) (Y.sa_cons (Y.se_var 0) (Y.sa_nil))) (al_cons (al_cons al_nil)))) (Y.ss_cons (Y.ss_expr (Y.se_call F_require_kind_to hr (Y.sa_cons (Y.se_var 4) (Y.sa_cons (Y.se_var 0) (Y.sa_nil))) (al_cons (al_cons al_nil)))) (Y.ss_cons (Y.ss_if (Y.st_bool (Y.sw_and (Y.st_c (c_eqD hr) (Y.se_var 1) (Y.se_int)) (Y.sw_and1 (Y.st_c c_gt (Y.se_var 4) (Y.se_int))))) (Y.ss_cons (Y.ss_ret (Y.se_int)) (Y.ss_nil)) (Y.ss_nil)) (Y.ss_cons (Y.ss_set 5 sc_words_number.nd (Y.se_int)) (Y.ss_cons (Y.ss_for PassesOwn.never rfl (Y.si_rng1 rfl T.b_range (Y.se_add (Y.se_sub (Y.se_var 0) (Y.se_var 4)) (Y.se_int))) (Y.sg_var 6 sc_words_number.nd) (Y.ss_cons (Y.ss_set 7 sc_words_number.nd (Y.se_sub (Y.se_add (Y.se_var 4) (Y.se_var 6)) (Y.se_var 2))) (Y.ss_cons (Y.ss_set 8 sc_words_number.nd (Y.se_sub (Y.se_add (Y.se_var 4) (Y.se_var 6)) (Y.se_var 3))) (Y.ss_cons (Y.ss_if (Y.st_bool (Y.sw_and (Y.st_c c_ge (Y.se_var 7) (Y.se_int)) (Y.sw_and (Y.st_c c_ge (Y.se_var 8) (Y.se_int)) (Y.sw_and1 (Y.st_c c_le (Y.se_add (Y.se_var 7) (Y.se_var 8)) (Y.se_var 4)))))) (Y.ss_cons (Y.ss_set 9 sc_words_number.nd (Y.se_mul (Y.se_call F_count_lots hr (Y.sa_cons (Y.se_var 6) (Y.sa_cons (Y.se_sub (Y.se_var 0) (Y.se_var 4)) (Y.sa_nil))) (al_cons (al_cons al_nil))) (Y.se_call F_raised hr (Y.sa_cons (Y.se_sub (Y.se_var 1) (Y.se_int)) (Y.sa_cons (Y.se_var 6) (Y.sa_nil))) (al_cons (al_cons al_nil))))) (Y.ss_cons (Y.ss_set 9 sc_words_number.nd (Y.se_mul (Y.se_mul (Y.se_var 9) (Y.se_call F_count_lots hr (Y.sa_cons (Y.se_var 7) (Y.sa_cons (Y.se_var 4) (Y.sa_nil))) (al_cons (al_cons al_nil)))) (Y.se_call F_count_lots hr (Y.sa_cons (Y.se_var 8) (Y.sa_cons (Y.se_sub (Y.se_var 4) (Y.se_var 7)) (Y.sa_nil))) (al_cons (al_cons al_nil))))) (Y.ss_cons (Y.ss_aug 5 sc_words_number.nd (Y.se_mul (Y.se_var 9) (Y.se_call F_raised hr (Y.sa_cons (Y.se_sub (Y.se_var 1) (Y.se_int)) (Y.sa_cons (Y.se_sub (Y.se_sub (Y.se_var 4) (Y.se_var 7)) (Y.se_var 8)) (Y.sa_nil))) (al_cons (al_cons al_nil))))) (Y.ss_nil)))) (Y.ss_nil)) (Y.ss_nil))))) (Y.ss_cons (Y.ss_ret (Y.se_var 5)) (Y.ss_nil)))))))))
noncomputable abbrev s_words_weight : Stmt := top 45
theorem sc_words_weight : FnScope ["many", "signs", "kind", "number"] ["many", "signs", "kind", "number"] (defScope s_words_weight) := ⟨rfl, rfl, rfl, by decide +kernel, rfl, by decide +kernel, by decide +kernel⟩
noncomputable def m_words_weight (f_count_lots : Fn) (f_raised : Fn) (f_require_kind_to : Fn) (f_require_number : Fn) : Ex := xSeq (xDo (mCall f_require_number (aCons (mVar 0) (aCons (mLit (.int 1)) (aCons (mLit (.int 12)) (aNil)))))) (xSeq (xDo (mCall f_require_number (aCons (mVar 1) (aCons (mLit (.int 2)) (aCons (mLit (.int 9)) (aNil)))))) (xSeq (xDo (mCall f_require_kind_to (aCons (mVar 2) (aCons (mVar 0) (aNil))))) (xSeq (xDo (mCall f_require_kind_to (aCons (mVar 3) (aCons (mVar 0) (aNil))))) (xSeq (xRet (mQ gSum (cItems 1 [0, 1, 2, 3] (mRng1 (mBin gAdd (mVar 2) (mLit (.int 1)))) (gVar 0) (mLit (.bl true)) (emElt (mBin gMul (mBin gMul (mBin gMul (mCall f_raised (aCons (mUn gNeg (mLit (.int 1))) (aCons (mVar 0) (aNil)))) (mCall f_raised (aCons (mBin gSub (mVar 2) (mLit (.int 1))) (aCons (mBin gSub (mVar 3) (mVar 0)) (aNil))))) (mCall f_count_lots (aCons (mVar 0) (aCons (mVar 4) (aNil))))) (mCall f_count_lots (aCons (mBin gSub (mVar 3) (mVar 0)) (aCons (mBin gSub (mVar 1) (mVar 4)) (aNil))))))))) (xNil)))))
theorem r_words_weight {P : Program} {w : World} {K : PySem.W.Frag} {mg : Str → Option Value} {base : Heap} {k : Nat} (T : Bu mg) {f : Addr} {fd : FuncData} (F : Fun K "words_weight" "words_weight" s_words_weight f fd) (hm : mg "words_weight" = some (.ref f)) {f_count_lots : Fn} (F_count_lots : FnM P w K mg base k "count_lots" 2 f_count_lots) {f_raised : Fn} (F_raised : FnM P w K mg base k "raised" 2 f_raised) {f_require_kind_to : Fn} (F_require_kind_to : FnM P w K mg base k "require_kind_to" 2 f_require_kind_to) {f_require_number : Fn} (F_require_number : FnM P w K mg base k "require_number" 3 f_require_number) : FnM P w K mg base (k + 1) "words_weight" 4 (runB 4 (m_words_weight f_count_lots f_raised f_require_kind_to f_require_number)) :=
  Y.fnM F hm sc_words_weight (fun _ _ _ _ _ _ us hl => (len4 hl).elim fun a h => h.elim fun b h => h.elim fun c h => h.elim fun d q => by subst q; rfl) fun cdv A outer s H E hr => Y.ss_cons (Y.ss_expr (Y.se_call F_require_number hr (Y.sa_cons (Y.se_var 0) (Y.sa_cons (Y.se_int) (Y.sa_cons (Y.se_glob rfl T.c_MOST_SIGNS_BY_RULE.choose_spec) (Y.sa_nil)))) (al_cons (al_cons (al_cons al_nil))))) (Y.ss_cons (Y.ss_expr (Y.se_call F_require_number hr (Y.sa_cons (Y.se_var 1) (Y.sa_cons (Y.se_int) (Y.sa_cons (Y.se_glob rfl T.c_MOST_NUMBER_BY_RULE.choose_spec) (Y.sa_nil)))) (al_cons (al_cons (al_cons al_nil))))) (Y.ss_cons (Y.ss_expr (Y.se_call F_require_kind_to hr (Y.sa_cons (Y.se_var 2) (Y.sa_cons (Y.se_var 0) (Y.sa_nil))) (al_cons (al_cons al_nil)))) (Y.ss_cons (Y.ss_expr (Y.se_call F_require_kind_to hr (Y.sa_cons (Y.se_var 3) (Y.sa_cons (Y.se_var 0) (Y.sa_nil))) (al_cons (al_cons al_nil)))) (Y.ss_cons (Y.ss_ret (Y.se_sum rfl T.b_sum (Y.sq_F (Y.sf_comp (N := ["some", "many", "signs", "kind", "number"]) 1 [0, 1, 2, 3] rfl (cps (by kernel_rfl)) (by kernel_rfl) (Y.si_rng1 rfl T.b_range (Y.se_add (Y.se_var 2) (Y.se_int))) (fun _ _ _ => ⟨Y.sg_var 0 (by decide +kernel : (["some", "many", "signs", "kind", "number"] : List Str).Nodup), Y.sts_nil, Y.sm_elt (fun _ _ z => z) (Y.se_mul (Y.se_mul (Y.se_mul (Y.se_call F_raised hr (Y.sa_cons (Y.se_neg (Y.se_int)) (Y.sa_cons (Y.se_var 0) (Y.sa_nil))) (al_cons (al_cons al_nil))) (Y.se_call F_raised hr (Y.sa_cons (Y.se_sub (Y.se_var 2) (Y.se_int)) (Y.sa_cons (Y.se_sub (Y.se_var 3) (Y.se_var 0)) (Y.sa_nil))) (al_cons (al_cons al_nil)))) (Y.se_call F_count_lots hr (Y.sa_cons (Y.se_var 0) (Y.sa_cons (Y.se_var 4) (Y.sa_nil))) (al_cons (al_cons al_nil)))) (Y.se_call F_count_lots hr (Y.sa_cons (Y.se_sub (Y.se_var 3) (Y.se_var 0)) (Y.sa_cons (Y.se_sub (Y.se_var 1) (Y.se_var 4)) (Y.sa_nil))) (al_cons (al_cons al_nil)))) rfl⟩))))) (Y.ss_nil)))))
noncomputable abbrev s_number : Stmt := top 47
theorem sc_number : FnScope ["table", "i", "j", "k"] ["table", "i", "j", "k"] (defScope s_number) := ⟨rfl, rfl, rfl, by decide +kernel, rfl, by decide +kernel, by decide +kernel⟩
noncomputable def m_number (f_kind_shares : Fn) (f_require_kind : Fn) (f_require_steady : Fn) : Ex := xSeq (xDo (mCall f_require_steady (aCons (mVar 0) (aNil)))) (xSeq (xDo (mCall f_require_kind (aCons (mVar 0) (aCons (mVar 1) (aNil))))) (xSeq (xDo (mCall f_require_kind (aCons (mVar 0) (aCons (mVar 2) (aNil))))) (xSeq (xDo (mCall f_require_kind (aCons (mVar 0) (aCons (mVar 3) (aNil))))) (xSeq (xRet (mBin gIx (mBin gIx (mBin gIx (mCall f_kind_shares (aCons (mVar 0) (aNil))) (mVar 3)) (mVar 1)) (mVar 2))) (xNil)))))
theorem r_number {P : Program} {w : World} {K : PySem.W.Frag} {mg : Str → Option Value} {base : Heap} {k : Nat} (T : Bu mg) {f : Addr} {fd : FuncData} (F : Fun K "number" "number" s_number f fd) (hm : mg "number" = some (.ref f)) {f_kind_shares : Fn} (F_kind_shares : FnM P w K mg base k "kind_shares" 1 f_kind_shares) {f_require_kind : Fn} (F_require_kind : FnM P w K mg base k "require_kind" 2 f_require_kind) {f_require_steady : Fn} (F_require_steady : FnM P w K mg base k "require_steady" 1 f_require_steady) : FnM P w K mg base (k + 1) "number" 4 (runB 4 (m_number f_kind_shares f_require_kind f_require_steady)) :=
  Y.fnM F hm sc_number (fun _ _ _ _ _ _ us hl => (len4 hl).elim fun a h => h.elim fun b h => h.elim fun c h => h.elim fun d q => by subst q; rfl) fun cdv A outer s H E hr => Y.ss_cons (Y.ss_expr (Y.se_call F_require_steady hr (Y.sa_cons (Y.se_var 0) (Y.sa_nil)) (al_cons al_nil))) (Y.ss_cons (Y.ss_expr (Y.se_call F_require_kind hr (Y.sa_cons (Y.se_var 0) (Y.sa_cons (Y.se_var 1) (Y.sa_nil))) (al_cons (al_cons al_nil)))) (Y.ss_cons (Y.ss_expr (Y.se_call F_require_kind hr (Y.sa_cons (Y.se_var 0) (Y.sa_cons (Y.se_var 2) (Y.sa_nil))) (al_cons (al_cons al_nil)))) (Y.ss_cons (Y.ss_expr (Y.se_call F_require_kind hr (Y.sa_cons (Y.se_var 0) (Y.sa_cons (Y.se_var 3) (Y.sa_nil))) (al_cons (al_cons al_nil)))) (Y.ss_cons (Y.ss_ret (Y.se_ix (Y.se_ix (Y.se_ix (Y.se_call F_kind_shares hr (Y.sa_cons (Y.se_var 0) (Y.sa_nil)) (al_cons al_nil)) (Y.se_var 3)) (Y.se_var 1)) (Y.se_var 2))) (Y.ss_nil)))))
noncomputable abbrev s_count_sizes : Stmt := top 48
theorem sc_count_sizes : FnScope ["table"] ["table"] (defScope s_count_sizes) := ⟨rfl, rfl, rfl, by decide +kernel, rfl, by decide +kernel, by decide +kernel⟩
noncomputable def m_count_sizes (f_count_kinds : Fn) : Ex := xSeq (xRet (mList (cItems 1 [0] (mRng1 (mCall f_count_kinds (aCons (mVar 0) (aNil)))) (gVar 0) (mLit (.bl true)) (emElt (mMethT gCount (mBin gIx (mVar 1) (mLit (.int 0))) (mVar 0)))))) (xNil)
theorem r_count_sizes {P : Program} {w : World} {K : PySem.W.Frag} {mg : Str → Option Value} {base : Heap} {k : Nat} (T : Bu mg) {f : Addr} {fd : FuncData} (F : Fun K "count_sizes" "count_sizes" s_count_sizes f fd) (hm : mg "count_sizes" = some (.ref f)) {f_count_kinds : Fn} (F_count_kinds : FnM P w K mg base k "count_kinds" 1 f_count_kinds) : FnM P w K mg base (k + 1) "count_sizes" 1 (runB 1 (m_count_sizes f_count_kinds)) :=
  Y.fnM F hm sc_count_sizes (fun _ _ _ _ _ _ us hl => (len1 hl).elim fun a q => by subst q; rfl) fun cdv A outer s H E hr => Y.ss_cons (Y.ss_ret (Y.se_list (Y.sf_comp (N := ["kind", "table"]) 1 [0] rfl (cps (by kernel_rfl)) (by kernel_rfl) (Y.si_rng1 rfl T.b_range (Y.se_call F_count_kinds hr (Y.sa_cons (Y.se_var 0) (Y.sa_nil)) (al_cons al_nil))) (fun _ _ _ => ⟨Y.sg_var 0 (by decide +kernel : (["kind", "table"] : List Str).Nodup), Y.sts_nil, Y.sm_elt (fun _ _ z => z) (Y.se_count (Y.se_ix (Y.se_var 1) (Y.se_int)) (Y.se_var 0)) rfl⟩)))) (Y.ss_nil)
noncomputable abbrev s_fits : Stmt := top 50
theorem sc_fits : FnScope ["shares", "start", "some", "i", "j", "later", "now"] ["shares", "start"] (defScope s_fits) := ⟨rfl, rfl, rfl, by decide +kernel, rfl, by decide +kernel, by decide +kernel⟩
noncomputable def m_fits : Ex := xSeq (xSet 2 (mQ gLen (mSeq (mVar 1)))) (xSeq (xFor (mRng1 (mVar 2)) (gVar 3) (xSeq (xFor (mRng1 (mVar 2)) (gVar 4) (xSeq (xSet 5 (mList (cItems 1 [3, 4] (mIt (mBin gCutFrom (mVar 0) (mVar 2))) (gVar 0) (mLit (.bl true)) (emElt (mBin gIx (mBin gIx (mVar 0) (mVar 1)) (mVar 2)))))) (xSeq (xSet 6 (mList (cItems 2 [3, 4] (mZip (mVar 0) (mVar 1)) (gPair 0 1) (mLit (.bl true)) (emElt (mBin gMul (mBin gIx (mBin gIx (mVar 0) (mVar 2)) (mVar 3)) (mVar 1)))))) (xSeq (xIf (mAnd (mNot (mQ gAny (mSeq (mVar 5)))) (mBin gNe (mBin gMul (mBin gIx (mVar 1) (mVar 3)) (mBin gIx (mVar 1) (mVar 4))) (mQ gSum (mSeq (mVar 6))))) (xSeq (xRet (mLit (.bl false))) (xNil)) (xNil)) (xNil))))) (xNil))) (xSeq (xRet (mLit (.bl true))) (xNil)))
theorem r_fits {P : Program} {w : World} {K : PySem.W.Frag} {mg : Str → Option Value} {base : Heap} {k : Nat} (T : Bu mg) {f : Addr} {fd : FuncData} (F : Fun K "fits" "fits" s_fits f fd) (hm : mg "fits" = some (.ref f)) : FnM P w K mg base (k + 1) "fits" 2 (runB 7 (m_fits)) :=
  Y.fnM F hm sc_fits (fun _ _ _ _ _ _ us hl => (len2 hl).elim fun a h => h.elim fun b q => by subst q; rfl) fun cdv A outer s H E hr => Y.ss_cons (Y.ss_set 2 sc_fits.nd (Y.se_len T.b_len (Y.sq_E (Y.se_var 1)))) (Y.ss_cons (Y.ss_for PassesOwn.never rfl (Y.si_rng1 rfl T.b_range (Y.se_var 2)) (Y.sg_var 3 sc_fits.nd) (Y.ss_cons (Y.ss_for PassesOwn.never rfl (Y.si_rng1 rfl T.b_range (Y.se_var 2)) (Y.sg_var 4 sc_fits.nd) (Y.ss_cons (Y.ss_setComp 5 (N := ["by_kind", "i", "j"]) 1 [3, 4] sc_fits.nd rfl (cps (by kernel_rfl)) (by kernel_rfl) (Y.si_E (Y.se_cutFrom (Y.se_var 0) (Y.se_var 2))) (fun _ _ _ => ⟨Y.sg_var 0 (by decide +kernel : (["by_kind", "i", "j"] : List Str).Nodup), Y.sts_nil, Y.sm_elt (fun _ _ z => z) (Y.se_ix (Y.se_ix (Y.se_var 0) (Y.se_var 1)) (Y.se_var 2)) rfl⟩)) (Y.ss_cons (Y.ss_setComp 6 (N := ["by_kind", "weight", "i", "j"]) 2 [3, 4] sc_fits.nd rfl (cps (by kernel_rfl)) (by kernel_rfl) (Y.si_zip rfl T.b_zip (Y.se_var 0) (Y.se_var 1)) (fun _ _ _ => ⟨Y.sg_pair 0 1 rfl (by decide +kernel : (["by_kind", "weight", "i", "j"] : List Str).Nodup), Y.sts_nil, Y.sm_elt (fun _ _ z => z) (Y.se_mul (Y.se_ix (Y.se_ix (Y.se_var 0) (Y.se_var 2)) (Y.se_var 3)) (Y.se_var 1)) rfl⟩)) (Y.ss_cons (Y.ss_if (Y.st_bool (Y.sw_and (Y.st_not (Y.st_val (Y.se_any rfl T.b_any (Y.sq_E (Y.se_var 5))))) (Y.sw_and1 (Y.st_c (c_neD hr) (Y.se_mul (Y.se_ix (Y.se_var 1) (Y.se_var 3)) (Y.se_ix (Y.se_var 1) (Y.se_var 4))) (Y.se_sum rfl T.b_sum (Y.sq_E (Y.se_var 6))))))) (Y.ss_cons (Y.ss_ret (Y.se_bl)) (Y.ss_nil)) (Y.ss_nil)) (Y.ss_nil))))) (Y.ss_nil))) (Y.ss_cons (Y.ss_ret (Y.se_bl)) (Y.ss_nil)))
noncomputable abbrev s_search_weights : Stmt := top 51
theorem sc_search_weights : FnScope ["table", "shares", "starts", "size", "longer"] ["table"] (defScope s_search_weights) := ⟨rfl, rfl, rfl, by decide +kernel, rfl, by decide +kernel, by decide +kernel⟩
noncomputable def m_search_weights (f_count_sizes : Fn) (f_fits : Fn) (f_kind_shares : Fn) : Ex := xSeq (xSet 1 (mCall f_kind_shares (aCons (mVar 0) (aNil)))) (xSeq (xSet 2 (mLst (aCons (mTup (aCons (mLit (.int 1)) (aNil))) (aNil)))) (xSeq (xFor (mIt (mBin gCutFrom (mCall f_count_sizes (aCons (mVar 0) (aNil))) (mLit (.int 1)))) (gVar 3) (xSeq (xSet 4 (mList (cItems 2 [3] (mIt (mVar 2)) (gVar 0) (mLit (.bl true)) (emFor (mRngD (mVar 2) (mBin gSub (mUn gNeg (mVar 2)) (mLit (.int 1)))) (gVar 1) (mLit (.bl true)) (emElt (mBin gAdd (mVar 0) (mTup (aCons (mVar 1) (aNil))))))))) (xSeq (xSet 2 (mList (cItems 1 [1] (mIt (mVar 4)) (gVar 0) (mCall f_fits (aCons (mVar 1) (aCons (mVar 0) (aNil)))) (emElt (mVar 0))))) (xNil)))) (xSeq (xRet (mVar 2)) (xNil))))
theorem r_search_weights {P : Program} {w : World} {K : PySem.W.Frag} {mg : Str → Option Value} {base : Heap} {k : Nat} (T : Bu mg) {f : Addr} {fd : FuncData} (F : Fun K "search_weights" "search_weights" s_search_weights f fd) (hm : mg "search_weights" = some (.ref f)) {f_count_sizes : Fn} (F_count_sizes : FnM P w K mg base k "count_sizes" 1 f_count_sizes) {f_fits : Fn} (F_fits : FnM P w K mg base k "fits" 2 f_fits) {f_kind_shares : Fn} (F_kind_shares : FnM P w K mg base k "kind_shares" 1 f_kind_shares) : FnM P w K mg base (k + 1) "search_weights" 1 (runB 5 (m_search_weights f_count_sizes f_fits f_kind_shares)) :=
  Y.fnM F hm sc_search_weights (fun _ _ _ _ _ _ us hl => (len1 hl).elim fun a q => by subst q; rfl) fun cdv A outer s H E hr => Y.ss_cons (Y.ss_set 1 sc_search_weights.nd (Y.se_call F_kind_shares hr (Y.sa_cons (Y.se_var 0) (Y.sa_nil)) (al_cons al_nil))) (Y.ss_cons (Y.ss_set 2 sc_search_weights.nd (Y.se_lstN (Y.sa_cons (Y.se_tupN (Y.sa_cons (Y.se_int) (Y.sa_nil)) (al_cons al_nil)) (Y.sa_nil)) (al_cons al_nil))) (Y.ss_cons (Y.ss_for PassesOwn.never rfl (Y.si_E (Y.se_cutFrom (Y.se_call F_count_sizes hr (Y.sa_cons (Y.se_var 0) (Y.sa_nil)) (al_cons al_nil)) (Y.se_int))) (Y.sg_var 3 sc_search_weights.nd) (Y.ss_cons (Y.ss_setComp 4 (N := ["start", "weight", "size"]) 2 [3] sc_search_weights.nd rfl (cps (by kernel_rfl)) (by kernel_rfl) (Y.si_E (Y.se_var 2)) (fun _ _ _ => ⟨Y.sg_var 0 (by decide +kernel : (["start", "weight", "size"] : List Str).Nodup), Y.sts_nil, Y.sm_for (fun _ _ z => z) rfl rfl (by intro _ h; cases h <;> rfl) (Y.si_rngD rfl T.b_range (Y.se_var 2) (Y.se_sub (Y.se_neg (Y.se_var 2)) (Y.se_int))) (Y.sg_var 1 (by decide +kernel : (["start", "weight", "size"] : List Str).Nodup)) (Y.sts_nil) (Y.sm_elt (fun _ _ z => z) (Y.se_add (Y.se_var 0) (Y.se_tupN (Y.sa_cons (Y.se_var 1) (Y.sa_nil)) (al_cons al_nil))) rfl)⟩)) (Y.ss_cons (Y.ss_setComp 2 (N := ["start", "shares"]) 1 [1] sc_search_weights.nd rfl (cps (by kernel_rfl)) (by kernel_rfl) (Y.si_E (Y.se_var 4)) (fun _ _ _ => ⟨Y.sg_var 0 (by decide +kernel : (["start", "shares"] : List Str).Nodup), Y.sts_one (Y.st_val (Y.se_call F_fits hr (Y.sa_cons (Y.se_var 1) (Y.sa_cons (Y.se_var 0) (Y.sa_nil))) (al_cons (al_cons al_nil)))), Y.sm_elt (fun _ _ z => z) (Y.se_var 0) rfl⟩)) (Y.ss_nil)))) (Y.ss_cons (Y.ss_ret (Y.se_var 2)) (Y.ss_nil))))
noncomputable abbrev s_all_weights : Stmt := top 52
theorem sc_all_weights : FnScope ["table"] ["table"] (defScope s_all_weights) := ⟨rfl, rfl, rfl, by decide +kernel, rfl, by decide +kernel, by decide +kernel⟩
noncomputable def m_all_weights (f_require_steady : Fn) (f_search_weights : Fn) : Ex := xSeq (xDo (mCall f_require_steady (aCons (mVar 0) (aNil)))) (xSeq (xRet (mCall f_search_weights (aCons (mVar 0) (aNil)))) (xNil))
theorem r_all_weights {P : Program} {w : World} {K : PySem.W.Frag} {mg : Str → Option Value} {base : Heap} {k : Nat} (T : Bu mg) {f : Addr} {fd : FuncData} (F : Fun K "all_weights" "all_weights" s_all_weights f fd) (hm : mg "all_weights" = some (.ref f)) {f_require_steady : Fn} (F_require_steady : FnM P w K mg base k "require_steady" 1 f_require_steady) {f_search_weights : Fn} (F_search_weights : FnM P w K mg base k "search_weights" 1 f_search_weights) : FnM P w K mg base (k + 1) "all_weights" 1 (runB 1 (m_all_weights f_require_steady f_search_weights)) :=
  Y.fnM F hm sc_all_weights (fun _ _ _ _ _ _ us hl => (len1 hl).elim fun a q => by subst q; rfl) fun cdv A outer s H E hr => Y.ss_cons (Y.ss_expr (Y.se_call F_require_steady hr (Y.sa_cons (Y.se_var 0) (Y.sa_nil)) (al_cons al_nil))) (Y.ss_cons (Y.ss_ret (Y.se_call F_search_weights hr (Y.sa_cons (Y.se_var 0) (Y.sa_nil)) (al_cons al_nil))) (Y.ss_nil))
noncomputable abbrev s_is_whole_table : Stmt := top 53
theorem sc_is_whole_table : FnScope ["table"] ["table"] (defScope s_is_whole_table) := ⟨rfl, rfl, rfl, by decide +kernel, rfl, by decide +kernel, by decide +kernel⟩
noncomputable def m_is_whole_table (f_count_kinds : Fn) (f_require_steady : Fn) (f_search_weights : Fn) : Ex := xSeq (xDo (mCall f_require_steady (aCons (mVar 0) (aNil)))) (xSeq (xRet (mBin gEq (mQ gLen (mSeq (mCall f_search_weights (aCons (mVar 0) (aNil))))) (mCall f_count_kinds (aCons (mVar 0) (aNil))))) (xNil))
theorem r_is_whole_table {P : Program} {w : World} {K : PySem.W.Frag} {mg : Str → Option Value} {base : Heap} {k : Nat} (T : Bu mg) {f : Addr} {fd : FuncData} (F : Fun K "is_whole_table" "is_whole_table" s_is_whole_table f fd) (hm : mg "is_whole_table" = some (.ref f)) {f_count_kinds : Fn} (F_count_kinds : FnM P w K mg base k "count_kinds" 1 f_count_kinds) {f_require_steady : Fn} (F_require_steady : FnM P w K mg base k "require_steady" 1 f_require_steady) {f_search_weights : Fn} (F_search_weights : FnM P w K mg base k "search_weights" 1 f_search_weights) : FnM P w K mg base (k + 1) "is_whole_table" 1 (runB 1 (m_is_whole_table f_count_kinds f_require_steady f_search_weights)) :=
  Y.fnM F hm sc_is_whole_table (fun _ _ _ _ _ _ us hl => (len1 hl).elim fun a q => by subst q; rfl) fun cdv A outer s H E hr => Y.ss_cons (Y.ss_expr (Y.se_call F_require_steady hr (Y.sa_cons (Y.se_var 0) (Y.sa_nil)) (al_cons al_nil))) (Y.ss_cons (Y.ss_ret (Y.se_c (c_eqD hr) (Y.se_len T.b_len (Y.sq_E (Y.se_call F_search_weights hr (Y.sa_cons (Y.se_var 0) (Y.sa_nil)) (al_cons al_nil)))) (Y.se_call F_count_kinds hr (Y.sa_cons (Y.se_var 0) (Y.sa_nil)) (al_cons al_nil)))) (Y.ss_nil))
noncomputable abbrev s__law_words_right : Stmt := top 55
theorem sc__law_words_right : FnScope ["_law_many", "_law_signs", "_law_table", "_law_kinds", "_law_i", "_law_j", "_law_k", "_law_place", "_law_row"] ["_law_many", "_law_signs"] (defScope s__law_words_right) := ⟨rfl, rfl, rfl, by decide +kernel, rfl, by decide +kernel, by decide +kernel⟩
noncomputable def m__law_words_right (f_all_weights : Fn) (f_is_steady : Fn) (f_is_whole_table : Fn) (f_kinds_many : Fn) (f_number : Fn) (f_words_number : Fn) (f_words_table : Fn) (f_words_weight : Fn) : Ex := xSeq (xSet 2 (mCall f_words_table (aCons (mVar 0) (aCons (mVar 1) (aNil))))) (xSeq (xSet 3 (mCall f_kinds_many (aCons (mVar 2) (aNil)))) (xSeq (xIf (mOr (mBin (gIs true) (mCall f_is_steady (aCons (mVar 2) (aNil))) (mLit (.bl true))) (mBin (gIs true) (mCall f_is_whole_table (aCons (mVar 2) (aNil))) (mLit (.bl true)))) (xSeq (xRet (mLit (.bl false))) (xNil)) (xNil)) (xSeq (xFor (mRng1 (mVar 3)) (gVar 4) (xSeq (xFor (mRng1 (mVar 3)) (gVar 5) (xSeq (xFor (mRng1 (mVar 3)) (gVar 6) (xSeq (xIf (mBin gNe (mCall f_number (aCons (mVar 2) (aCons (mVar 4) (aCons (mVar 5) (aCons (mVar 6) (aNil)))))) (mCall f_words_number (aCons (mVar 0) (aCons (mVar 1) (aCons (mVar 4) (aCons (mVar 5) (aCons (mVar 6) (aNil)))))))) (xSeq (xRet (mLit (.bl false))) (xNil)) (xNil)) (xNil))) (xNil))) (xNil))) (xSeq (xIf (mBin gEq (mVar 1) (mLit (.int 1))) (xSeq (xRet (mBin gEq (mCall f_all_weights (aCons (mVar 2) (aNil))) (mLst (aCons (mTup (aCons (mLit (.int 1)) (aNil))) (aNil))))) (xNil)) (xNil)) (xSeq (xFor (mEnum (mCall f_all_weights (aCons (mVar 2) (aNil)))) (gPair 7 8) (xSeq (xIf (mBin gNe (mVar 8) (mQ gTup (cItems 1 [0, 1, 7] (mRng1 (mVar 3)) (gVar 0) (mLit (.bl true)) (emElt (mCall f_words_weight (aCons (mVar 1) (aCons (mVar 2) (aCons (mVar 0) (aCons (mVar 3) (aNil)))))))))) (xSeq (xRet (mLit (.bl false))) (xNil)) (xNil)) (xNil))) (xSeq (xRet (mLit (.bl true))) (xNil)))))))
theorem r__law_words_right {P : Program} {w : World} {K : PySem.W.Frag} {mg : Str → Option Value} {base : Heap} {k : Nat} (T : Bu mg) {f : Addr} {fd : FuncData} (F : Fun K "_law_words_right" "_law_words_right" s__law_words_right f fd) (hm : mg "_law_words_right" = some (.ref f)) {f_all_weights : Fn} (F_all_weights : FnM P w K mg base k "all_weights" 1 f_all_weights) {f_is_steady : Fn} (F_is_steady : FnM P w K mg base k "is_steady" 1 f_is_steady) {f_is_whole_table : Fn} (F_is_whole_table : FnM P w K mg base k "is_whole_table" 1 f_is_whole_table) {f_kinds_many : Fn} (F_kinds_many : FnM P w K mg base k "kinds_many" 1 f_kinds_many) {f_number : Fn} (F_number : FnM P w K mg base k "number" 4 f_number) {f_words_number : Fn} (F_words_number : FnM P w K mg base k "words_number" 5 f_words_number) {f_words_table : Fn} (F_words_table : FnM P w K mg base k "words_table" 2 f_words_table) {f_words_weight : Fn} (F_words_weight : FnM P w K mg base k "words_weight" 4 f_words_weight) : FnM P w K mg base (k + 1) "_law_words_right" 2 (runB 9 (m__law_words_right f_all_weights f_is_steady f_is_whole_table f_kinds_many f_number f_words_number f_words_table f_words_weight)) :=
  Y.fnM F hm sc__law_words_right (fun _ _ _ _ _ _ us hl => (len2 hl).elim fun a h => h.elim fun b q => by subst q; rfl) fun cdv A outer s H E hr => Y.ss_cons (Y.ss_set 2 sc__law_words_right.nd (Y.se_call F_words_table hr (Y.sa_cons (Y.se_var 0) (Y.sa_cons (Y.se_var 1) (Y.sa_nil))) (al_cons (al_cons al_nil)))) (Y.ss_cons (Y.ss_set 3 sc__law_words_right.nd (Y.se_call F_kinds_many hr (Y.sa_cons (Y.se_var 2) (Y.sa_nil)) (al_cons al_nil))) (Y.ss_cons (Y.ss_if (Y.st_bool (Y.sw_or (Y.st_c c_isnot (Y.se_call F_is_steady hr (Y.sa_cons (Y.se_var 2) (Y.sa_nil)) (al_cons al_nil)) (Y.se_bl)) (Y.sw_or1 (Y.st_c c_isnot (Y.se_call F_is_whole_table hr (Y.sa_cons (Y.se_var 2) (Y.sa_nil)) (al_cons al_nil)) (Y.se_bl))))) (Y.ss_cons (Y.ss_ret (Y.se_bl)) (Y.ss_nil)) (Y.ss_nil)) (Y.ss_cons (Y.ss_for PassesOwn.never rfl (Y.si_rng1 rfl T.b_range (Y.se_var 3)) (Y.sg_var 4 sc__law_words_right.nd) (Y.ss_cons (Y.ss_for PassesOwn.never rfl (Y.si_rng1 rfl T.b_range (Y.se_var 3)) (Y.sg_var 5 sc__law_words_right.nd) (Y.ss_cons (Y.ss_for PassesOwn.never rfl (Y.si_rng1 rfl T.b_range (Y.se_var 3)) (Y.sg_var 6 sc__law_words_right.nd) (Y.ss_cons (Y.ss_if (Y.st_c (c_neD hr) (Y.se_call F_number hr (Y.sa_cons (Y.se_var 2) (Y.sa_cons (Y.se_var 4) (Y.sa_cons (Y.se_var 5) (Y.sa_cons (Y.se_var 6) (Y.sa_nil))))) (al_cons (al_cons (al_cons (al_cons al_nil))))) (Y.se_call F_words_number hr (Y.sa_cons (Y.se_var 0) (Y.sa_cons (Y.se_var 1) (Y.sa_cons (Y.se_var 4) (Y.sa_cons (Y.se_var 5) (Y.sa_cons (Y.se_var 6) (Y.sa_nil)))))) (al_cons (al_cons (al_cons (al_cons (al_cons al_nil))))))) (Y.ss_cons (Y.ss_ret (Y.se_bl)) (Y.ss_nil)) (Y.ss_nil)) (Y.ss_nil))) (Y.ss_nil))) (Y.ss_nil))) (Y.ss_cons (Y.ss_if (Y.st_c (c_eqD hr) (Y.se_var 1) (Y.se_int)) (Y.ss_cons (Y.ss_ret (Y.se_c (c_eqD hr) (Y.se_call F_all_weights hr (Y.sa_cons (Y.se_var 2) (Y.sa_nil)) (al_cons al_nil)) (Y.se_lstN (Y.sa_cons (Y.se_tupN (Y.sa_cons (Y.se_int) (Y.sa_nil)) (al_cons al_nil)) (Y.sa_nil)) (al_cons al_nil)))) (Y.ss_nil)) (Y.ss_nil)) (Y.ss_cons (Y.ss_for PassesOwn.never rfl (Y.si_enum rfl T.b_enumerate (Y.se_call F_all_weights hr (Y.sa_cons (Y.se_var 2) (Y.sa_nil)) (al_cons al_nil))) (Y.sg_pair 7 8 rfl sc__law_words_right.nd) (Y.ss_cons (Y.ss_if (Y.st_c (c_neD hr) (Y.se_var 8) (Y.se_tuple T.b_tuple (Y.sq_F (Y.sf_comp (N := ["_law_kind", "_law_many", "_law_signs", "_law_place"]) 1 [0, 1, 7] rfl (cps (by kernel_rfl)) (by kernel_rfl) (Y.si_rng1 rfl T.b_range (Y.se_var 3)) (fun _ _ _ => ⟨Y.sg_var 0 (by decide +kernel : (["_law_kind", "_law_many", "_law_signs", "_law_place"] : List Str).Nodup), Y.sts_nil, Y.sm_elt (fun _ _ z => z) (Y.se_call F_words_weight hr (Y.sa_cons (Y.se_var 1) (Y.sa_cons (Y.se_var 2) (Y.sa_cons (Y.se_var 0) (Y.sa_cons (Y.se_var 3) (Y.sa_nil))))) (al_cons (al_cons (al_cons (al_cons al_nil))))) rfl⟩))))) (Y.ss_cons (Y.ss_ret (Y.se_bl)) (Y.ss_nil)) (Y.ss_nil)) (Y.ss_nil))) (Y.ss_cons (Y.ss_ret (Y.se_bl)) (Y.ss_nil)))))))
noncomputable abbrev s_law : Stmt := top 56
theorem sc_law : FnScope ["_law_script", "_law_many", "_law_signs", "_law_table", "_law_size"] ["_law_script"] (defScope s_law) := ⟨rfl, rfl, rfl, by decide +kernel, rfl, by decide +kernel, by decide +kernel⟩
noncomputable def m_law (f__law_words_right : Fn) (f_alike_table : Fn) (f_blocks_table : Fn) (f_is_steady : Fn) (f_is_whole_table : Fn) (f_pairs_table : Fn) (f_ring_table : Fn) (f_words_table : Fn) : Ex := xSeq (xFor (mIt (mLst (aCons (mTup (aCons (mLit (.int 1)) (aCons (mLit (.int 1)) (aNil)))) (aCons (mTup (aCons (mLit (.int 1)) (aCons (mLit (.int 2)) (aNil)))) (aCons (mTup (aCons (mLit (.int 1)) (aCons (mLit (.int 5)) (aNil)))) (aCons (mTup (aCons (mLit (.int 1)) (aCons (mLit (.int 8)) (aNil)))) (aCons (mTup (aCons (mLit (.int 2)) (aCons (mLit (.int 2)) (aNil)))) (aCons (mTup (aCons (mLit (.int 3)) (aCons (mLit (.int 2)) (aNil)))) (aCons (mTup (aCons (mLit (.int 4)) (aCons (mLit (.int 1)) (aNil)))) (aCons (mTup (aCons (mLit (.int 8)) (aCons (mLit (.int 1)) (aNil)))) (aNil))))))))))) (gPair 1 2) (xSeq (xIf (mNot (mCall f__law_words_right (aCons (mVar 1) (aCons (mVar 2) (aNil))))) (xSeq (xRet (mLit (.bl false))) (xNil)) (xNil)) (xNil))) (xSeq (xFor (mRng2 (mLit (.int 1)) (mLit (.int 9))) (gVar 1) (xSeq (xIf (mOr (mBin (gIs true) (mCall f_is_steady (aCons (mCall f_alike_table (aCons (mVar 1) (aNil))) (aNil))) (mLit (.bl true))) (mBin (gIs true) (mCall f_is_whole_table (aCons (mCall f_alike_table (aCons (mVar 1) (aNil))) (aNil))) (mLit (.bl true)))) (xSeq (xRet (mLit (.bl false))) (xNil)) (xNil)) (xSeq (xSet 3 (mCall f_ring_table (aCons (mVar 1) (aNil)))) (xSeq (xIf (mOr (mBin (gIs true) (mCall f_is_steady (aCons (mVar 3) (aNil))) (mLit (.bl true))) (mBin gNe (mCall f_is_whole_table (aCons (mVar 3) (aNil))) (mBin gIn (mVar 1) (mTup (aCons (mLit (.int 1)) (aCons (mLit (.int 2)) (aCons (mLit (.int 3)) (aCons (mLit (.int 4)) (aCons (mLit (.int 6)) (aNil)))))))))) (xSeq (xRet (mLit (.bl false))) (xNil)) (xNil)) (xSeq (xFor (mRng2 (mLit (.int 1)) (mBin gAdd (mBin gDiv (mLit (.int 8)) (mVar 1)) (mLit (.int 1)))) (gVar 4) (xSeq (xSet 3 (mCall f_blocks_table (aCons (mVar 1) (aCons (mVar 4) (aNil))))) (xSeq (xIf (mOr (mBin (gIs true) (mCall f_is_steady (aCons (mVar 3) (aNil))) (mLit (.bl true))) (mBin (gIs true) (mCall f_is_whole_table (aCons (mVar 3) (aNil))) (mLit (.bl true)))) (xSeq (xRet (mLit (.bl false))) (xNil)) (xNil)) (xNil)))) (xNil)))))) (xSeq (xFor (mRng2 (mLit (.int 2)) (mLit (.int 5))) (gVar 1) (xSeq (xIf (mOr (mBin (gIs true) (mCall f_is_steady (aCons (mCall f_pairs_table (aCons (mVar 1) (aNil))) (aNil))) (mLit (.bl true))) (mBin (gIs true) (mCall f_is_whole_table (aCons (mCall f_pairs_table (aCons (mVar 1) (aNil))) (aNil))) (mLit (.bl true)))) (xSeq (xRet (mLit (.bl false))) (xNil)) (xNil)) (xNil))) (xSeq (xRet (mAnd (mBin gNe (mCall f_words_table (aCons (mLit (.int 3)) (aCons (mLit (.int 2)) (aNil)))) (mCall f_ring_table (aCons (mLit (.int 8)) (aNil)))) (mChain gEq gEq (mCall f_pairs_table (aCons (mLit (.int 3)) (aNil))) (mCall f_alike_table (aCons (mLit (.int 3)) (aNil))) (mCall f_ring_table (aCons (mLit (.int 3)) (aNil)))))) (xNil))))
theorem o_law {P : Program} {w : World} {K : PySem.W.Frag} {mg : Str → Option Value} {base : Heap} {k : Nat} (T : Bu mg) {f : Addr} {fd : FuncData} (F : Fun K "law" "law" s_law f fd) {f__law_words_right : Fn} (F__law_words_right : FnM P w K mg base k "_law_words_right" 2 f__law_words_right) {f_alike_table : Fn} (F_alike_table : FnM P w K mg base k "alike_table" 1 f_alike_table) {f_blocks_table : Fn} (F_blocks_table : FnM P w K mg base k "blocks_table" 2 f_blocks_table) {f_is_steady : Fn} (F_is_steady : FnM P w K mg base k "is_steady" 1 f_is_steady) {f_is_whole_table : Fn} (F_is_whole_table : FnM P w K mg base k "is_whole_table" 1 f_is_whole_table) {f_pairs_table : Fn} (F_pairs_table : FnM P w K mg base k "pairs_table" 1 f_pairs_table) {f_ring_table : Fn} (F_ring_table : FnM P w K mg base k "ring_table" 1 f_ring_table) {f_words_table : Fn} (F_words_table : FnM P w K mg base k "words_table" 2 f_words_table) : FnOk P w K mg base CX0 (k + 1) f fd ["_law_script"] (spM K 1 (runB 5 (m_law f__law_words_right f_alike_table f_blocks_table f_is_steady f_is_whole_table f_pairs_table f_ring_table f_words_table))) :=
  Y.fnO F sc_law fun cdv A outer s H E hr => Y.ss_cons (Y.ss_for PassesOwn.never rfl (Y.si_E (Y.se_lstN (Y.sa_cons (Y.se_tupN (Y.sa_cons (Y.se_int) (Y.sa_cons (Y.se_int) (Y.sa_nil))) (al_cons (al_cons al_nil))) (Y.sa_cons (Y.se_tupN (Y.sa_cons (Y.se_int) (Y.sa_cons (Y.se_int) (Y.sa_nil))) (al_cons (al_cons al_nil))) (Y.sa_cons (Y.se_tupN (Y.sa_cons (Y.se_int) (Y.sa_cons (Y.se_int) (Y.sa_nil))) (al_cons (al_cons al_nil))) (Y.sa_cons (Y.se_tupN (Y.sa_cons (Y.se_int) (Y.sa_cons (Y.se_int) (Y.sa_nil))) (al_cons (al_cons al_nil))) (Y.sa_cons (Y.se_tupN (Y.sa_cons (Y.se_int) (Y.sa_cons (Y.se_int) (Y.sa_nil))) (al_cons (al_cons al_nil))) (Y.sa_cons (Y.se_tupN (Y.sa_cons (Y.se_int) (Y.sa_cons (Y.se_int) (Y.sa_nil))) (al_cons (al_cons al_nil))) (Y.sa_cons (Y.se_tupN (Y.sa_cons (Y.se_int) (Y.sa_cons (Y.se_int) (Y.sa_nil))) (al_cons (al_cons al_nil))) (Y.sa_cons (Y.se_tupN (Y.sa_cons (Y.se_int) (Y.sa_cons (Y.se_int) (Y.sa_nil))) (al_cons (al_cons al_nil))) (Y.sa_nil))))))))) (al_cons (al_cons (al_cons (al_cons (al_cons (al_cons (al_cons (al_cons al_nil)))))))))) (Y.sg_pair 1 2 rfl sc_law.nd) (Y.ss_cons (Y.ss_if (Y.st_not (Y.st_val (Y.se_call F__law_words_right hr (Y.sa_cons (Y.se_var 1) (Y.sa_cons (Y.se_var 2) (Y.sa_nil))) (al_cons (al_cons al_nil))))) (Y.ss_cons (Y.ss_ret (Y.se_bl)) (Y.ss_nil)) (Y.ss_nil)) (Y.ss_nil))) (Y.ss_cons (Y.ss_for PassesOwn.never rfl (Y.si_rng2 rfl T.b_range (Y.se_int) (Y.se_int)) (Y.sg_var 1 sc_law.nd) (Y.ss_cons (Y.ss_if (Y.st_bool (Y.sw_or (Y.st_c c_isnot (Y.se_call F_is_steady hr (Y.sa_cons (Y.se_call F_alike_table hr (Y.sa_cons (Y.se_var 1) (Y.sa_nil)) (al_cons al_nil)) (Y.sa_nil)) (al_cons al_nil)) (Y.se_bl)) (Y.sw_or1 (Y.st_c c_isnot (Y.se_call F_is_whole_table hr (Y.sa_cons (Y.se_call F_alike_table hr (Y.sa_cons (Y.se_var 1) (Y.sa_nil)) (al_cons al_nil)) (Y.sa_nil)) (al_cons al_nil)) (Y.se_bl))))) (Y.ss_cons (Y.ss_ret (Y.se_bl)) (Y.ss_nil)) (Y.ss_nil)) (Y.ss_cons (Y.ss_set 3 sc_law.nd (Y.se_call F_ring_table hr (Y.sa_cons (Y.se_var 1) (Y.sa_nil)) (al_cons al_nil))) (Y.ss_cons (Y.ss_if (Y.st_bool (Y.sw_or (Y.st_c c_isnot (Y.se_call F_is_steady hr (Y.sa_cons (Y.se_var 3) (Y.sa_nil)) (al_cons al_nil)) (Y.se_bl)) (Y.sw_or1 (Y.st_c (c_neD hr) (Y.se_call F_is_whole_table hr (Y.sa_cons (Y.se_var 3) (Y.sa_nil)) (al_cons al_nil)) (Y.se_ci c_in (Y.se_var 1) (Y.se_tupN (Y.sa_cons (Y.se_int) (Y.sa_cons (Y.se_int) (Y.sa_cons (Y.se_int) (Y.sa_cons (Y.se_int) (Y.sa_cons (Y.se_int) (Y.sa_nil)))))) (al_cons (al_cons (al_cons (al_cons (al_cons al_nil))))))))))) (Y.ss_cons (Y.ss_ret (Y.se_bl)) (Y.ss_nil)) (Y.ss_nil)) (Y.ss_cons (Y.ss_for PassesOwn.never rfl (Y.si_rng2 rfl T.b_range (Y.se_int) (Y.se_add (Y.se_div (Y.se_int) (Y.se_var 1)) (Y.se_int))) (Y.sg_var 4 sc_law.nd) (Y.ss_cons (Y.ss_set 3 sc_law.nd (Y.se_call F_blocks_table hr (Y.sa_cons (Y.se_var 1) (Y.sa_cons (Y.se_var 4) (Y.sa_nil))) (al_cons (al_cons al_nil)))) (Y.ss_cons (Y.ss_if (Y.st_bool (Y.sw_or (Y.st_c c_isnot (Y.se_call F_is_steady hr (Y.sa_cons (Y.se_var 3) (Y.sa_nil)) (al_cons al_nil)) (Y.se_bl)) (Y.sw_or1 (Y.st_c c_isnot (Y.se_call F_is_whole_table hr (Y.sa_cons (Y.se_var 3) (Y.sa_nil)) (al_cons al_nil)) (Y.se_bl))))) (Y.ss_cons (Y.ss_ret (Y.se_bl)) (Y.ss_nil)) (Y.ss_nil)) (Y.ss_nil)))) (Y.ss_nil)))))) (Y.ss_cons (Y.ss_for PassesOwn.never rfl (Y.si_rng2 rfl T.b_range (Y.se_int) (Y.se_int)) (Y.sg_var 1 sc_law.nd) (Y.ss_cons (Y.ss_if (Y.st_bool (Y.sw_or (Y.st_c c_isnot (Y.se_call F_is_steady hr (Y.sa_cons (Y.se_call F_pairs_table hr (Y.sa_cons (Y.se_var 1) (Y.sa_nil)) (al_cons al_nil)) (Y.sa_nil)) (al_cons al_nil)) (Y.se_bl)) (Y.sw_or1 (Y.st_c c_isnot (Y.se_call F_is_whole_table hr (Y.sa_cons (Y.se_call F_pairs_table hr (Y.sa_cons (Y.se_var 1) (Y.sa_nil)) (al_cons al_nil)) (Y.sa_nil)) (al_cons al_nil)) (Y.se_bl))))) (Y.ss_cons (Y.ss_ret (Y.se_bl)) (Y.ss_nil)) (Y.ss_nil)) (Y.ss_nil))) (Y.ss_cons (Y.ss_ret (Y.se_and (Y.se_c (c_neD hr) (Y.se_call F_words_table hr (Y.sa_cons (Y.se_int) (Y.sa_cons (Y.se_int) (Y.sa_nil))) (al_cons (al_cons al_nil))) (Y.se_call F_ring_table hr (Y.sa_cons (Y.se_int) (Y.sa_nil)) (al_cons al_nil))) (Y.se_one (Y.se_c2 (c_eqD hr) (c_eqD hr) (Y.se_call F_pairs_table hr (Y.sa_cons (Y.se_int) (Y.sa_nil)) (al_cons al_nil)) (Y.se_call F_alike_table hr (Y.sa_cons (Y.se_int) (Y.sa_nil)) (al_cons al_nil)) (Y.se_call F_ring_table hr (Y.sa_cons (Y.se_int) (Y.sa_nil)) (al_cons al_nil)))))) (Y.ss_nil))))
noncomputable def R_is_whole : Fn := runB 1 (m_is_whole)
noncomputable def F_is_whole : Fn := iso R_is_whole
noncomputable def R_is_even : Fn := runB 5 (m_is_even)
noncomputable def F_is_even : Fn := iso R_is_even
noncomputable def R_leaves_no_kind_out : Fn := runB 2 (m_leaves_no_kind_out)
noncomputable def F_leaves_no_kind_out : Fn := iso R_leaves_no_kind_out
noncomputable def R_count_kinds : Fn := runB 1 (m_count_kinds)
noncomputable def F_count_kinds : Fn := iso R_count_kinds
noncomputable def R_first_pairs : Fn := runB 6 (m_first_pairs)
noncomputable def F_first_pairs : Fn := iso R_first_pairs
noncomputable def R_raised : Fn := runB 4 (m_raised)
noncomputable def F_raised : Fn := iso R_raised
noncomputable def R_count_lots : Fn := runB 4 (m_count_lots)
noncomputable def F_count_lots : Fn := iso R_count_lots
noncomputable def R_list_words : Fn := runB 4 (m_list_words)
noncomputable def F_list_words : Fn := iso R_list_words
noncomputable def R_count_unlike : Fn := runB 2 (m_count_unlike)
noncomputable def F_count_unlike : Fn := iso R_count_unlike
noncomputable def R_pair_kind : Fn := runB 2 (m_pair_kind)
noncomputable def F_pair_kind : Fn := iso R_pair_kind
noncomputable def R_block_kind : Fn := runB 3 (m_block_kind)
noncomputable def F_block_kind : Fn := iso R_block_kind
noncomputable def R_fits : Fn := runB 7 (m_fits)
noncomputable def F_fits : Fn := isoL R_fits
noncomputable def R_is_whole_below : Fn := runB 2 (m_is_whole_below F_is_whole)
noncomputable def F_is_whole_below : Fn := iso R_is_whole_below
noncomputable def R_is_wholes : Fn := runB 2 (m_is_wholes F_is_whole)
noncomputable def F_is_wholes : Fn := iso R_is_wholes
noncomputable def R_is_whole_between : Fn := runB 3 (m_is_whole_between F_is_whole)
noncomputable def F_is_whole_between : Fn := iso R_is_whole_between
noncomputable def R_count_shares : Fn := runB 7 (m_count_shares F_count_kinds)
noncomputable def F_count_shares : Fn := iso R_count_shares
noncomputable def R_count_sizes : Fn := runB 1 (m_count_sizes F_count_kinds)
noncomputable def F_count_sizes : Fn := iso R_count_sizes
noncomputable def R_is_wholes_below : Fn := runB 3 (m_is_wholes_below F_is_wholes)
noncomputable def F_is_wholes_below : Fn := iso R_is_wholes_below
noncomputable def R_require_kind : Fn := runB 2 (m_require_kind F_count_kinds F_is_whole_below)
noncomputable def F_require_kind : Fn := iso R_require_kind
noncomputable def R_kind_shares : Fn := runB 3 (m_kind_shares F_count_kinds F_count_shares F_first_pairs)
noncomputable def F_kind_shares : Fn := iso R_kind_shares
noncomputable def R_search_break : Fn := runB 9 (m_search_break F_count_shares F_first_pairs)
noncomputable def F_search_break : Fn := iso R_search_break
noncomputable def R_require_number : Fn := runB 3 (m_require_number F_is_whole_between)
noncomputable def F_require_number : Fn := iso R_require_number
noncomputable def R_require_kind_to : Fn := runB 2 (m_require_kind_to F_is_whole_between)
noncomputable def F_require_kind_to : Fn := iso R_require_kind_to
noncomputable def R_is_table : Fn := runB 2 (m_is_table F_is_even F_is_wholes_below F_leaves_no_kind_out)
noncomputable def F_is_table : Fn := iso R_is_table
noncomputable def R_words_table : Fn := runB 3 (m_words_table F_count_unlike F_list_words F_raised F_require_number)
noncomputable def F_words_table : Fn := iso R_words_table
noncomputable def R_pairs_table : Fn := runB 2 (m_pairs_table F_pair_kind F_require_number)
noncomputable def F_pairs_table : Fn := iso R_pairs_table
noncomputable def R_ring_table : Fn := runB 1 (m_ring_table F_require_number)
noncomputable def F_ring_table : Fn := iso R_ring_table
noncomputable def R_blocks_table : Fn := runB 3 (m_blocks_table F_block_kind F_require_number)
noncomputable def F_blocks_table : Fn := iso R_blocks_table
noncomputable def R_words_number : Fn := runB 10 (m_words_number F_count_lots F_raised F_require_kind_to F_require_number)
noncomputable def F_words_number : Fn := iso R_words_number
noncomputable def R_words_weight : Fn := runB 4 (m_words_weight F_count_lots F_raised F_require_kind_to F_require_number)
noncomputable def F_words_weight : Fn := iso R_words_weight
noncomputable def R_search_weights : Fn := runB 5 (m_search_weights F_count_sizes F_fits F_kind_shares)
noncomputable def F_search_weights : Fn := iso R_search_weights
noncomputable def R_require_table : Fn := runB 1 (m_require_table F_is_table)
noncomputable def F_require_table : Fn := iso R_require_table
noncomputable def R_alike_table : Fn := runB 1 (m_alike_table F_blocks_table)
noncomputable def F_alike_table : Fn := iso R_alike_table
noncomputable def R_kinds_many : Fn := runB 1 (m_kinds_many F_count_kinds F_require_table)
noncomputable def F_kinds_many : Fn := iso R_kinds_many
noncomputable def R_is_steady : Fn := runB 1 (m_is_steady F_require_table F_search_break)
noncomputable def F_is_steady : Fn := iso R_is_steady
noncomputable def R_require_steady : Fn := runB 1 (m_require_steady F_require_table F_search_break)
noncomputable def F_require_steady : Fn := iso R_require_steady
noncomputable def R_number : Fn := runB 4 (m_number F_kind_shares F_require_kind F_require_steady)
noncomputable def F_number : Fn := iso R_number
noncomputable def R_all_weights : Fn := runB 1 (m_all_weights F_require_steady F_search_weights)
noncomputable def F_all_weights : Fn := iso R_all_weights
noncomputable def R_is_whole_table : Fn := runB 1 (m_is_whole_table F_count_kinds F_require_steady F_search_weights)
noncomputable def F_is_whole_table : Fn := iso R_is_whole_table
noncomputable def R__law_words_right : Fn := runB 9 (m__law_words_right F_all_weights F_is_steady F_is_whole_table F_kinds_many F_number F_words_number F_words_table F_words_weight)
noncomputable def F__law_words_right : Fn := iso R__law_words_right
structure Tx (K : PySem.W.Frag) : Prop where
  d_is_whole : FD K "is_whole" s_is_whole
  d_is_even : FD K "is_even" s_is_even
  d_leaves_no_kind_out : FD K "leaves_no_kind_out" s_leaves_no_kind_out
  d_count_kinds : FD K "count_kinds" s_count_kinds
  d_first_pairs : FD K "first_pairs" s_first_pairs
  d_raised : FD K "raised" s_raised
  d_count_lots : FD K "count_lots" s_count_lots
  d_list_words : FD K "list_words" s_list_words
  d_count_unlike : FD K "count_unlike" s_count_unlike
  d_pair_kind : FD K "pair_kind" s_pair_kind
  d_block_kind : FD K "block_kind" s_block_kind
  d_fits : FD K "fits" s_fits
  d_is_whole_below : FD K "is_whole_below" s_is_whole_below
  d_is_wholes : FD K "is_wholes" s_is_wholes
  d_is_whole_between : FD K "is_whole_between" s_is_whole_between
  d_count_shares : FD K "count_shares" s_count_shares
  d_count_sizes : FD K "count_sizes" s_count_sizes
  d_is_wholes_below : FD K "is_wholes_below" s_is_wholes_below
  d_require_kind : FD K "require_kind" s_require_kind
  d_kind_shares : FD K "kind_shares" s_kind_shares
  d_search_break : FD K "search_break" s_search_break
  d_require_number : FD K "require_number" s_require_number
  d_require_kind_to : FD K "require_kind_to" s_require_kind_to
  d_is_table : FD K "is_table" s_is_table
  d_words_table : FD K "words_table" s_words_table
  d_pairs_table : FD K "pairs_table" s_pairs_table
  d_ring_table : FD K "ring_table" s_ring_table
  d_blocks_table : FD K "blocks_table" s_blocks_table
  d_words_number : FD K "words_number" s_words_number
  d_words_weight : FD K "words_weight" s_words_weight
  d_search_weights : FD K "search_weights" s_search_weights
  d_require_table : FD K "require_table" s_require_table
  d_alike_table : FD K "alike_table" s_alike_table
  d_kinds_many : FD K "kinds_many" s_kinds_many
  d_is_steady : FD K "is_steady" s_is_steady
  d_require_steady : FD K "require_steady" s_require_steady
  d_number : FD K "number" s_number
  d_all_weights : FD K "all_weights" s_all_weights
  d_is_whole_table : FD K "is_whole_table" s_is_whole_table
  d__law_words_right : FD K "_law_words_right" s__law_words_right
  d_law : FD K "law" s_law
  n_all : PySem.W.nsIn K mainGlobals "all" = some none
  n_any : PySem.W.nsIn K mainGlobals "any" = some none
  n_bool : PySem.W.nsIn K mainGlobals "bool" = some none
  n_enumerate : PySem.W.nsIn K mainGlobals "enumerate" = some none
  n_int : PySem.W.nsIn K mainGlobals "int" = some none
  n_isinstance : PySem.W.nsIn K mainGlobals "isinstance" = some none
  n_len : PySem.W.nsIn K mainGlobals "len" = some none
  n_list : PySem.W.nsIn K mainGlobals "list" = some none
  n_max : PySem.W.nsIn K mainGlobals "max" = some none
  n_min : PySem.W.nsIn K mainGlobals "min" = some none
  n_range : PySem.W.nsIn K mainGlobals "range" = some none
  n_sum : PySem.W.nsIn K mainGlobals "sum" = some none
  n_tuple : PySem.W.nsIn K mainGlobals "tuple" = some none
  n_zip : PySem.W.nsIn K mainGlobals "zip" = some none
  q_MOST_NUMBER_BY_RULE : CD K "MOST_NUMBER_BY_RULE" 9
  q_MOST_PLACES : CD K "MOST_PLACES" 8
  q_MOST_SIGNS_BY_RULE : CD K "MOST_SIGNS_BY_RULE" 12
  q_MOST_THINGS : CD K "MOST_THINGS" 4
section
variable {P : Program} {w : World} {K : PySem.W.Frag} {mg : Str → Option Value} {base h : Heap}
theorem bu (X : K.In h) (G : h.Ns mainGlobals mg) (T : Tx K) : Bu mg := ⟨PySem.W.mg_none_of X G T.n_all, PySem.W.mg_none_of X G T.n_any, PySem.W.mg_none_of X G T.n_bool, PySem.W.mg_none_of X G T.n_enumerate, PySem.W.mg_none_of X G T.n_int, PySem.W.mg_none_of X G T.n_isinstance, PySem.W.mg_none_of X G T.n_len, PySem.W.mg_none_of X G T.n_list, PySem.W.mg_none_of X G T.n_max, PySem.W.mg_none_of X G T.n_min, PySem.W.mg_none_of X G T.n_range, PySem.W.mg_none_of X G T.n_sum, PySem.W.mg_none_of X G T.n_tuple, PySem.W.mg_none_of X G T.n_zip, (let ⟨t, e⟩ := T.q_MOST_NUMBER_BY_RULE; ⟨t, PySem.W.mg_of X G e⟩), (let ⟨t, e⟩ := T.q_MOST_PLACES; ⟨t, PySem.W.mg_of X G e⟩), (let ⟨t, e⟩ := T.q_MOST_SIGNS_BY_RULE; ⟨t, PySem.W.mg_of X G e⟩), (let ⟨t, e⟩ := T.q_MOST_THINGS; ⟨t, PySem.W.mg_of X G e⟩)⟩
theorem g_is_whole (X : K.In h) (G : h.Ns mainGlobals mg) (T : Tx K) : FnM P w K mg base 1 "is_whole" 1 F_is_whole := by
  obtain ⟨f, fd, F, a⟩ := T.d_is_whole
  exact (r_is_whole (k := 0) (bu X G T) F (PySem.W.mg_of X G a)).iso
theorem g_is_even (X : K.In h) (G : h.Ns mainGlobals mg) (T : Tx K) : FnM P w K mg base 1 "is_even" 1 F_is_even := by
  obtain ⟨f, fd, F, a⟩ := T.d_is_even
  exact (r_is_even (k := 0) (bu X G T) F (PySem.W.mg_of X G a)).iso
theorem g_leaves_no_kind_out (X : K.In h) (G : h.Ns mainGlobals mg) (T : Tx K) : FnM P w K mg base 1 "leaves_no_kind_out" 1 F_leaves_no_kind_out := by
  obtain ⟨f, fd, F, a⟩ := T.d_leaves_no_kind_out
  exact (r_leaves_no_kind_out (k := 0) (bu X G T) F (PySem.W.mg_of X G a)).iso
theorem g_count_kinds (X : K.In h) (G : h.Ns mainGlobals mg) (T : Tx K) : FnM P w K mg base 1 "count_kinds" 1 F_count_kinds := by
  obtain ⟨f, fd, F, a⟩ := T.d_count_kinds
  exact (r_count_kinds (k := 0) (bu X G T) F (PySem.W.mg_of X G a)).iso
theorem g_first_pairs (X : K.In h) (G : h.Ns mainGlobals mg) (T : Tx K) : FnM P w K mg base 1 "first_pairs" 1 F_first_pairs := by
  obtain ⟨f, fd, F, a⟩ := T.d_first_pairs
  exact (r_first_pairs (k := 0) (bu X G T) F (PySem.W.mg_of X G a)).iso
theorem g_raised (X : K.In h) (G : h.Ns mainGlobals mg) (T : Tx K) : FnM P w K mg base 1 "raised" 2 F_raised := by
  obtain ⟨f, fd, F, a⟩ := T.d_raised
  exact (r_raised (k := 0) (bu X G T) F (PySem.W.mg_of X G a)).iso
theorem g_count_lots (X : K.In h) (G : h.Ns mainGlobals mg) (T : Tx K) : FnM P w K mg base 1 "count_lots" 2 F_count_lots := by
  obtain ⟨f, fd, F, a⟩ := T.d_count_lots
  exact (r_count_lots (k := 0) (bu X G T) F (PySem.W.mg_of X G a)).iso
theorem g_list_words (X : K.In h) (G : h.Ns mainGlobals mg) (T : Tx K) : FnM P w K mg base 1 "list_words" 2 F_list_words := by
  obtain ⟨f, fd, F, a⟩ := T.d_list_words
  exact (r_list_words (k := 0) (bu X G T) F (PySem.W.mg_of X G a)).iso
theorem g_count_unlike (X : K.In h) (G : h.Ns mainGlobals mg) (T : Tx K) : FnM P w K mg base 1 "count_unlike" 2 F_count_unlike := by
  obtain ⟨f, fd, F, a⟩ := T.d_count_unlike
  exact (r_count_unlike (k := 0) (bu X G T) F (PySem.W.mg_of X G a)).iso
theorem g_pair_kind (X : K.In h) (G : h.Ns mainGlobals mg) (T : Tx K) : FnM P w K mg base 1 "pair_kind" 2 F_pair_kind := by
  obtain ⟨f, fd, F, a⟩ := T.d_pair_kind
  exact (r_pair_kind (k := 0) (bu X G T) F (PySem.W.mg_of X G a)).iso
theorem g_block_kind (X : K.In h) (G : h.Ns mainGlobals mg) (T : Tx K) : FnM P w K mg base 1 "block_kind" 3 F_block_kind := by
  obtain ⟨f, fd, F, a⟩ := T.d_block_kind
  exact (r_block_kind (k := 0) (bu X G T) F (PySem.W.mg_of X G a)).iso
theorem g_fits (X : K.In h) (G : h.Ns mainGlobals mg) (T : Tx K) : FnM P w K mg base 1 "fits" 2 F_fits := by
  obtain ⟨f, fd, F, a⟩ := T.d_fits
  exact (r_fits (k := 0) (bu X G T) F (PySem.W.mg_of X G a)).isoL
theorem g_is_whole_below (X : K.In h) (G : h.Ns mainGlobals mg) (T : Tx K) : FnM P w K mg base 2 "is_whole_below" 2 F_is_whole_below := by
  obtain ⟨f, fd, F, a⟩ := T.d_is_whole_below
  exact (r_is_whole_below (k := 1) (bu X G T) F (PySem.W.mg_of X G a) ((g_is_whole X G T).mono (by decide))).iso
theorem g_is_wholes (X : K.In h) (G : h.Ns mainGlobals mg) (T : Tx K) : FnM P w K mg base 2 "is_wholes" 2 F_is_wholes := by
  obtain ⟨f, fd, F, a⟩ := T.d_is_wholes
  exact (r_is_wholes (k := 1) (bu X G T) F (PySem.W.mg_of X G a) ((g_is_whole X G T).mono (by decide))).iso
theorem g_is_whole_between (X : K.In h) (G : h.Ns mainGlobals mg) (T : Tx K) : FnM P w K mg base 2 "is_whole_between" 3 F_is_whole_between := by
  obtain ⟨f, fd, F, a⟩ := T.d_is_whole_between
  exact (r_is_whole_between (k := 1) (bu X G T) F (PySem.W.mg_of X G a) ((g_is_whole X G T).mono (by decide))).iso
theorem g_count_shares (X : K.In h) (G : h.Ns mainGlobals mg) (T : Tx K) : FnM P w K mg base 2 "count_shares" 3 F_count_shares := by
  obtain ⟨f, fd, F, a⟩ := T.d_count_shares
  exact (r_count_shares (k := 1) (bu X G T) F (PySem.W.mg_of X G a) ((g_count_kinds X G T).mono (by decide))).iso
theorem g_count_sizes (X : K.In h) (G : h.Ns mainGlobals mg) (T : Tx K) : FnM P w K mg base 2 "count_sizes" 1 F_count_sizes := by
  obtain ⟨f, fd, F, a⟩ := T.d_count_sizes
  exact (r_count_sizes (k := 1) (bu X G T) F (PySem.W.mg_of X G a) ((g_count_kinds X G T).mono (by decide))).iso
theorem g_is_wholes_below (X : K.In h) (G : h.Ns mainGlobals mg) (T : Tx K) : FnM P w K mg base 3 "is_wholes_below" 3 F_is_wholes_below := by
  obtain ⟨f, fd, F, a⟩ := T.d_is_wholes_below
  exact (r_is_wholes_below (k := 2) (bu X G T) F (PySem.W.mg_of X G a) ((g_is_wholes X G T).mono (by decide))).iso
theorem g_require_kind (X : K.In h) (G : h.Ns mainGlobals mg) (T : Tx K) : FnM P w K mg base 3 "require_kind" 2 F_require_kind := by
  obtain ⟨f, fd, F, a⟩ := T.d_require_kind
  exact (r_require_kind (k := 2) (bu X G T) F (PySem.W.mg_of X G a) ((g_count_kinds X G T).mono (by decide)) ((g_is_whole_below X G T).mono (by decide))).iso
theorem g_kind_shares (X : K.In h) (G : h.Ns mainGlobals mg) (T : Tx K) : FnM P w K mg base 3 "kind_shares" 1 F_kind_shares := by
  obtain ⟨f, fd, F, a⟩ := T.d_kind_shares
  exact (r_kind_shares (k := 2) (bu X G T) F (PySem.W.mg_of X G a) ((g_count_kinds X G T).mono (by decide)) ((g_count_shares X G T).mono (by decide)) ((g_first_pairs X G T).mono (by decide))).iso
theorem g_search_break (X : K.In h) (G : h.Ns mainGlobals mg) (T : Tx K) : FnM P w K mg base 3 "search_break" 1 F_search_break := by
  obtain ⟨f, fd, F, a⟩ := T.d_search_break
  exact (r_search_break (k := 2) (bu X G T) F (PySem.W.mg_of X G a) ((g_count_shares X G T).mono (by decide)) ((g_first_pairs X G T).mono (by decide))).iso
theorem g_require_number (X : K.In h) (G : h.Ns mainGlobals mg) (T : Tx K) : FnM P w K mg base 3 "require_number" 3 F_require_number := by
  obtain ⟨f, fd, F, a⟩ := T.d_require_number
  exact (r_require_number (k := 2) (bu X G T) F (PySem.W.mg_of X G a) ((g_is_whole_between X G T).mono (by decide))).iso
theorem g_require_kind_to (X : K.In h) (G : h.Ns mainGlobals mg) (T : Tx K) : FnM P w K mg base 3 "require_kind_to" 2 F_require_kind_to := by
  obtain ⟨f, fd, F, a⟩ := T.d_require_kind_to
  exact (r_require_kind_to (k := 2) (bu X G T) F (PySem.W.mg_of X G a) ((g_is_whole_between X G T).mono (by decide))).iso
theorem g_is_table (X : K.In h) (G : h.Ns mainGlobals mg) (T : Tx K) : FnM P w K mg base 4 "is_table" 1 F_is_table := by
  obtain ⟨f, fd, F, a⟩ := T.d_is_table
  exact (r_is_table (k := 3) (bu X G T) F (PySem.W.mg_of X G a) ((g_is_even X G T).mono (by decide)) ((g_is_wholes_below X G T).mono (by decide)) ((g_leaves_no_kind_out X G T).mono (by decide))).iso
theorem g_words_table (X : K.In h) (G : h.Ns mainGlobals mg) (T : Tx K) : FnM P w K mg base 4 "words_table" 2 F_words_table := by
  obtain ⟨f, fd, F, a⟩ := T.d_words_table
  exact (r_words_table (k := 3) (bu X G T) F (PySem.W.mg_of X G a) ((g_count_unlike X G T).mono (by decide)) ((g_list_words X G T).mono (by decide)) ((g_raised X G T).mono (by decide)) ((g_require_number X G T).mono (by decide))).iso
theorem g_pairs_table (X : K.In h) (G : h.Ns mainGlobals mg) (T : Tx K) : FnM P w K mg base 4 "pairs_table" 1 F_pairs_table := by
  obtain ⟨f, fd, F, a⟩ := T.d_pairs_table
  exact (r_pairs_table (k := 3) (bu X G T) F (PySem.W.mg_of X G a) ((g_pair_kind X G T).mono (by decide)) ((g_require_number X G T).mono (by decide))).iso
theorem g_ring_table (X : K.In h) (G : h.Ns mainGlobals mg) (T : Tx K) : FnM P w K mg base 4 "ring_table" 1 F_ring_table := by
  obtain ⟨f, fd, F, a⟩ := T.d_ring_table
  exact (r_ring_table (k := 3) (bu X G T) F (PySem.W.mg_of X G a) ((g_require_number X G T).mono (by decide))).iso
theorem g_blocks_table (X : K.In h) (G : h.Ns mainGlobals mg) (T : Tx K) : FnM P w K mg base 4 "blocks_table" 2 F_blocks_table := by
  obtain ⟨f, fd, F, a⟩ := T.d_blocks_table
  exact (r_blocks_table (k := 3) (bu X G T) F (PySem.W.mg_of X G a) ((g_block_kind X G T).mono (by decide)) ((g_require_number X G T).mono (by decide))).iso
theorem g_words_number (X : K.In h) (G : h.Ns mainGlobals mg) (T : Tx K) : FnM P w K mg base 4 "words_number" 5 F_words_number := by
  obtain ⟨f, fd, F, a⟩ := T.d_words_number
  exact (r_words_number (k := 3) (bu X G T) F (PySem.W.mg_of X G a) ((g_count_lots X G T).mono (by decide)) ((g_raised X G T).mono (by decide)) ((g_require_kind_to X G T).mono (by decide)) ((g_require_number X G T).mono (by decide))).iso
theorem g_words_weight (X : K.In h) (G : h.Ns mainGlobals mg) (T : Tx K) : FnM P w K mg base 4 "words_weight" 4 F_words_weight := by
  obtain ⟨f, fd, F, a⟩ := T.d_words_weight
  exact (r_words_weight (k := 3) (bu X G T) F (PySem.W.mg_of X G a) ((g_count_lots X G T).mono (by decide)) ((g_raised X G T).mono (by decide)) ((g_require_kind_to X G T).mono (by decide)) ((g_require_number X G T).mono (by decide))).iso
theorem g_search_weights (X : K.In h) (G : h.Ns mainGlobals mg) (T : Tx K) : FnM P w K mg base 4 "search_weights" 1 F_search_weights := by
  obtain ⟨f, fd, F, a⟩ := T.d_search_weights
  exact (r_search_weights (k := 3) (bu X G T) F (PySem.W.mg_of X G a) ((g_count_sizes X G T).mono (by decide)) ((g_fits X G T).mono (by decide)) ((g_kind_shares X G T).mono (by decide))).iso
theorem g_require_table (X : K.In h) (G : h.Ns mainGlobals mg) (T : Tx K) : FnM P w K mg base 5 "require_table" 1 F_require_table := by
  obtain ⟨f, fd, F, a⟩ := T.d_require_table
  exact (r_require_table (k := 4) (bu X G T) F (PySem.W.mg_of X G a) ((g_is_table X G T).mono (by decide))).iso
theorem g_alike_table (X : K.In h) (G : h.Ns mainGlobals mg) (T : Tx K) : FnM P w K mg base 5 "alike_table" 1 F_alike_table := by
  obtain ⟨f, fd, F, a⟩ := T.d_alike_table
  exact (r_alike_table (k := 4) (bu X G T) F (PySem.W.mg_of X G a) ((g_blocks_table X G T).mono (by decide))).iso
theorem g_kinds_many (X : K.In h) (G : h.Ns mainGlobals mg) (T : Tx K) : FnM P w K mg base 6 "kinds_many" 1 F_kinds_many := by
  obtain ⟨f, fd, F, a⟩ := T.d_kinds_many
  exact (r_kinds_many (k := 5) (bu X G T) F (PySem.W.mg_of X G a) ((g_count_kinds X G T).mono (by decide)) ((g_require_table X G T).mono (by decide))).iso
theorem g_is_steady (X : K.In h) (G : h.Ns mainGlobals mg) (T : Tx K) : FnM P w K mg base 6 "is_steady" 1 F_is_steady := by
  obtain ⟨f, fd, F, a⟩ := T.d_is_steady
  exact (r_is_steady (k := 5) (bu X G T) F (PySem.W.mg_of X G a) ((g_require_table X G T).mono (by decide)) ((g_search_break X G T).mono (by decide))).iso
theorem g_require_steady (X : K.In h) (G : h.Ns mainGlobals mg) (T : Tx K) : FnM P w K mg base 6 "require_steady" 1 F_require_steady := by
  obtain ⟨f, fd, F, a⟩ := T.d_require_steady
  exact (r_require_steady (k := 5) (bu X G T) F (PySem.W.mg_of X G a) ((g_require_table X G T).mono (by decide)) ((g_search_break X G T).mono (by decide))).iso
theorem g_number (X : K.In h) (G : h.Ns mainGlobals mg) (T : Tx K) : FnM P w K mg base 7 "number" 4 F_number := by
  obtain ⟨f, fd, F, a⟩ := T.d_number
  exact (r_number (k := 6) (bu X G T) F (PySem.W.mg_of X G a) ((g_kind_shares X G T).mono (by decide)) ((g_require_kind X G T).mono (by decide)) ((g_require_steady X G T).mono (by decide))).iso
theorem g_all_weights (X : K.In h) (G : h.Ns mainGlobals mg) (T : Tx K) : FnM P w K mg base 7 "all_weights" 1 F_all_weights := by
  obtain ⟨f, fd, F, a⟩ := T.d_all_weights
  exact (r_all_weights (k := 6) (bu X G T) F (PySem.W.mg_of X G a) ((g_require_steady X G T).mono (by decide)) ((g_search_weights X G T).mono (by decide))).iso
theorem g_is_whole_table (X : K.In h) (G : h.Ns mainGlobals mg) (T : Tx K) : FnM P w K mg base 7 "is_whole_table" 1 F_is_whole_table := by
  obtain ⟨f, fd, F, a⟩ := T.d_is_whole_table
  exact (r_is_whole_table (k := 6) (bu X G T) F (PySem.W.mg_of X G a) ((g_count_kinds X G T).mono (by decide)) ((g_require_steady X G T).mono (by decide)) ((g_search_weights X G T).mono (by decide))).iso
theorem g__law_words_right (X : K.In h) (G : h.Ns mainGlobals mg) (T : Tx K) : FnM P w K mg base 8 "_law_words_right" 2 F__law_words_right := by
  obtain ⟨f, fd, F, a⟩ := T.d__law_words_right
  exact (r__law_words_right (k := 7) (bu X G T) F (PySem.W.mg_of X G a) ((g_all_weights X G T).mono (by decide)) ((g_is_steady X G T).mono (by decide)) ((g_is_whole_table X G T).mono (by decide)) ((g_kinds_many X G T).mono (by decide)) ((g_number X G T).mono (by decide)) ((g_words_number X G T).mono (by decide)) ((g_words_table X G T).mono (by decide)) ((g_words_weight X G T).mono (by decide))).iso
end
end G
namespace G
open PySem L2 Mi
noncomputable def t0 : W := .tup [.tup [.int 0]]
noncomputable def t1 : W := .tup [.tup [.int 0, .int 1], .tup [.int 1, .int 0]]
noncomputable def t2 : W := .tup [.tup [.int 0, .int 1, .int 1], .tup [.int 1, .int 0, .int 1], .tup [.int 1, .int 1, .int 0]]
noncomputable def t3 : W := .tup [.tup [.int 0, .int 1, .int 1, .int 1], .tup [.int 1, .int 0, .int 1, .int 1], .tup [.int 1, .int 1, .int 0, .int 1], .tup [.int 1, .int 1, .int 1, .int 0]]
noncomputable def t4 : W := .tup [.tup [.int 0, .int 1, .int 1, .int 1, .int 1], .tup [.int 1, .int 0, .int 1, .int 1, .int 1], .tup [.int 1, .int 1, .int 0, .int 1, .int 1], .tup [.int 1, .int 1, .int 1, .int 0, .int 1], .tup [.int 1, .int 1, .int 1, .int 1, .int 0]]
noncomputable def t5 : W := .tup [.tup [.int 0, .int 1, .int 1, .int 1, .int 1, .int 1], .tup [.int 1, .int 0, .int 1, .int 1, .int 1, .int 1], .tup [.int 1, .int 1, .int 0, .int 1, .int 1, .int 1], .tup [.int 1, .int 1, .int 1, .int 0, .int 1, .int 1], .tup [.int 1, .int 1, .int 1, .int 1, .int 0, .int 1], .tup [.int 1, .int 1, .int 1, .int 1, .int 1, .int 0]]
noncomputable def t6 : W := .tup [.tup [.int 0, .int 1, .int 1, .int 1, .int 1, .int 1, .int 1], .tup [.int 1, .int 0, .int 1, .int 1, .int 1, .int 1, .int 1], .tup [.int 1, .int 1, .int 0, .int 1, .int 1, .int 1, .int 1], .tup [.int 1, .int 1, .int 1, .int 0, .int 1, .int 1, .int 1], .tup [.int 1, .int 1, .int 1, .int 1, .int 0, .int 1, .int 1], .tup [.int 1, .int 1, .int 1, .int 1, .int 1, .int 0, .int 1], .tup [.int 1, .int 1, .int 1, .int 1, .int 1, .int 1, .int 0]]
noncomputable def t7 : W := .tup [.tup [.int 0, .int 1, .int 1, .int 1, .int 1, .int 1, .int 1, .int 1], .tup [.int 1, .int 0, .int 1, .int 1, .int 1, .int 1, .int 1, .int 1], .tup [.int 1, .int 1, .int 0, .int 1, .int 1, .int 1, .int 1, .int 1], .tup [.int 1, .int 1, .int 1, .int 0, .int 1, .int 1, .int 1, .int 1], .tup [.int 1, .int 1, .int 1, .int 1, .int 0, .int 1, .int 1, .int 1], .tup [.int 1, .int 1, .int 1, .int 1, .int 1, .int 0, .int 1, .int 1], .tup [.int 1, .int 1, .int 1, .int 1, .int 1, .int 1, .int 0, .int 1], .tup [.int 1, .int 1, .int 1, .int 1, .int 1, .int 1, .int 1, .int 0]]
noncomputable def t8 : W := .tup [.tup [.int 0, .int 1, .int 2, .int 2], .tup [.int 1, .int 0, .int 2, .int 2], .tup [.int 2, .int 2, .int 0, .int 1], .tup [.int 2, .int 2, .int 1, .int 0]]
noncomputable def t9 : W := .tup [.tup [.int 0, .int 1, .int 1, .int 2, .int 2, .int 2], .tup [.int 1, .int 0, .int 1, .int 2, .int 2, .int 2], .tup [.int 1, .int 1, .int 0, .int 2, .int 2, .int 2], .tup [.int 2, .int 2, .int 2, .int 0, .int 1, .int 1], .tup [.int 2, .int 2, .int 2, .int 1, .int 0, .int 1], .tup [.int 2, .int 2, .int 2, .int 1, .int 1, .int 0]]
noncomputable def t10 : W := .tup [.tup [.int 0, .int 1, .int 1, .int 1, .int 2, .int 2, .int 2, .int 2], .tup [.int 1, .int 0, .int 1, .int 1, .int 2, .int 2, .int 2, .int 2], .tup [.int 1, .int 1, .int 0, .int 1, .int 2, .int 2, .int 2, .int 2], .tup [.int 1, .int 1, .int 1, .int 0, .int 2, .int 2, .int 2, .int 2], .tup [.int 2, .int 2, .int 2, .int 2, .int 0, .int 1, .int 1, .int 1], .tup [.int 2, .int 2, .int 2, .int 2, .int 1, .int 0, .int 1, .int 1], .tup [.int 2, .int 2, .int 2, .int 2, .int 1, .int 1, .int 0, .int 1], .tup [.int 2, .int 2, .int 2, .int 2, .int 1, .int 1, .int 1, .int 0]]
noncomputable def t11 : W := .tup [.tup [.int 0, .int 1, .int 2, .int 2, .int 2, .int 2], .tup [.int 1, .int 0, .int 2, .int 2, .int 2, .int 2], .tup [.int 2, .int 2, .int 0, .int 1, .int 2, .int 2], .tup [.int 2, .int 2, .int 1, .int 0, .int 2, .int 2], .tup [.int 2, .int 2, .int 2, .int 2, .int 0, .int 1], .tup [.int 2, .int 2, .int 2, .int 2, .int 1, .int 0]]
noncomputable def t12 : W := .tup [.tup [.int 0, .int 1, .int 2, .int 1], .tup [.int 1, .int 0, .int 1, .int 2], .tup [.int 2, .int 1, .int 0, .int 1], .tup [.int 1, .int 2, .int 1, .int 0]]
noncomputable def t13 : W := .tup [.tup [.int 0, .int 1, .int 2, .int 2, .int 2, .int 2, .int 2, .int 2], .tup [.int 1, .int 0, .int 2, .int 2, .int 2, .int 2, .int 2, .int 2], .tup [.int 2, .int 2, .int 0, .int 1, .int 2, .int 2, .int 2, .int 2], .tup [.int 2, .int 2, .int 1, .int 0, .int 2, .int 2, .int 2, .int 2], .tup [.int 2, .int 2, .int 2, .int 2, .int 0, .int 1, .int 2, .int 2], .tup [.int 2, .int 2, .int 2, .int 2, .int 1, .int 0, .int 2, .int 2], .tup [.int 2, .int 2, .int 2, .int 2, .int 2, .int 2, .int 0, .int 1], .tup [.int 2, .int 2, .int 2, .int 2, .int 2, .int 2, .int 1, .int 0]]
noncomputable def t14 : W := .tup [.tup [.int 0, .int 1, .int 2, .int 2, .int 1], .tup [.int 1, .int 0, .int 1, .int 2, .int 2], .tup [.int 2, .int 1, .int 0, .int 1, .int 2], .tup [.int 2, .int 2, .int 1, .int 0, .int 1], .tup [.int 1, .int 2, .int 2, .int 1, .int 0]]
noncomputable def t15 : W := .tup [.tup [.int 0, .int 1, .int 2, .int 3, .int 2, .int 1], .tup [.int 1, .int 0, .int 1, .int 2, .int 3, .int 2], .tup [.int 2, .int 1, .int 0, .int 1, .int 2, .int 3], .tup [.int 3, .int 2, .int 1, .int 0, .int 1, .int 2], .tup [.int 2, .int 3, .int 2, .int 1, .int 0, .int 1], .tup [.int 1, .int 2, .int 3, .int 2, .int 1, .int 0]]
noncomputable def t16 : W := .tup [.tup [.int 0, .int 1, .int 2, .int 3, .int 3, .int 2, .int 1], .tup [.int 1, .int 0, .int 1, .int 2, .int 3, .int 3, .int 2], .tup [.int 2, .int 1, .int 0, .int 1, .int 2, .int 3, .int 3], .tup [.int 3, .int 2, .int 1, .int 0, .int 1, .int 2, .int 3], .tup [.int 3, .int 3, .int 2, .int 1, .int 0, .int 1, .int 2], .tup [.int 2, .int 3, .int 3, .int 2, .int 1, .int 0, .int 1], .tup [.int 1, .int 2, .int 3, .int 3, .int 2, .int 1, .int 0]]
noncomputable def t17 : W := .tup [.tup [.int 0, .int 1, .int 2, .int 3, .int 4, .int 3, .int 2, .int 1], .tup [.int 1, .int 0, .int 1, .int 2, .int 3, .int 4, .int 3, .int 2], .tup [.int 2, .int 1, .int 0, .int 1, .int 2, .int 3, .int 4, .int 3], .tup [.int 3, .int 2, .int 1, .int 0, .int 1, .int 2, .int 3, .int 4], .tup [.int 4, .int 3, .int 2, .int 1, .int 0, .int 1, .int 2, .int 3], .tup [.int 3, .int 4, .int 3, .int 2, .int 1, .int 0, .int 1, .int 2], .tup [.int 2, .int 3, .int 4, .int 3, .int 2, .int 1, .int 0, .int 1], .tup [.int 1, .int 2, .int 3, .int 4, .int 3, .int 2, .int 1, .int 0]]
noncomputable def t18 : W := .tup [.tup [.int 0, .int 1, .int 1, .int 1, .int 1, .int 2], .tup [.int 1, .int 0, .int 1, .int 1, .int 2, .int 1], .tup [.int 1, .int 1, .int 0, .int 2, .int 1, .int 1], .tup [.int 1, .int 1, .int 2, .int 0, .int 1, .int 1], .tup [.int 1, .int 2, .int 1, .int 1, .int 0, .int 1], .tup [.int 2, .int 1, .int 1, .int 1, .int 1, .int 0]]
noncomputable def t19 : W := .tup [.tup [.int 0, .int 1, .int 1, .int 2, .int 1, .int 2, .int 2, .int 3], .tup [.int 1, .int 0, .int 2, .int 1, .int 2, .int 1, .int 3, .int 2], .tup [.int 1, .int 2, .int 0, .int 1, .int 2, .int 3, .int 1, .int 2], .tup [.int 2, .int 1, .int 1, .int 0, .int 3, .int 2, .int 2, .int 1], .tup [.int 1, .int 2, .int 2, .int 3, .int 0, .int 1, .int 1, .int 2], .tup [.int 2, .int 1, .int 3, .int 2, .int 1, .int 0, .int 2, .int 1], .tup [.int 2, .int 3, .int 1, .int 2, .int 1, .int 2, .int 0, .int 1], .tup [.int 3, .int 2, .int 2, .int 1, .int 2, .int 1, .int 1, .int 0]]
theorem e_alike_table_0 : okAt R_alike_table ([.int 1], t0) = true := by decide +kernel
theorem e_alike_table_1 : okAt R_alike_table ([.int 2], t1) = true := by decide +kernel
theorem e_alike_table_2 : okAt R_alike_table ([.int 3], t2) = true := by decide +kernel
theorem e_alike_table_3 : okAt R_alike_table ([.int 4], t3) = true := by decide +kernel
theorem e_alike_table_4 : okAt R_alike_table ([.int 5], t4) = true := by decide +kernel
theorem e_alike_table_5 : okAt R_alike_table ([.int 6], t5) = true := by decide +kernel
theorem e_alike_table_6 : okAt R_alike_table ([.int 7], t6) = true := by decide +kernel
theorem e_alike_table_7 : okAt R_alike_table ([.int 8], t7) = true := by decide +kernel
noncomputable def T_alike_table : Tab := [([.int 1], t0), ([.int 2], t1), ([.int 3], t2), ([.int 4], t3), ([.int 5], t4), ([.int 6], t5), ([.int 7], t6), ([.int 8], t7)]
theorem k_alike_table : TabOk R_alike_table T_alike_table := .cons e_alike_table_0 (.cons e_alike_table_1 (.cons e_alike_table_2 (.cons e_alike_table_3 (.cons e_alike_table_4 (.cons e_alike_table_5 (.cons e_alike_table_6 (.cons e_alike_table_7 .nil)))))))
theorem e_ring_table_0 : okAt R_ring_table ([.int 1], t0) = true := by decide +kernel
theorem e_ring_table_1 : okAt R_ring_table ([.int 2], t1) = true := by decide +kernel
theorem e_ring_table_2 : okAt R_ring_table ([.int 3], t2) = true := by decide +kernel
theorem e_ring_table_3 : okAt R_ring_table ([.int 4], t12) = true := by decide +kernel
theorem e_ring_table_4 : okAt R_ring_table ([.int 5], t14) = true := by decide +kernel
theorem e_ring_table_5 : okAt R_ring_table ([.int 6], t15) = true := by decide +kernel
theorem e_ring_table_6 : okAt R_ring_table ([.int 7], t16) = true := by decide +kernel
theorem e_ring_table_7 : okAt R_ring_table ([.int 8], t17) = true := by decide +kernel
noncomputable def T_ring_table : Tab := [([.int 1], t0), ([.int 2], t1), ([.int 3], t2), ([.int 4], t12), ([.int 5], t14), ([.int 6], t15), ([.int 7], t16), ([.int 8], t17)]
theorem k_ring_table : TabOk R_ring_table T_ring_table := .cons e_ring_table_0 (.cons e_ring_table_1 (.cons e_ring_table_2 (.cons e_ring_table_3 (.cons e_ring_table_4 (.cons e_ring_table_5 (.cons e_ring_table_6 (.cons e_ring_table_7 .nil)))))))
theorem e_blocks_table_0 : okAt R_blocks_table ([.int 1, .int 1], t0) = true := by decide +kernel
theorem e_blocks_table_1 : okAt R_blocks_table ([.int 1, .int 2], t1) = true := by decide +kernel
theorem e_blocks_table_2 : okAt R_blocks_table ([.int 1, .int 3], t2) = true := by decide +kernel
theorem e_blocks_table_3 : okAt R_blocks_table ([.int 1, .int 4], t3) = true := by decide +kernel
theorem e_blocks_table_4 : okAt R_blocks_table ([.int 1, .int 5], t4) = true := by decide +kernel
theorem e_blocks_table_5 : okAt R_blocks_table ([.int 1, .int 6], t5) = true := by decide +kernel
theorem e_blocks_table_6 : okAt R_blocks_table ([.int 1, .int 7], t6) = true := by decide +kernel
theorem e_blocks_table_7 : okAt R_blocks_table ([.int 1, .int 8], t7) = true := by decide +kernel
theorem e_blocks_table_8 : okAt R_blocks_table ([.int 2, .int 1], t1) = true := by decide +kernel
theorem e_blocks_table_9 : okAt R_blocks_table ([.int 2, .int 2], t8) = true := by decide +kernel
theorem e_blocks_table_10 : okAt R_blocks_table ([.int 2, .int 3], t9) = true := by decide +kernel
theorem e_blocks_table_11 : okAt R_blocks_table ([.int 2, .int 4], t10) = true := by decide +kernel
theorem e_blocks_table_12 : okAt R_blocks_table ([.int 3, .int 1], t2) = true := by decide +kernel
theorem e_blocks_table_13 : okAt R_blocks_table ([.int 3, .int 2], t11) = true := by decide +kernel
theorem e_blocks_table_14 : okAt R_blocks_table ([.int 4, .int 1], t3) = true := by decide +kernel
theorem e_blocks_table_15 : okAt R_blocks_table ([.int 4, .int 2], t13) = true := by decide +kernel
theorem e_blocks_table_16 : okAt R_blocks_table ([.int 5, .int 1], t4) = true := by decide +kernel
theorem e_blocks_table_17 : okAt R_blocks_table ([.int 6, .int 1], t5) = true := by decide +kernel
theorem e_blocks_table_18 : okAt R_blocks_table ([.int 7, .int 1], t6) = true := by decide +kernel
theorem e_blocks_table_19 : okAt R_blocks_table ([.int 8, .int 1], t7) = true := by decide +kernel
noncomputable def T_blocks_table : Tab := [([.int 1, .int 1], t0), ([.int 1, .int 2], t1), ([.int 1, .int 3], t2), ([.int 1, .int 4], t3), ([.int 1, .int 5], t4), ([.int 1, .int 6], t5), ([.int 1, .int 7], t6), ([.int 1, .int 8], t7), ([.int 2, .int 1], t1), ([.int 2, .int 2], t8), ([.int 2, .int 3], t9), ([.int 2, .int 4], t10), ([.int 3, .int 1], t2), ([.int 3, .int 2], t11), ([.int 4, .int 1], t3), ([.int 4, .int 2], t13), ([.int 5, .int 1], t4), ([.int 6, .int 1], t5), ([.int 7, .int 1], t6), ([.int 8, .int 1], t7)]
theorem k_blocks_table : TabOk R_blocks_table T_blocks_table := .cons e_blocks_table_0 (.cons e_blocks_table_1 (.cons e_blocks_table_2 (.cons e_blocks_table_3 (.cons e_blocks_table_4 (.cons e_blocks_table_5 (.cons e_blocks_table_6 (.cons e_blocks_table_7 (.cons e_blocks_table_8 (.cons e_blocks_table_9 (.cons e_blocks_table_10 (.cons e_blocks_table_11 (.cons e_blocks_table_12 (.cons e_blocks_table_13 (.cons e_blocks_table_14 (.cons e_blocks_table_15 (.cons e_blocks_table_16 (.cons e_blocks_table_17 (.cons e_blocks_table_18 (.cons e_blocks_table_19 .nil)))))))))))))))))))
theorem e_pairs_table_0 : okAt R_pairs_table ([.int 2], t0) = true := by decide +kernel
theorem e_pairs_table_1 : okAt R_pairs_table ([.int 3], t2) = true := by decide +kernel
theorem e_pairs_table_2 : okAt R_pairs_table ([.int 4], t18) = true := by decide +kernel
noncomputable def T_pairs_table : Tab := [([.int 2], t0), ([.int 3], t2), ([.int 4], t18)]
theorem k_pairs_table : TabOk R_pairs_table T_pairs_table := .cons e_pairs_table_0 (.cons e_pairs_table_1 (.cons e_pairs_table_2 .nil))
theorem e_words_table_0 : okAt R_words_table ([.int 3, .int 2], t19) = true := by decide +kernel
noncomputable def T_words_table : Tab := [([.int 3, .int 2], t19)]
theorem k_words_table : TabOk R_words_table T_words_table := .cons e_words_table_0 .nil
theorem e_is_steady_0 : okAt R_is_steady ([t0], .bl true) = true := by decide +kernel
theorem e_is_steady_1 : okAt R_is_steady ([t1], .bl true) = true := by decide +kernel
theorem e_is_steady_2 : okAt R_is_steady ([t2], .bl true) = true := by decide +kernel
theorem e_is_steady_3 : okAt R_is_steady ([t3], .bl true) = true := by decide +kernel
theorem e_is_steady_4 : okAt R_is_steady ([t4], .bl true) = true := by decide +kernel
theorem e_is_steady_5 : okAt R_is_steady ([t5], .bl true) = true := by decide +kernel
theorem e_is_steady_6 : okAt R_is_steady ([t6], .bl true) = true := by decide +kernel
theorem e_is_steady_7 : okAt R_is_steady ([t7], .bl true) = true := by decide +kernel
theorem e_is_steady_8 : okAt R_is_steady ([t8], .bl true) = true := by decide +kernel
theorem e_is_steady_9 : okAt R_is_steady ([t9], .bl true) = true := by decide +kernel
theorem e_is_steady_10 : okAt R_is_steady ([t10], .bl true) = true := by decide +kernel
theorem e_is_steady_11 : okAt R_is_steady ([t11], .bl true) = true := by decide +kernel
theorem e_is_steady_12 : okAt R_is_steady ([t12], .bl true) = true := by decide +kernel
theorem e_is_steady_13 : okAt R_is_steady ([t13], .bl true) = true := by decide +kernel
theorem e_is_steady_14 : okAt R_is_steady ([t14], .bl true) = true := by decide +kernel
theorem e_is_steady_15 : okAt R_is_steady ([t15], .bl true) = true := by decide +kernel
theorem e_is_steady_16 : okAt R_is_steady ([t16], .bl true) = true := by decide +kernel
theorem e_is_steady_17 : okAt R_is_steady ([t17], .bl true) = true := by decide +kernel
theorem e_is_steady_18 : okAt R_is_steady ([t18], .bl true) = true := by decide +kernel
theorem e_is_steady_19 : okAt R_is_steady ([t19], .bl true) = true := by decide +kernel
noncomputable def T_is_steady : Tab := [([t0], .bl true), ([t1], .bl true), ([t2], .bl true), ([t3], .bl true), ([t4], .bl true), ([t5], .bl true), ([t6], .bl true), ([t7], .bl true), ([t8], .bl true), ([t9], .bl true), ([t10], .bl true), ([t11], .bl true), ([t12], .bl true), ([t13], .bl true), ([t14], .bl true), ([t15], .bl true), ([t16], .bl true), ([t17], .bl true), ([t18], .bl true), ([t19], .bl true)]
theorem k_is_steady : TabOk R_is_steady T_is_steady := .cons e_is_steady_0 (.cons e_is_steady_1 (.cons e_is_steady_2 (.cons e_is_steady_3 (.cons e_is_steady_4 (.cons e_is_steady_5 (.cons e_is_steady_6 (.cons e_is_steady_7 (.cons e_is_steady_8 (.cons e_is_steady_9 (.cons e_is_steady_10 (.cons e_is_steady_11 (.cons e_is_steady_12 (.cons e_is_steady_13 (.cons e_is_steady_14 (.cons e_is_steady_15 (.cons e_is_steady_16 (.cons e_is_steady_17 (.cons e_is_steady_18 (.cons e_is_steady_19 .nil)))))))))))))))))))
theorem e_is_whole_table_0 : okAt R_is_whole_table ([t0], .bl true) = true := by decide +kernel
theorem e_is_whole_table_1 : okAt R_is_whole_table ([t1], .bl true) = true := by decide +kernel
theorem e_is_whole_table_2 : okAt R_is_whole_table ([t2], .bl true) = true := by decide +kernel
theorem e_is_whole_table_3 : okAt R_is_whole_table ([t3], .bl true) = true := by decide +kernel
theorem e_is_whole_table_4 : okAt R_is_whole_table ([t4], .bl true) = true := by decide +kernel
theorem e_is_whole_table_5 : okAt R_is_whole_table ([t5], .bl true) = true := by decide +kernel
theorem e_is_whole_table_6 : okAt R_is_whole_table ([t6], .bl true) = true := by decide +kernel
theorem e_is_whole_table_7 : okAt R_is_whole_table ([t7], .bl true) = true := by decide +kernel
theorem e_is_whole_table_8 : okAt R_is_whole_table ([t8], .bl true) = true := by decide +kernel
theorem e_is_whole_table_9 : okAt R_is_whole_table ([t9], .bl true) = true := by decide +kernel
theorem e_is_whole_table_10 : okAt R_is_whole_table ([t10], .bl true) = true := by decide +kernel
theorem e_is_whole_table_11 : okAt R_is_whole_table ([t11], .bl true) = true := by decide +kernel
theorem e_is_whole_table_12 : okAt R_is_whole_table ([t12], .bl true) = true := by decide +kernel
theorem e_is_whole_table_13 : okAt R_is_whole_table ([t13], .bl true) = true := by decide +kernel
theorem e_is_whole_table_14 : okAt R_is_whole_table ([t14], .bl false) = true := by decide +kernel
theorem e_is_whole_table_15 : okAt R_is_whole_table ([t15], .bl true) = true := by decide +kernel
theorem e_is_whole_table_16 : okAt R_is_whole_table ([t16], .bl false) = true := by decide +kernel
theorem e_is_whole_table_17 : okAt R_is_whole_table ([t17], .bl false) = true := by decide +kernel
theorem e_is_whole_table_18 : okAt R_is_whole_table ([t18], .bl true) = true := by decide +kernel
theorem e_is_whole_table_19 : okAt R_is_whole_table ([t19], .bl true) = true := by decide +kernel
noncomputable def T_is_whole_table : Tab := [([t0], .bl true), ([t1], .bl true), ([t2], .bl true), ([t3], .bl true), ([t4], .bl true), ([t5], .bl true), ([t6], .bl true), ([t7], .bl true), ([t8], .bl true), ([t9], .bl true), ([t10], .bl true), ([t11], .bl true), ([t12], .bl true), ([t13], .bl true), ([t14], .bl false), ([t15], .bl true), ([t16], .bl false), ([t17], .bl false), ([t18], .bl true), ([t19], .bl true)]
theorem k_is_whole_table : TabOk R_is_whole_table T_is_whole_table := .cons e_is_whole_table_0 (.cons e_is_whole_table_1 (.cons e_is_whole_table_2 (.cons e_is_whole_table_3 (.cons e_is_whole_table_4 (.cons e_is_whole_table_5 (.cons e_is_whole_table_6 (.cons e_is_whole_table_7 (.cons e_is_whole_table_8 (.cons e_is_whole_table_9 (.cons e_is_whole_table_10 (.cons e_is_whole_table_11 (.cons e_is_whole_table_12 (.cons e_is_whole_table_13 (.cons e_is_whole_table_14 (.cons e_is_whole_table_15 (.cons e_is_whole_table_16 (.cons e_is_whole_table_17 (.cons e_is_whole_table_18 (.cons e_is_whole_table_19 .nil)))))))))))))))))))
theorem e__law_words_right_0 : okAt R__law_words_right ([.int 1, .int 1], .bl true) = true := by decide +kernel
theorem e__law_words_right_1 : okAt R__law_words_right ([.int 1, .int 2], .bl true) = true := by decide +kernel
theorem e__law_words_right_2 : okAt R__law_words_right ([.int 1, .int 5], .bl true) = true := by decide +kernel
theorem e__law_words_right_3 : okAt R__law_words_right ([.int 1, .int 8], .bl true) = true := by decide +kernel
theorem e__law_words_right_4 : okAt R__law_words_right ([.int 2, .int 2], .bl true) = true := by decide +kernel
theorem e__law_words_right_5 : okAt R__law_words_right ([.int 3, .int 2], .bl true) = true := by decide +kernel
theorem e__law_words_right_6 : okAt R__law_words_right ([.int 4, .int 1], .bl true) = true := by decide +kernel
theorem e__law_words_right_7 : okAt R__law_words_right ([.int 8, .int 1], .bl true) = true := by decide +kernel
noncomputable def T__law_words_right : Tab := [([.int 1, .int 1], .bl true), ([.int 1, .int 2], .bl true), ([.int 1, .int 5], .bl true), ([.int 1, .int 8], .bl true), ([.int 2, .int 2], .bl true), ([.int 3, .int 2], .bl true), ([.int 4, .int 1], .bl true), ([.int 8, .int 1], .bl true)]
theorem k__law_words_right : TabOk R__law_words_right T__law_words_right := .cons e__law_words_right_0 (.cons e__law_words_right_1 (.cons e__law_words_right_2 (.cons e__law_words_right_3 (.cons e__law_words_right_4 (.cons e__law_words_right_5 (.cons e__law_words_right_6 (.cons e__law_words_right_7 .nil)))))))
end G
namespace Mi
open PySem L2
theorem FnM.tab2 {P : Program} {w : World} {K : PySem.W.Frag} {mg : Str → Option Value} {base : Heap} {k n : Nat} {x : Str} {f : Fn} {l : Tab} (F : FnM P w K mg base k x n (Mi.iso f)) (h : TabOk f l) : FnM P w K mg base k x n (tabFn l) := F.imp fun us A _ => tab_eq h us A
end Mi
namespace G
open PySem L2 Mi
noncomputable def L_law : Fn := runB 5 (m_law (tabFn T__law_words_right) (tabFn T_alike_table) (tabFn T_blocks_table) (tabFn T_is_steady) (tabFn T_is_whole_table) (tabFn T_pairs_table) (tabFn T_ring_table) (tabFn T_words_table))
noncomputable def isT : R W → Bool
  | .ok (.bl b) _ => b
  | _ => false
theorem isT_of {r : R W} (h : isT r = true) : ∃ A, r = .ok (.bl true) A := by
  unfold isT at h
  split at h
  · rename_i b A
    subst h
    exact ⟨A, rfl⟩
  · cases h
theorem law_val (ws : List W) : isT (L_law [.ref 0] [.ro ws]) = true := by kernel_rfl
theorem law_true : LawOk L_law := fun ns _ => isT_of (law_val _)
section
variable {P : Program} {w : World} {K : PySem.W.Frag} {mg : Str → Option Value} {base h : Heap}
theorem law_fn (X : K.In h) (Gl : h.Ns mainGlobals mg) (T : Tx K) {f : Addr} {fd : FuncData} (F : Fun K "law" "law" s_law f fd) : FnOk P w K mg base CX0 9 f fd ["_law_script"] (spM K 1 L_law) :=
  o_law (k := 8) (bu X Gl T) F (((g__law_words_right X Gl T).tab2 k__law_words_right).mono (by decide)) (((g_alike_table X Gl T).tab2 k_alike_table).mono (by decide)) (((g_blocks_table X Gl T).tab2 k_blocks_table).mono (by decide)) (((g_is_steady X Gl T).tab2 k_is_steady).mono (by decide)) (((g_is_whole_table X Gl T).tab2 k_is_whole_table).mono (by decide)) (((g_pairs_table X Gl T).tab2 k_pairs_table).mono (by decide)) (((g_ring_table X Gl T).tab2 k_ring_table).mono (by decide)) (((g_words_table X Gl T).tab2 k_words_table).mono (by decide))
theorem all_mk {l : PySem.W.OpenLaw} {fa : Addr} (X : K.In h) (Gl : h.Ns mainGlobals mg) (hfa : mg "law" = some (.ref fa)) (T : Tx K) :
    ∃ fd : FuncData, (∀ (s : Shared) (v : Value), BindsTo s fd ⟨[v], []⟩ [("_law_script", v)]) ∧ ∀ base : Heap, K.In base → base.Ns mainGlobals mg → FnOk l.prog w K mg base CX0 9 fa fd ["_law_script"] (spM K 1 L_law) := by
  obtain ⟨f, fd, F, a⟩ := T.d_law
  have e := hfa.symm.trans (PySem.W.mg_of X Gl a)
  cases e
  obtain ⟨oc, od, kV, doc, pm, an, cdv, ct, osl, rfl, lk, hcd⟩ := id F.ex
  exact ⟨_, fun s v => .of_eq rfl, fun base kb nb => law_fn X Gl T F⟩
end
end G
open PySem PySem.W PyProof.Rows
set_option maxRecDepth 100000 in
set_option maxHeartbeats 0 in
theorem PySem.Challenge.cw_nearkinds_k63_whole_known_tables_holds : PySem.Challenge.rw_nearkinds_k63_whole_known_tables.Holds := by
  w_on; o_law; k_head; (case hw => w_witness2)
  k_fill
  refine Mi.walkM (l := PySem.Challenge.rw_nearkinds_k63_whole_known_tables) (k := 9) (x := "_law_script") G.law_true rfl rfl ⟨rfl, by decide, by decide⟩ (fun w h Y => PySem.W.kIn_of Y) ?F
  case F =>
    intro w mg fa h KX Gl hmg
    have T : G.Tx (L2.KOf KX) := by
      dsimp only [L2.KOf]
      refine' ⟨?d_is_whole, ?d_is_even, ?d_leaves_no_kind_out, ?d_count_kinds, ?d_first_pairs, ?d_raised, ?d_count_lots, ?d_list_words, ?d_count_unlike, ?d_pair_kind, ?d_block_kind, ?d_fits, ?d_is_whole_below, ?d_is_wholes, ?d_is_whole_between, ?d_count_shares, ?d_count_sizes, ?d_is_wholes_below, ?d_require_kind, ?d_kind_shares, ?d_search_break, ?d_require_number, ?d_require_kind_to, ?d_is_table, ?d_words_table, ?d_pairs_table, ?d_ring_table, ?d_blocks_table, ?d_words_number, ?d_words_weight, ?d_search_weights, ?d_require_table, ?d_alike_table, ?d_kinds_many, ?d_is_steady, ?d_require_steady, ?d_number, ?d_all_weights, ?d_is_whole_table, ?d__law_words_right, ?d_law, ?b_all, ?b_any, ?b_bool, ?b_enumerate, ?b_int, ?b_isinstance, ?b_len, ?b_list, ?b_max, ?b_min, ?b_range, ?b_sum, ?b_tuple, ?b_zip, ?c_MOST_NUMBER_BY_RULE, ?c_MOST_PLACES, ?c_MOST_SIGNS_BY_RULE, ?c_MOST_THINGS⟩
      (case d_is_whole => (refine' Mi.fd_mk ?a ?l ?c ?k; (case a => k_is); (case l => k_is); (case c => k_is); (case k => k_is)))
      (case d_is_even => (refine' Mi.fd_mk ?a ?l ?c ?k; (case a => k_is); (case l => k_is); (case c => k_is); (case k => k_is)))
      (case d_leaves_no_kind_out => (refine' Mi.fd_mk ?a ?l ?c ?k; (case a => k_is); (case l => k_is); (case c => k_is); (case k => k_is)))
      (case d_count_kinds => (refine' Mi.fd_mk ?a ?l ?c ?k; (case a => k_is); (case l => k_is); (case c => k_is); (case k => k_is)))
      (case d_first_pairs => (refine' Mi.fd_mk ?a ?l ?c ?k; (case a => k_is); (case l => k_is); (case c => k_is); (case k => k_is)))
      (case d_raised => (refine' Mi.fd_mk ?a ?l ?c ?k; (case a => k_is); (case l => k_is); (case c => k_is); (case k => k_is)))
      (case d_count_lots => (refine' Mi.fd_mk ?a ?l ?c ?k; (case a => k_is); (case l => k_is); (case c => k_is); (case k => k_is)))
      (case d_list_words => (refine' Mi.fd_mk ?a ?l ?c ?k; (case a => k_is); (case l => k_is); (case c => k_is); (case k => k_is)))
      (case d_count_unlike => (refine' Mi.fd_mk ?a ?l ?c ?k; (case a => k_is); (case l => k_is); (case c => k_is); (case k => k_is)))
      (case d_pair_kind => (refine' Mi.fd_mk ?a ?l ?c ?k; (case a => k_is); (case l => k_is); (case c => k_is); (case k => k_is)))
      (case d_block_kind => (refine' Mi.fd_mk ?a ?l ?c ?k; (case a => k_is); (case l => k_is); (case c => k_is); (case k => k_is)))
      (case d_fits => (refine' Mi.fd_mk ?a ?l ?c ?k; (case a => k_is); (case l => k_is); (case c => k_is); (case k => k_is)))
      (case d_is_whole_below => (refine' Mi.fd_mk ?a ?l ?c ?k; (case a => k_is); (case l => k_is); (case c => k_is); (case k => k_is)))
      (case d_is_wholes => (refine' Mi.fd_mk ?a ?l ?c ?k; (case a => k_is); (case l => k_is); (case c => k_is); (case k => k_is)))
      (case d_is_whole_between => (refine' Mi.fd_mk ?a ?l ?c ?k; (case a => k_is); (case l => k_is); (case c => k_is); (case k => k_is)))
      (case d_count_shares => (refine' Mi.fd_mk ?a ?l ?c ?k; (case a => k_is); (case l => k_is); (case c => k_is); (case k => k_is)))
      (case d_count_sizes => (refine' Mi.fd_mk ?a ?l ?c ?k; (case a => k_is); (case l => k_is); (case c => k_is); (case k => k_is)))
      (case d_is_wholes_below => (refine' Mi.fd_mk ?a ?l ?c ?k; (case a => k_is); (case l => k_is); (case c => k_is); (case k => k_is)))
      (case d_require_kind => (refine' Mi.fd_mk ?a ?l ?c ?k; (case a => k_is); (case l => k_is); (case c => k_is); (case k => k_is)))
      (case d_kind_shares => (refine' Mi.fd_mk ?a ?l ?c ?k; (case a => k_is); (case l => k_is); (case c => k_is); (case k => k_is)))
      (case d_search_break => (refine' Mi.fd_mk ?a ?l ?c ?k; (case a => k_is); (case l => k_is); (case c => k_is); (case k => k_is)))
      (case d_require_number => (refine' Mi.fd_mk ?a ?l ?c ?k; (case a => k_is); (case l => k_is); (case c => k_is); (case k => k_is)))
      (case d_require_kind_to => (refine' Mi.fd_mk ?a ?l ?c ?k; (case a => k_is); (case l => k_is); (case c => k_is); (case k => k_is)))
      (case d_is_table => (refine' Mi.fd_mk ?a ?l ?c ?k; (case a => k_is); (case l => k_is); (case c => k_is); (case k => k_is)))
      (case d_words_table => (refine' Mi.fd_mk ?a ?l ?c ?k; (case a => k_is); (case l => k_is); (case c => k_is); (case k => k_is)))
      (case d_pairs_table => (refine' Mi.fd_mk ?a ?l ?c ?k; (case a => k_is); (case l => k_is); (case c => k_is); (case k => k_is)))
      (case d_ring_table => (refine' Mi.fd_mk ?a ?l ?c ?k; (case a => k_is); (case l => k_is); (case c => k_is); (case k => k_is)))
      (case d_blocks_table => (refine' Mi.fd_mk ?a ?l ?c ?k; (case a => k_is); (case l => k_is); (case c => k_is); (case k => k_is)))
      (case d_words_number => (refine' Mi.fd_mk ?a ?l ?c ?k; (case a => k_is); (case l => k_is); (case c => k_is); (case k => k_is)))
      (case d_words_weight => (refine' Mi.fd_mk ?a ?l ?c ?k; (case a => k_is); (case l => k_is); (case c => k_is); (case k => k_is)))
      (case d_search_weights => (refine' Mi.fd_mk ?a ?l ?c ?k; (case a => k_is); (case l => k_is); (case c => k_is); (case k => k_is)))
      (case d_require_table => (refine' Mi.fd_mk ?a ?l ?c ?k; (case a => k_is); (case l => k_is); (case c => k_is); (case k => k_is)))
      (case d_alike_table => (refine' Mi.fd_mk ?a ?l ?c ?k; (case a => k_is); (case l => k_is); (case c => k_is); (case k => k_is)))
      (case d_kinds_many => (refine' Mi.fd_mk ?a ?l ?c ?k; (case a => k_is); (case l => k_is); (case c => k_is); (case k => k_is)))
      (case d_is_steady => (refine' Mi.fd_mk ?a ?l ?c ?k; (case a => k_is); (case l => k_is); (case c => k_is); (case k => k_is)))
      (case d_require_steady => (refine' Mi.fd_mk ?a ?l ?c ?k; (case a => k_is); (case l => k_is); (case c => k_is); (case k => k_is)))
      (case d_number => (refine' Mi.fd_mk ?a ?l ?c ?k; (case a => k_is); (case l => k_is); (case c => k_is); (case k => k_is)))
      (case d_all_weights => (refine' Mi.fd_mk ?a ?l ?c ?k; (case a => k_is); (case l => k_is); (case c => k_is); (case k => k_is)))
      (case d_is_whole_table => (refine' Mi.fd_mk ?a ?l ?c ?k; (case a => k_is); (case l => k_is); (case c => k_is); (case k => k_is)))
      (case d__law_words_right => (refine' Mi.fd_mk ?a ?l ?c ?k; (case a => k_is); (case l => k_is); (case c => k_is); (case k => k_is)))
      (case d_law => (refine' Mi.fd_mk ?a ?l ?c ?k; (case a => k_is); (case l => k_is); (case c => k_is); (case k => k_is)))
      (case b_all => k_is)
      (case b_any => k_is)
      (case b_bool => k_is)
      (case b_enumerate => k_is)
      (case b_int => k_is)
      (case b_isinstance => k_is)
      (case b_len => k_is)
      (case b_list => k_is)
      (case b_max => k_is)
      (case b_min => k_is)
      (case b_range => k_is)
      (case b_sum => k_is)
      (case b_tuple => k_is)
      (case b_zip => k_is)
      (case c_MOST_NUMBER_BY_RULE => (refine' Mi.cd_mk ?a; (case a => k_is)))
      (case c_MOST_PLACES => (refine' Mi.cd_mk ?a; (case a => k_is)))
      (case c_MOST_SIGNS_BY_RULE => (refine' Mi.cd_mk ?a; (case a => k_is)))
      (case c_MOST_THINGS => (refine' Mi.cd_mk ?a; (case a => k_is)))
    exact G.all_mk KX Gl hmg T
