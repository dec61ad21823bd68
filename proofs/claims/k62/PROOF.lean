import PyProof.Rows.All
import Wide.All
import OpenK.AllK
import Wide.FinOn
import Lean
import PyProof.EqAt
import PyProof.EqKinds
import PyProof.TupleCall
import OpenK.KOwn
import PyProof.Rows.FStr
import PyProof.FString
import PyProof.NsDelKeeps
import KE.KIsAll
import PyProof.ExcArgs
import KE.KLam
import KE.KNestM
import PySem.Challenge.RW_nearkinds_k62_weights_of_words_by_rule
set_option Elab.async false
set_option linter.all false
set_option maxRecDepth 1000000
set_option maxHeartbeats 4000000
set_option bootstrap.genMatcherCode false
set_option genSizeOf false
set_option genInjectivity false

theorem PyNso {α : Type} {x : Option α} {y : α} {P : Prop} (a : x = none) (b : x = some y) : P := by rw [a] at b; cases b
theorem PySos {α : Type} {x : Option α} {y z : α} (a : x = some y) (b : x = some z) : y = z := by rw [a] at b; cases b; rfl
namespace L2
open PySem PySem.Spec PyProof.Rows
noncomputable abbrev Key := Sum Int Str
noncomputable def keyIs : Key → Value → Bool
  | .inl k, v => Value.isInt k v
  | .inr x, v => Value.isStrOf x v
noncomputable def keyH (w : World) : Key → Int
  | .inl k => hashInt k
  | .inr x => hashStr w x
private theorem keyIs_shape : ∀ {k : Key} {v : Value}, keyIs k v = true → (∃ i t, k = Sum.inl i ∧ v = Value.int i t) ∨ (∃ x t, k = Sum.inr x ∧ v = Value.str x t)
  | .inl i, v, h => by
    obtain ⟨t, e⟩ := Value.isInt_shape (k := i) (v := v) h
    exact .inl ⟨i, t, rfl, e⟩
  | .inr x, v, h => by
    obtain ⟨t, e⟩ := Value.isStrOf_shape (x := x) (v := v) h
    exact .inr ⟨x, t, rfl, e⟩
private theorem key_ll (a b : Int) : decide ((Sum.inl a : Key) = Sum.inl b) = (a == b) := by
  by_cases e : a = b
  · subst e; simp
  · have h : ¬ (Sum.inl a : Key) = Sum.inl b := fun q => e (Sum.inl.inj q)
    rw [decide_eq_false h]
    exact (beq_eq_false_iff_ne.mpr e).symm
private theorem key_rr (a b : Str) : decide ((Sum.inr a : Key) = Sum.inr b) = decide (a = b) := by
  by_cases e : a = b
  · subst e; simp
  · have h : ¬ (Sum.inr a : Key) = Sum.inr b := fun q => e (Sum.inr.inj q)
    rw [decide_eq_false h, decide_eq_false e]
private theorem key_lr (a : Int) (b : Str) : decide ((Sum.inl a : Key) = Sum.inr b) = false := decide_eq_false (fun q => nomatch q)
private theorem key_rl (a : Str) (b : Int) : decide ((Sum.inr a : Key) = Sum.inl b) = false := decide_eq_false (fun q => nomatch q)
noncomputable def mixKind (prog : Program) (w : World) : PySem.KeyKind prog w Key where
  is := keyIs
  hash := keyH w
  inj := fun v a b ha hb => by
    rcases keyIs_shape ha with ⟨i, t, rfl, rfl⟩ | ⟨x, t, rfl, rfl⟩
    · rcases keyIs_shape hb with ⟨j, u, rfl, e⟩ | ⟨y, u, rfl, e⟩
      · injection e with e1 _; rw [e1]
      · exact nomatch e
    · rcases keyIs_shape hb with ⟨j, u, rfl, e⟩ | ⟨y, u, rfl, e⟩
      · exact nomatch e
      · injection e with e1 _; rw [e1]
  byValue := fun k v h => by
    rcases keyIs_shape h with ⟨i, t, rfl, rfl⟩ | ⟨x, t, rfl, rfl⟩ <;> rfl
  pyHash := fun hv h => by
    rcases keyIs_shape hv with ⟨i, t, rfl, rfl⟩ | ⟨x, t, rfl, rfl⟩
    · exact wpAny_pyHash_int h
    · exact wpAny_pyHash_str h
  eqBool := fun hu hv h => by
    rcases keyIs_shape hu with ⟨i, t, rfl, rfl⟩ | ⟨x, t, rfl, rfl⟩
    · rcases keyIs_shape hv with ⟨j, u, rfl, rfl⟩ | ⟨y, u, rfl, rfl⟩
      · rw [key_ll] at h; exact wpAny_eqBool_int h
      · rw [key_lr] at h; exact SeqAt.EqAt.int_str i t y u _ _ _ _ h
    · rcases keyIs_shape hv with ⟨j, u, rfl, rfl⟩ | ⟨y, u, rfl, rfl⟩
      · rw [key_rl] at h; exact SeqAt.EqAt.str_int x t j u _ _ _ _ h
      · rw [key_rr] at h; exact wpAny_eqBool_str h
  «strs» := fun k x t v h => by
    rcases keyIs_shape h with ⟨i, u, rfl, e⟩ | ⟨y, u, rfl, e⟩
    · exact nomatch e
    · injection e with e1 _
      subst e1
      cases v <;> rfl
end L2
namespace L2
open PySem PySem.Spec PyProof.Rows
inductive V where
  | non | bl (b : Bool) | int (i : Int) | str (x : Str) | byt (b : Array UInt8) | flt (b : UInt64) | ref (a : Addr) | ty (n : String)
noncomputable def RelV : V → Value → Prop
  | .non, u => u = Value.none
  | .bl b, u => u = Value.bool b
  | .int i, u => ∃ t, u = Value.int i t
  | .str x, u => ∃ t, u = Value.str x t
  | .byt b, u => ∃ t, u = Value.bytes b t
  | .flt b, u => ∃ t, u = Value.float b t
  | .ref a, u => u = Value.ref a
  | .ty n, u => u = Value.type n
noncomputable abbrev Vals : List V → List Value → Prop := Paired RelV
private theorem Vals.length {xs : List V} {us : List Value} (r : Vals xs us) : xs.length = us.length := Paired.length r
private theorem Vals.get : ∀ {xs : List V} {us : List Value} {i : Nat} {x : V}, Vals xs us → xs[i]? = some x → ∃ u, us[i]? = some u ∧ RelV x u
  | _, _, _, _, .nil, e => by simp at e
  | _, _, 0, _, .cons r _, e => by simp at e; subst e; exact ⟨_, rfl, r⟩
  | _, _, i + 1, x, .cons _ t, e => by
    obtain ⟨u, h1, h2⟩ := Vals.get (i := i) (x := x) t (by simpa using e)
    exact ⟨u, by simpa using h1, h2⟩
private theorem Vals.set {x : V} {u : Value} (r : RelV x u) : ∀ {xs : List V} {us : List Value} (i : Nat), Vals xs us → Vals (xs.set i x) (us.set i u)
  | _, _, _, .nil => .nil
  | _, _, 0, .cons _ t => .cons r t
  | _, _, i + 1, .cons q t => .cons q (Vals.set r i t)
private theorem Vals.append : ∀ {xs ys : List V} {us ws : List Value}, Vals xs us → Vals ys ws → Vals (xs ++ ys) (us ++ ws)
  | _, _, _, _, .nil, s => s
  | _, _, _, _, .cons r t, s => .cons r (Vals.append t s)
noncomputable def RelO : Option V → Option Value → Prop
  | some v, some u => RelV v u
  | none, none => True
  | _, _ => False
noncomputable def KV {κ : Type} : List (κ × V) → List (κ × Value) → Prop := Paired fun (p : κ × V) (q : κ × Value) => p.1 = q.1 ∧ RelV p.2 q.2
noncomputable def kV : Key → V
  | .inl i => .int i
  | .inr x => .str x
inductive HO where
  | lst (xs : List V)
  | tup (xs : List V)
  | dK (kvs : List (Key × V)) | dT (kvs : List (List Key × V))
  | set (S : Int → Bool) (n : Nat)
  | ins (C dx : Addr) (fs : List (Str × V))
  | own (x : Addr)
  | xd (fs : List (Str × V))
  | met (f x : Addr)
  | rng (lo hi : Int)
  | frz (o : Obj) (u : HO)
  | tbl (ps : Array Value)
  | ext (φ : Heap → Prop)
noncomputable abbrev Hp := Addr → Option HO
noncomputable def upd (H : Hp) (a : Addr) (o : HO) : Hp := fun b => if b = a then some o else H b
private theorem upd_same {H : Hp} {a : Addr} {o : HO} : upd H a o a = some o := by unfold upd; rw [if_pos rfl]
private theorem upd_ne {H : Hp} {a b : Addr} {o : HO} (h : b ≠ a) : upd H a o b = H b := by unfold upd; rw [if_neg h]
private theorem ne_of {H : Hp} {a b : Addr} {o u : HO} (h : H a = some o) (h' : H b = some u) (d : o ≠ u) : a ≠ b := by
  intro e; subst e; rw [h] at h'; exact d (Option.some.inj h')
private theorem ne_of_none {H : Hp} {a b : Addr} {o : HO} (h : H a = some o) (h' : H b = none) : a ≠ b := by
  intro e; subst e; (first | exact PyNso (h) h' | exact PyNso h' (h) | cases PySos (h) h' | (rw [h] at h'; cases h'))
noncomputable def IsTupN (h : Heap) (a : Addr) (items : Array Value) : Prop := ∃ o, h.get? a = some o ∧ (o.cls = .type "tuple" ∧ o.dict = none) ∧ ∃ n, o.data = .seq items n
private theorem IsTupN.tup {h : Heap} {a : Addr} {items : Array Value} (x : IsTupN h a items) : IsTup h a items := let ⟨o, e, c, d⟩ := x; ⟨o, e, c.1, d⟩
private theorem IsTupN.new (h : Heap) (items : Array Value) : IsTupN (h.push { cls := .type "tuple", data := .seq items }) h.objs.size items := ⟨_, Heap.get?_push_size h rfl, ⟨rfl, rfl⟩, 0, rfl⟩
section
variable (P : Program) (w : World)
noncomputable def ObjOk (H : Hp) (h : Heap) (a : Addr) : HO → Prop
  | .lst xs => xs.length ≤ sizeLine ∧ ∃ (its : List Value) (n : Nat), Vals xs its ∧ h.get? a = some { cls := .type "list", data := .seq its.toArray n }
  | .tup xs => xs.length ≤ sizeLine ∧ ∃ its : List Value, Vals xs its ∧ IsTupN h a its.toArray
  | .dK kvs => kvs.length ≤ sizeLine ∧ (a == sysModules) = false ∧ ∃ vs, KV kvs vs ∧ h.DictOf (mixKind P w) a vs
  | .dT kvs => kvs.length ≤ sizeLine ∧ (a == sysModules) = false ∧ ∃ xs : List (List Key × Addr × Value),
      Paired (fun (p : List Key × V) (q : List Key × Addr × Value) => p.1 = q.1 ∧ H q.2.1 = some (.tup (p.1.map kV)) ∧ RelV p.2 q.2.2) kvs xs ∧
      ∃ o es ep, h.get? a = some o ∧ o.ExactDict ∧ o.data = .dict es ep ∧ es.toList = xs.map (entryOfKey (tupleKind (mixKind P w))) ∧ (xs.map (·.1)).Nodup
  | .set S n => h.SetOf (intKind P w) a S n
  | .ins C dx fs => H dx = some (.own a) ∧ fs.length ≤ 1000 ∧ dx ≠ a ∧ h.get? a = some (PySem.W.instObj C dx) ∧
      ∃ mA, h.Ns1 dx mA ∧ (∀ f, RelO (fs.lookup f) (mA f)) ∧ PySem.Within mA (fs.map (·.1))
  | .own _ => ∃ o, h.get? a = some o
  | .xd fs => ∃ mA, h.Ns1 a mA ∧ ∀ f, RelO (fs.lookup f) (mA f)
  | .rng lo hi => ∃ t u v, h.get? a = some { cls := .type "range", data := .fields #[.int lo t, .int hi u, .int 1 v] }
  | .frz o u => h.get? a = some o ∧ ObjOk H h a u
  | .tbl ps => h.get? a = some { cls := .none, data := .fields ps }
  | .met f x => h.get? a = some (PySem.W.methodObj (.ref f) (.ref x))
  | .ext φ => φ h ∧ (∃ o, h.get? a = some o) ∧ ∀ h1 h2 : Heap, φ h1 → (∀ o, h1.get? a = some o → h2.get? a = some o) → φ h2
noncomputable def HOk (H : Hp) (h : Heap) : Prop := ∀ a o, H a = some o → ObjOk P w H h a o
end
section
variable {P : Program} {w : World} {H H' : Hp} {h h' : Heap} {a : Addr} {o : HO}
private theorem ObjOk.lt (x : ObjOk P w H h a o) : a < h.objs.size := by
  cases o with
  | lst xs => obtain ⟨_, _, _, _, e⟩ := x; exact Heap.lt_size e
  | tup xs => obtain ⟨_, _, _, p⟩ := x; exact p.tup.lt
  | dK kvs => obtain ⟨_, _, _, _, o, _, _, e, _⟩ := x; exact Heap.lt_size e
  | dT kvs => obtain ⟨_, _, _, _, o, _, _, e, _⟩ := x; exact Heap.lt_size e
  | set S n => obtain ⟨o, _, _, _, e, _⟩ := x; exact Heap.lt_size e
  | ins C dx fs => obtain ⟨_, _, _, e, _⟩ := x; exact Heap.lt_size e
  | own y => obtain ⟨_, e⟩ := x; exact Heap.lt_size e
  | xd fs => obtain ⟨_, ⟨_, _, _, e, _⟩, _⟩ := x; exact Heap.lt_size e
  | rng lo hi => obtain ⟨_, _, _, e⟩ := x; exact Heap.lt_size e
  | frz ob u => obtain ⟨e, _⟩ := x; exact Heap.lt_size e
  | tbl ps => exact Heap.lt_size (show h.get? a = some _ from x)
  | met f y => exact Heap.lt_size (show h.get? a = some _ from x)
  | ext φ => obtain ⟨_, ⟨_, e⟩, _⟩ := x; exact Heap.lt_size e
private theorem Paired.mapP {α β : Type} {F G : α → β → Prop} : ∀ {l₁ : List α} {l₂ : List β}, Paired F l₁ l₂ → (∀ a b, F a b → G a b) → Paired G l₁ l₂
  | _, _, .nil, _ => .nil
  | _, _, .cons r t, f => .cons (f _ _ r) (Paired.mapP t f)
private theorem ObjOk.stay (x : ObjOk P w H h a o) (k : ∀ b u, (b = a ∨ H b = some (.own a)) → h.get? b = some u → h'.get? b = some u)
    (ho : ∀ b, H b = some (.own a) → H' b = some (.own a)) (ht : ∀ b xs, H b = some (.tup xs) → H' b = some (.tup xs)) : ObjOk P w H' h' a o := by
  induction o with
  | lst xs => obtain ⟨z, its, n, r, e⟩ := x; exact ⟨z, its, n, r, k _ _ (.inl rfl) e⟩
  | tup xs => obtain ⟨z, its, r, ob, e, c⟩ := x; exact ⟨z, its, r, ob, k _ _ (.inl rfl) e, c⟩
  | dK kvs => obtain ⟨z, y, vs, r, ob, es, ep, e, c⟩ := x; exact ⟨z, y, vs, r, ob, es, ep, k _ _ (.inl rfl) e, c⟩
  | dT kvs =>
    obtain ⟨z, y, xs, r, ob, es, ep, e, c⟩ := x
    exact ⟨z, y, xs, Paired.mapP r fun p q z => ⟨z.1, ht _ _ z.2.1, z.2.2⟩, ob, es, ep, k _ _ (.inl rfl) e, c⟩
  | set S n => obtain ⟨ob, es, ep, t, e, c⟩ := x; exact ⟨ob, es, ep, t, k _ _ (.inl rfl) e, c⟩
  | ins C dx fs =>
    obtain ⟨d, z, ne, e, mA, ⟨od, es, ep, e2, c⟩, r⟩ := x
    exact ⟨ho _ d, z, ne, k _ _ (.inl rfl) e, mA, ⟨od, es, ep, k _ _ (.inr d) e2, c⟩, r⟩
  | own y => obtain ⟨ob, e⟩ := x; exact ⟨ob, k _ _ (.inl rfl) e⟩
  | xd fs => obtain ⟨mA, ⟨od, es, ep, e, c⟩, r⟩ := x; exact ⟨mA, ⟨od, es, ep, k _ _ (.inl rfl) e, c⟩, r⟩
  | rng lo hi => obtain ⟨t, u, v, e⟩ := x; exact ⟨t, u, v, k _ _ (.inl rfl) e⟩
  | frz ob u ih => obtain ⟨e, q⟩ := x; exact ⟨k _ _ (.inl rfl) e, ih q⟩
  | tbl ps =>
    have e : h.get? a = some { cls := .none, data := .fields ps } := x
    show h'.get? a = some { cls := .none, data := .fields ps }
    exact k a _ (.inl rfl) e
  | met f y =>
    have e : h.get? a = some (PySem.W.methodObj (.ref f) (.ref y)) := x
    show h'.get? a = some (PySem.W.methodObj (.ref f) (.ref y))
    exact k a _ (.inl rfl) e
  | ext φ => obtain ⟨p, ⟨o, e⟩, st⟩ := x; exact ⟨st _ _ p fun o q => k _ _ (.inl rfl) q, ⟨o, k _ _ (.inl rfl) e⟩, st⟩
private theorem HOk.lt (x : HOk P w H h) (e : H a = some o) : a < h.objs.size := (x a o e).lt
private theorem HOk.fresh (x : HOk P w H h) (e : h.objs.size ≤ a) : H a = none := by
  cases q : H a with
  | none => rfl
  | some u => exact absurd (Nat.lt_of_lt_of_le (x.lt q) e) (Nat.lt_irrefl _)
private theorem HOk.kept (x : HOk P w H h) (k : ∀ b u, h.get? b = some u → h'.get? b = some u) : HOk P w H h' := fun a o e =>
  (x a o e).stay (fun b u _ q => k b u q) (fun _ q => q) fun _ _ q => q
private theorem HOk.laid (x : HOk P w H h) (k : ∀ b u, h.get? b = some u → h'.get? b = some u) (hp : h.objs.size ≤ a) (new : ObjOk P w (upd H a o) h' a o) : HOk P w (upd H a o) h' := fun b u e => by
  have hn := x.fresh hp
  by_cases hb : b = a
  · subst hb; (first | exact PyNso (upd_same) e | exact PyNso e (upd_same) | cases PySos (upd_same) e | (rw [upd_same] at e; cases e)); exact new
  · rw [upd_ne hb] at e
    exact (x b u e).stay (fun c v _ q => k c v q) (fun c q => by (first | exact ((upd_ne (ne_of_none q hn)).trans (q)) | (rw [upd_ne (ne_of_none q hn)]; exact q))) fun c xs q => by (first | exact ((upd_ne (ne_of_none q hn)).trans (q)) | (rw [upd_ne (ne_of_none q hn)]; exact q))
end
noncomputable def Rd (H : Hp) (a : Addr) (u : HO) : Prop := H a = some u ∨ ∃ o, H a = some (.frz o u)
private theorem Rd.ok {P : Program} {w : World} {H : Hp} {h : Heap} {a : Addr} {u : HO} (r : Rd H a u) (x : HOk P w H h) : ObjOk P w H h a u := by
  rcases r with r | ⟨o, r⟩
  · exact x a u r
  · obtain ⟨_, q⟩ := x a _ r
    exact q
noncomputable def Mut : Option HO → Prop
  | some (.lst _) => True
  | some (.dK _) => True
  | some (.dT _) => True
  | some (.set _ _) => True
  | some (.ins _ _ _) => True
  | some (.ext _) => True
  | _ => False
section
variable {P : Program} {w : World} {H : Hp} {h h' : Heap} {x e : Addr} {o' : HO}
private theorem HOk.write (ok : HOk P w H h) (mu : Mut (H x)) (he : e = x ∨ H e = some (.own x)) (k : ∀ b u, b ≠ e → h.get? b = some u → h'.get? b = some u) (heo : ∃ u, h'.get? e = some u)
    (new : ObjOk P w (upd H x o') h' x o') : HOk P w (upd H x o') h' := fun b u q => by
  have nown : ∀ c y, H c = some (.own y) → c ≠ x := fun c y r z => by subst z; rw [r] at mu; exact mu
  have ntup : ∀ c xs, H c = some (.tup xs) → c ≠ x := fun c xs r z => by subst z; rw [r] at mu; exact mu
  by_cases hb : b = x
  · subst hb; (first | exact PyNso (upd_same) q | exact PyNso q (upd_same) | cases PySos (upd_same) q | (rw [upd_same] at q; cases q)); exact new
  · rw [upd_ne hb] at q
    by_cases hbe : b = e
    · have q' : H b = some (.own x) := by
        rcases he with z | z
        · exact absurd (hbe.trans z) hb
        · (first | exact ((hbe).trans (z)) | (rw [hbe]; exact z))
      (first | exact PyNso (q) q' | exact PyNso q' (q) | cases PySos (q) q' | (rw [q] at q'; cases q'))
      obtain ⟨v, hv⟩ := heo
      exact ⟨v, by (first | exact ((hbe).trans (hv)) | (rw [hbe]; exact hv))⟩
    · refine (ok b u q).stay (fun c v hc r => k c v ?_ r) (fun c r => by (first | exact ((upd_ne (nown c b r)).trans (r)) | (rw [upd_ne (nown c b r)]; exact r))) fun c xs r => by rw [upd_ne (ntup c xs r)]; exact r
      rcases hc with rfl | hc
      · exact hbe
      · rintro rfl
        rcases he with z | z
        · exact nown c b hc z
        · (first | exact PyNso (hc) z | exact PyNso z (hc) | cases PySos (hc) z | (rw [hc] at z; cases z)); exact hb rfl
end
structure Un (fs ex : List Addr) (H H' : Hp) (h h' : Heap) : Prop where
  keep : ∀ b o, h.get? b = some o → H b = none → b ∉ fs → b ∉ ex → h'.get? b = some o
  slot : ∀ b o, h.get? b = some o → H b = none → b ∈ fs → b ∉ ex → ∃ sl, h'.get? b = some { o with slots := sl }
  free : ∀ b o, h.get? b = some o → H b = none → b ∉ ex → H' b = none
  there : ∀ b o, h.get? b = some o → b ∉ ex → ∃ o', h'.get? b = some o'
  tups : ∀ b xs, H b = some (.tup xs) → H' b = some (.tup xs)
  frzs : ∀ b o u, H b = some (.frz o u) → H' b = some (.frz o u)
  tbls : ∀ b ps, H b = some (.tbl ps) → ∃ more, H' b = some (.tbl (ps ++ more))
section
variable {fs fs' ex ex' : List Addr} {H H1 H2 : Hp} {h h1 h2 h' : Heap} {a x e : Addr} {o : HO}
private theorem Un.any (u : Un fs ex H H1 h h1) {b : Addr} {ob : Obj} (q : h.get? b = some ob) (n : H b = none) (hx : b ∉ ex) : ∃ sl, h1.get? b = some { ob with slots := sl } := by
  by_cases hb : b ∈ fs
  · exact u.slot b ob q n hb hx
  · exact ⟨ob.slots, u.keep b ob q n hb hx⟩
private theorem Un.kept (k : ∀ b u, h.get? b = some u → h'.get? b = some u) : Un fs ex H H h h' :=
  ⟨fun b ob q _ _ _ => k b ob q, fun b ob q _ _ _ => ⟨ob.slots, k b ob q⟩, fun _ _ _ n _ => n, fun b ob q _ => ⟨ob, k b ob q⟩, fun _ _ q => q, fun _ _ _ q => q, fun _ ps q => ⟨#[], by rw [q]; simp⟩⟩
private theorem Un.refl : Un fs ex H H h h := Un.kept fun _ _ q => q
private theorem Un.laid (k : ∀ b u, h.get? b = some u → h'.get? b = some u) (hp : h.objs.size ≤ a) (hn : H a = none) : Un fs ex H (upd H a o) h h' where
  keep := fun b u q _ _ _ => k b u q
  slot := fun b u q _ _ _ => ⟨u.slots, k b u q⟩
  free := fun b u q n _ => by (first | exact ((upd_ne (Nat.ne_of_lt (Nat.lt_of_lt_of_le (Heap.lt_size q) hp))).trans (n)) | (rw [upd_ne (Nat.ne_of_lt (Nat.lt_of_lt_of_le (Heap.lt_size q) hp))]; exact n))
  there := fun b u q _ => ⟨u, k b u q⟩
  tups := fun b xs q => by (first | exact ((upd_ne (ne_of_none q hn)).trans (q)) | (rw [upd_ne (ne_of_none q hn)]; exact q))
  frzs := fun b u xs q => by (first | exact ((upd_ne (ne_of_none q hn)).trans (q)) | (rw [upd_ne (ne_of_none q hn)]; exact q))
  tbls := fun b ps q => ⟨#[], by rw [upd_ne (ne_of_none q hn), q]; simp⟩
private theorem Un.write (mu : Mut (H x)) (he : e = x ∨ H e = some (.own x)) (k : ∀ b u, b ≠ e → h.get? b = some u → h'.get? b = some u) (heo : ∃ u, h'.get? e = some u) : Un fs ex H (upd H x o) h h' := by
  have hx : ∀ b, H b = none → b ≠ x := fun b n z => by subst z; rw [n] at mu; exact mu
  have hb : ∀ b, H b = none → b ≠ e := fun b n z => by
    subst z
    rcases he with r | r
    · exact hx b n r
    · (first | exact PyNso (n) r | exact PyNso r (n) | cases PySos (n) r | (rw [n] at r; cases r))
  have hm : ∀ b u, H b = some u → ¬ Mut (some u) → b ≠ x := fun b u q nm z => by subst z; rw [q] at mu; exact nm mu
  refine ⟨fun b u q n _ _ => k b u (hb b n) q, fun b u q n _ _ => ⟨u.slots, k b u (hb b n) q⟩, fun b u q n _ => by (first | exact ((upd_ne (hx b n)).trans (n)) | (rw [upd_ne (hx b n)]; exact n)), fun b u q _ => ?_,
    fun b xs q => by (first | exact ((upd_ne (hm b _ q fun z => z)).trans (q)) | (rw [upd_ne (hm b _ q fun z => z)]; exact q)), fun b u xs q => by (first | exact ((upd_ne (hm b _ q fun z => z)).trans (q)) | (rw [upd_ne (hm b _ q fun z => z)]; exact q)), fun b ps q => ⟨#[], by rw [upd_ne (hm b _ q fun z => z), q]; simp⟩⟩
  by_cases hbe : b = e
  · subst hbe; exact heo
  · exact ⟨u, k b u hbe q⟩
end
noncomputable def trk (h : Heap) (H : Hp) : List Addr := (List.range h.objs.size).filter fun a => (H a).isSome
noncomputable def hidT (h : Heap) (H : Hp) : Heap := PySem.W.hideAll h (trk h H)
private theorem hidT_size (h : Heap) (H : Hp) : (hidT h H).objs.size = h.objs.size := PySem.W.hideAll_size _ _
private theorem hidT_get {h : Heap} {H : Hp} {b : Addr} {o : Obj} (e : h.get? b = some o) (n : H b = none) : (hidT h H).get? b = some o :=
  PySem.W.hideAll_get _ e fun hm => by
    have q : (H b).isSome = true := (List.mem_filter.mp hm).2
    rw [n] at q; simp at q
private theorem of_hidT {h : Heap} {H : Hp} {b : Addr} {o : Obj} (e : (hidT h H).get? b = some o) : h.get? b = some o ∧ H b = none := by
  have e' : h.get? b = some o := PySem.W.of_hideAll (trk h H) e
  refine ⟨e', ?_⟩
  cases q : H b with
  | none => rfl
  | some x =>
    have hm : b ∈ trk h H := List.mem_filter.mpr ⟨List.mem_range.mpr (Heap.lt_size e'), by simp [q]⟩
    have z : (hidT h H).get? b = none := PySem.W.hideAll_none (trk h H) hm
    (first | exact PyNso (z) e | exact PyNso e (z) | cases PySos (z) e | (rw [z] at e; cases e))
end L2
namespace L2
open PySem PySem.Spec PyProof.Rows
structure Mod (K : PySem.W.Frag) (mg : Str → Option Value) (base : Heap) : Prop where
  kin : K.In base
  glob : base.Ns mainGlobals mg
  blt : ∃ mb, base.Ns builtinsNs mb ∧ ∀ x : Str, x ≠ "__name__" → mb x = bootBuiltins x
  nolimit : base.NoLimit
structure Cx where
  prog : Program
  w : World
  K : PySem.W.Frag
  mg : Str → Option Value
  base : Heap
  A : Around
  N : List Str
  s0 : Shared
  H0 : Hp
  env : Env
  outer : List Env
  stack : List Env
  ex : List Addr
  fn : Str → Bool
  calm : Bool
  pn : List (Addr × Obj)
  xe : Value → Shared → Prop
noncomputable def frs (l : List Env) : List Addr := l.filterMap (·.frame)
noncomputable abbrev Cx.fs (X : Cx) : List Addr := frs X.outer
noncomputable def Vis (sc : Scope) (x : Str) : Prop := sc.names.lookup x = some .local ∨ sc.names.lookup x = some .cell ∨ sc.names.lookup x = some .free
noncomputable def Loc (sc : Scope) (x : Str) : Prop := sc.names.lookup x = some .local ∨ sc.names.lookup x = some .cell
noncomputable def Look (env : Env) (h : Heap) (m : Str → Option Value) (x : Str) (u : Value) : Prop :=
  (env.kindOf x = some .local ∧ m x = some u) ∨ ((env.kindOf x = some .cell ∨ env.kindOf x = some .free) ∧ ∃ c, env.cells.lookup x = some c ∧ h.IsCell c (some u))
structure Cx.Ok (X : Cx) : Prop where
  mod : Mod X.K X.mg X.base
  kind : X.env.scope.kind = .function
  glob : X.env.globals = mainGlobals
  blt : X.env.builtins = builtinsNs
  above : X.s0.heap.objs.size ≤ X.env.locals
  inj : ∀ x y c, X.env.cells.lookup x = some c → X.env.cells.lookup y = some c → x = y
  has : ∀ x, (X.env.kindOf x = some .cell ∨ X.env.kindOf x = some .free) → ∃ c, X.env.cells.lookup x = some c
  cab : ∀ x c, X.fn x = true → X.env.cells.lookup x = some c → X.s0.heap.objs.size ≤ c
  hd : X.calm = true → X.A.handled = none
  frames : X.A.frames = some X.stack
  stk : X.stack = X.outer ∨ (X.stack = X.env :: X.outer ∧ X.env.frame = some X.env.locals)
  exf : ∀ b ∈ X.ex, b ≠ X.env.locals ∧ ∀ x c, X.env.cells.lookup x = some c → c ≠ b
  bs : ∀ b o, X.base.get? b = some o → X.s0.heap.get? b = some o ∧ X.H0 b = none
  bsz : X.base.objs.size ≤ X.s0.heap.objs.size
  noex : ∀ b o, X.base.get? b = some o → b ∉ X.ex
  exfs : ∀ b ∈ X.ex, b ∉ X.fs
  funs : X.s0.heap.FunFrames X.base X.outer
  frf : ∀ b ∈ X.fs, X.H0 b = none
structure Inv (X : Cx) (pins : List (Addr × Obj)) (σ : List (Option V)) (H : Hp) (s : Shared) : Prop where
  ok : X.Ok
  os : s.os = X.s0.os
  bare : AllBare s.gens
  base : Un X.fs X.ex X.H0 H X.s0.heap s.heap
  loc : ∃ m, s.heap.Ns X.env.locals m ∧ ∀ (i : Nat) (x : Str) (v : V), X.N[i]? = some x → σ[i]? = some (some v) → Vis X.env.scope x → ∃ u, RelV v u ∧ Look X.env s.heap m x u
  cell : ∀ x c, X.env.cells.lookup x = some c → ∃ v, s.heap.IsCell c v
  free : H X.env.locals = none
  freeC : ∀ x c, X.env.cells.lookup x = some c → H c = none
  pin : ∀ p ∈ X.pn ++ pins, s.heap.get? p.1 = some p.2 ∧ H p.1 = none ∧ p.1 ≠ X.env.locals ∧ p.1 ∉ X.fs ∧ ∀ v, p.2.data ≠ .cell v
  hok : HOk X.prog X.w H s.heap
  len : σ.length = X.N.length
section
variable {X : Cx} {pins : List (Addr × Obj)} {σ : List (Option V)} {H H' : Hp} {s : Shared} {h' : Heap}
private theorem Cx.Ok.nofr (ok : X.Ok) {b : Addr} {o : Obj} (e : X.base.get? b = some o) : b ∉ X.fs := fun hb => by
  have := (ok.funs.mem hb).1
  (first | exact PyNso (e) this | exact PyNso this (e) | cases PySos (e) this | (rw [e] at this; cases this))
private theorem Inv.bs (I : Inv X pins σ H s) : ∀ b o, X.base.get? b = some o → s.heap.get? b = some o ∧ H b = none := fun b o e =>
  ⟨I.base.keep b o (I.ok.bs b o e).1 (I.ok.bs b o e).2 (I.ok.nofr e) (I.ok.noex b o e), I.base.free b o (I.ok.bs b o e).1 (I.ok.bs b o e).2 (I.ok.noex b o e)⟩
private theorem Inv.bk (I : Inv X pins σ H s) : ∀ b o, X.base.get? b = some o → s.heap.get? b = some o := fun b o e => (I.bs b o e).1
private theorem Inv.mod (I : Inv X pins σ H s) : Mod X.K X.mg X.base := I.ok.mod
private theorem Inv.kIn (I : Inv X pins σ H s) : X.K.In s.heap := I.ok.mod.kin.keeps I.bk
private theorem Inv.lt (I : Inv X pins σ H s) : X.env.locals < s.heap.objs.size := let ⟨_, hn, _⟩ := I.loc; hn.lt
private theorem Inv.sz (I : Inv X pins σ H s) : X.s0.heap.objs.size ≤ s.heap.objs.size := Nat.le_trans I.ok.above (Nat.le_of_lt I.lt)
private theorem Inv.nofs (I : Inv X pins σ H s) {a : Addr} (h : s.heap.objs.size ≤ a) : a ∉ X.fs := fun hb => by
  obtain ⟨_, o, ho, _⟩ := I.ok.funs.mem hb
  exact absurd (Nat.lt_of_lt_of_le (Heap.lt_size ho) (Nat.le_trans I.sz h)) (Nat.lt_irrefl _)
private theorem Inv.cne (I : Inv X pins σ H s) : ∀ x c, X.env.cells.lookup x = some c → c ≠ X.env.locals := fun x c e z => by
  obtain ⟨v, o, ho, hd⟩ := I.cell x c e
  obtain ⟨m, ⟨o', es, ep, ho', hd', _⟩, _⟩ := I.loc
  (first | exact PyNso (ho') (z ▸ ho) | (rw [z, ho'] at ho; cases ho)); (first | exact PyNso (hd') hd | exact PyNso hd (hd') | cases PySos (hd') hd | (rw [hd'] at hd; cases hd))
private theorem Inv.funs (I : Inv X pins σ H s) : s.heap.FunFrames X.base X.outer := by
  have all : ∀ (l : List Env), (∀ b ∈ frs l, b ∈ X.fs) → X.s0.heap.FunFrames X.base l → s.heap.FunFrames X.base l := by
    intro l
    induction l with
    | nil => intro _ _; trivial
    | cons env r ih =>
      intro hs hl
      obtain ⟨hk, ⟨L, o, hf, hn, ho, hd⟩, hr⟩ := hl
      have hL : L ∈ X.fs := hs L (by unfold frs; (first | exact ((List.filterMap_cons).trans ((hf).trans (List.mem_cons_self))) | (rw [List.filterMap_cons, hf]; exact List.mem_cons_self)))
      obtain ⟨sl, e⟩ := I.base.slot L o ho (I.ok.frf L hL) hL fun z => I.ok.exfs L z hL
      exact ⟨hk, ⟨L, _, hf, hn, e, hd⟩, ih (fun b hb => hs b (by unfold frs; (first | exact ((List.filterMap_cons).trans ((hf).trans (List.mem_cons_of_mem _ hb))) | (rw [List.filterMap_cons, hf]; exact List.mem_cons_of_mem _ hb)))) hr⟩
  exact all X.outer (fun _ hb => hb) I.ok.funs
private theorem Inv.stack (I : Inv X pins σ H s) : s.heap.FunFrames X.base X.stack := by
  rcases I.ok.stk with e | ⟨e, hf⟩
  · rw [e]; exact I.funs
  · rw [e]
    obtain ⟨m, hn, _⟩ := I.loc
    refine .cons (by rw [I.ok.kind]; decide) hf hn ?_ I.funs
    exact Heap.get?_none_of_le (Nat.le_trans I.ok.bsz I.ok.above)
private theorem Inv.stkSub (I : Inv X pins σ H s) : ∀ b ∈ frs X.stack, b ∈ X.env.locals :: X.fs := fun b hb => by
  rcases I.ok.stk with e | ⟨e, hf⟩
  · rw [e] at hb; exact List.mem_cons_of_mem _ hb
  · rw [e] at hb
    unfold frs at hb
    rw [List.filterMap_cons, hf] at hb
    exact hb
private theorem Inv.stkFree (I : Inv X pins σ H s) : ∀ b ∈ frs X.stack, H b = none := fun b hb => by
  rcases List.mem_cons.mp (I.stkSub b hb) with e | hb
  · (first | exact ((e).trans (I.free)) | (rw [e]; exact I.free))
  · obtain ⟨_, o, ho, _⟩ := I.ok.funs.mem hb
    exact I.base.free b o ho (I.ok.frf b hb) fun z => I.ok.exfs b z hb
private theorem Inv.step {g' : Array GenState} {t' : Nat} {d' : Drawn} {ch : List Addr} (I : Inv X pins σ H s)
    (hch : ∀ b ∈ ch, (b ∈ X.ex ∨ X.s0.heap.objs.size ≤ b) ∧ b ≠ X.env.locals ∧ (∀ x c, X.env.cells.lookup x = some c → c ≠ b) ∧ ∀ p ∈ X.pn ++ pins, p.1 ≠ b)
    (keep : ∀ b o, b ≠ X.env.locals → b ∉ X.fs → b ∉ ch → s.heap.get? b = some o → H b = none → h'.get? b = some o)
    (slot : ∀ b o, b ≠ X.env.locals → b ∈ X.fs → b ∉ ch → s.heap.get? b = some o → H b = none → ∃ sl, h'.get? b = some { o with slots := sl }) (free : ∀ b o, b ∉ ch → s.heap.get? b = some o → H b = none → H' b = none)
    (there : ∀ b o, b ∉ ch → s.heap.get? b = some o → ∃ o', h'.get? b = some o')
    (tups : ∀ b xs, H b = some (.tup xs) → H' b = some (.tup xs)) (frzs : ∀ b o u, H b = some (.frz o u) → H' b = some (.frz o u)) (tbls : ∀ b ps, H b = some (.tbl ps) → ∃ more, H' b = some (.tbl (ps ++ more)))
    (ns : ∀ m, s.heap.Ns X.env.locals m → h'.Ns X.env.locals m) (hok : HOk X.prog X.w H' h') (hg : AllBare g') :
    Inv X pins σ H' { s with heap := h', gens := g', drawn := d', toks := t' } := by
  have neL : ∀ b o, X.s0.heap.get? b = some o → b ≠ X.env.locals := fun b o e => Nat.ne_of_lt (Nat.lt_of_lt_of_le (Heap.lt_size e) I.ok.above)
  have neC : ∀ b o, X.s0.heap.get? b = some o → b ∉ X.ex → b ∉ ch := fun b o e hx hb => by
    rcases (hch b hb).1 with z | z
    · exact hx z
    · exact absurd (Nat.lt_of_lt_of_le (Heap.lt_size e) z) (Nat.lt_irrefl _)
  have cellK : ∀ x c, X.env.cells.lookup x = some c → ∀ v, s.heap.IsCell c v → h'.IsCell c v := fun x c e v ⟨o, ho, hd⟩ => by
    have nch : c ∉ ch := fun z => (hch c z).2.2.1 x c e rfl
    by_cases hc : c ∈ X.fs
    · obtain ⟨sl, q⟩ := slot c o (I.cne x c e) hc nch ho (I.freeC x c e)
      exact ⟨_, q, hd⟩
    · exact ⟨o, keep c o (I.cne x c e) hc nch ho (I.freeC x c e), hd⟩
  refine ⟨I.ok, I.os, hg, ⟨fun b o e n hb hx => ?_, fun b o e n hb hx => ?_, fun b o e n hx => ?_, fun b o e hx => ?_, fun b xs e => tups b xs (I.base.tups b xs e), fun b o xs e => frzs b o xs (I.base.frzs b o xs e), fun b ps e => ?_⟩, ?_, fun x c e => ?_, ?_, fun x c e => ?_, fun p hp => ?_, hok, I.len⟩
  · exact keep b o (neL b o e) hb (neC b o e hx) (I.base.keep b o e n hb hx) (I.base.free b o e n hx)
  · obtain ⟨sl, e1⟩ := I.base.slot b o e n hb hx
    obtain ⟨sl', e2⟩ := slot b _ (neL b o e) hb (neC b o e hx) e1 (I.base.free b o e n hx)
    exact ⟨sl', e2⟩
  · obtain ⟨o', e1⟩ := I.base.there b o e hx
    exact free b o' (neC b o e hx) e1 (I.base.free b o e n hx)
  · obtain ⟨o', e1⟩ := I.base.there b o e hx
    exact there b o' (neC b o e hx) e1
  · obtain ⟨m1, e1⟩ := I.base.tbls b ps e
    obtain ⟨m2, e2⟩ := tbls b _ e1
    exact ⟨m1 ++ m2, by rw [e2, Array.append_assoc]⟩
  · obtain ⟨m, hn, hl⟩ := I.loc
    refine ⟨m, ns m hn, fun i x v e1 e2 e3 => ?_⟩
    obtain ⟨u, r, l⟩ := hl i x v e1 e2 e3
    refine ⟨u, r, ?_⟩
    rcases l with l | ⟨k, c, e, z⟩
    · exact .inl l
    · exact .inr ⟨k, c, e, cellK x c e _ z⟩
  · obtain ⟨v, z⟩ := I.cell x c e
    exact ⟨v, cellK x c e v z⟩
  · obtain ⟨m, ⟨o, _, _, ho, _⟩, _⟩ := I.loc
    exact free _ o (fun z => (hch _ z).2.1 rfl) ho I.free
  · obtain ⟨v, o, ho, hd⟩ := I.cell x c e
    exact free c o (fun z => (hch c z).2.2.1 x c e rfl) ho (I.freeC x c e)
  · obtain ⟨e, n, ne, nf, d⟩ := I.pin p hp
    have nch : p.1 ∉ ch := fun z => (hch p.1 z).2.2.2 p hp rfl
    exact ⟨keep p.1 p.2 ne nf nch e n, free p.1 p.2 nch e n, ne, nf, d⟩
private theorem Inv.un {t' : Nat} (I : Inv X pins σ H s) (u : Un X.fs [] H H' s.heap h') (hok : HOk X.prog X.w H' h') : Inv X pins σ H' { s with heap := h', toks := t' } := by
  obtain ⟨m, ⟨o, es, ep, ho, r⟩, _⟩ := id I.loc
  obtain ⟨sl, hL⟩ := u.any ho I.free (by simp)
  exact I.step (g' := s.gens) (d' := s.drawn) (ch := []) (fun _ z => nomatch z) (fun b o _ hb _ e n => u.keep b o e n hb (by simp)) (fun b o _ hb _ e n => u.slot b o e n hb (by simp)) (fun b o _ e n => u.free b o e n (by simp)) (fun b o _ e => u.there b o e (by simp)) u.tups u.frzs u.tbls (fun m' hm => by
    obtain ⟨o', es', ep', ho', r'⟩ := hm
    (first | exact PyNso (ho) ho' | exact PyNso ho' (ho) | cases PySos (ho) ho' | (rw [ho] at ho'; cases ho'))
    exact ⟨_, es', ep', hL, r'⟩) hok I.bare
private theorem Inv.call {g' : Array GenState} {t' : Nat} {d' : Drawn} {ch : List Addr} (I : Inv X pins σ H s) (u : Un (frs X.stack) ch H H' s.heap h') (hok : HOk X.prog X.w H' h') (hg : AllBare g')
    (hch : ∀ b ∈ ch, (b ∈ X.ex ∨ X.s0.heap.objs.size ≤ b) ∧ b ≠ X.env.locals ∧ (∀ x c, X.env.cells.lookup x = some c → c ≠ b) ∧ ∀ p ∈ X.pn ++ pins, p.1 ≠ b) :
    Inv X pins σ H' { s with heap := h', gens := g', drawn := d', toks := t' } := by
  obtain ⟨m, ⟨o, es, ep, ho, r⟩, _⟩ := id I.loc
  obtain ⟨sl, hL⟩ := u.any ho I.free fun z => (hch _ z).2.1 rfl
  exact I.step (ch := ch) hch (fun b o hL hb hc e n => u.keep b o e n (fun z => (List.mem_cons.mp (I.stkSub b z)).elim hL hb) hc) (fun b o _ _ hc e n => u.any e n hc) (fun b o hc e n => u.free b o e n hc) (fun b o hc e => u.there b o e hc) u.tups u.frzs u.tbls (fun m' hm => by
    obtain ⟨o', es', ep', ho', r'⟩ := hm
    (first | exact PyNso (ho) ho' | exact PyNso ho' (ho) | cases PySos (ho) ho' | (rw [ho] at ho'; cases ho'))
    exact ⟨_, es', ep', hL, r'⟩) hok hg
private theorem Inv.turned {t' : Nat} {it : Addr} (I : Inv X pins σ H s) (k : ∀ b o, b ≠ it → s.heap.get? b = some o → h'.get? b = some o) (hn : H it = none) (hL : it ≠ X.env.locals)
    (h1 : it ∈ X.ex ∨ X.s0.heap.objs.size ≤ it) (h2 : ∀ x c, X.env.cells.lookup x = some c → c ≠ it) (h3 : ∀ p ∈ X.pn ++ pins, p.1 ≠ it) : Inv X pins σ H { s with heap := h', toks := t' } := by
  have nit : ∀ b u, H b = some u → b ≠ it := fun b u e z => by (first | exact PyNso (hn) (z ▸ e) | (rw [z, hn] at e; cases e))
  refine I.step (g' := s.gens) (d' := s.drawn) (ch := [it]) (fun b hb => ?_) (fun b o _ _ hc e _ => k b o (fun z => hc (by simp [z])) e) (fun b o _ _ hc e _ => ⟨o.slots, k b o (fun z => hc (by simp [z])) e⟩) (fun _ _ _ _ n => n)
    (fun b o hc e => ⟨o, k b o (fun z => hc (by simp [z])) e⟩) (fun _ _ e => e) (fun _ _ _ e => e) (fun b ps e => ⟨#[], by rw [e]; simp⟩) (fun m hm => ?_) (fun b u e => ?_) I.bare
  · have e : b = it := by simpa using hb
    subst e
    exact ⟨h1, hL, h2, h3⟩
  · obtain ⟨o, es, ep, ho, r⟩ := hm
    exact ⟨o, es, ep, k _ o (Ne.symm hL) ho, r⟩
  · refine (I.hok b u e).stay (fun c v hc q => k c v ?_ q) (fun _ q => q) fun _ _ q => q
    rcases hc with z | z
    · (first | exact ((z).trans (nit b u e)) | (rw [z]; exact nit b u e))
    · exact nit c _ z
private theorem Inv.tok (I : Inv X pins σ H s) (t : Nat) : Inv X pins σ H { s with toks := t } := I.un (h' := s.heap) (t' := t) Un.refl I.hok
private theorem Inv.kept {t' : Nat} (I : Inv X pins σ H s) (k : ∀ b u, s.heap.get? b = some u → h'.get? b = some u) : Inv X pins σ H { s with heap := h', toks := t' } := I.un (Un.kept k) (I.hok.kept k)
private theorem Inv.laid {a : Addr} {o : HO} {t' : Nat} (I : Inv X pins σ H s) (k : ∀ b u, s.heap.get? b = some u → h'.get? b = some u) (hp : s.heap.objs.size ≤ a) (new : ObjOk X.prog X.w (upd H a o) h' a o) :
    Inv X pins σ (upd H a o) { s with heap := h', toks := t' } := I.un (Un.laid k hp (I.hok.fresh hp)) (I.hok.laid k hp new)
private theorem Inv.write {x e : Addr} {o : HO} {t' : Nat} (I : Inv X pins σ H s) (mu : Mut (H x)) (he : e = x ∨ H e = some (.own x)) (k : ∀ b u, b ≠ e → s.heap.get? b = some u → h'.get? b = some u) (heo : ∃ u, h'.get? e = some u)
    (new : ObjOk X.prog X.w (upd H x o) h' x o) : Inv X pins σ (upd H x o) { s with heap := h', toks := t' } := I.un (Un.write mu he k heo) (I.hok.write mu he k heo new)
private theorem Inv.pins_of {pins' : List (Addr × Obj)} (I : Inv X pins σ H s) (h : ∀ p ∈ pins', s.heap.get? p.1 = some p.2 ∧ H p.1 = none ∧ p.1 ≠ X.env.locals ∧ p.1 ∉ X.fs ∧ ∀ v, p.2.data ≠ .cell v) : Inv X pins' σ H s :=
  ⟨I.ok, I.os, I.bare, I.base, I.loc, I.cell, I.free, I.freeC, fun p hp => (List.mem_append.mp hp).elim (fun z => I.pin p (List.mem_append_left _ z)) (h p), I.hok, I.len⟩
private theorem nodup_ix {N : List Str} (hN : N.Nodup) {i j : Nat} {x : Str} (a : N[i]? = some x) (b : N[j]? = some x) : i = j := by
  obtain ⟨h1, e1⟩ := List.getElem?_eq_some_iff.mp a
  obtain ⟨h2, e2⟩ := List.getElem?_eq_some_iff.mp b
  exact (List.getElem_inj hN).mp (e1.trans e2.symm)
private theorem store_ok2 {M : Model} {A : Around} {E : Value → Shared → Prop} {i : Nat} {x : Str} {v : V} {u : Value} {Q : Unit → Shared → Prop} (I : Inv X pins σ H s) (hN : X.N.Nodup) (hi : X.N[i]? = some x) (hx : Loc X.env.scope x) (r : RelV v u)
    (h : ∀ s', Inv X pins (σ.set i (some v)) H s' → (∃ a, Heap.SameBut a s.heap s'.heap ∧ (a = X.env.locals ∨ X.env.cells.lookup x = some a)) → Q () s') (hf : X.fn x = true ∨ X.env.scope.names.lookup x = some .local) : wpAny M A (storeName X.env x u) Q E s := by
  obtain ⟨m, hn, hl⟩ := id I.loc
  have hcls : (X.env.scope.kind == .class || (X.env.scope.kind == .module && X.env.locals != X.env.globals)) = false := by rw [I.ok.kind]; rfl
  have hiσ : i < σ.length := by rw [I.len]; exact (List.getElem?_eq_some_iff.mp hi).1
  have cne := I.cne
  have tracked : ∀ {a : Addr} {h' : Heap}, (∃ o, s.heap.get? a = some o ∧ H a = none) → Heap.SameBut a s.heap h' → HOk X.prog X.w H h' := fun {a h'} ha hs b ob e => by
    obtain ⟨_, _, hfree⟩ := ha
    refine (I.hok b ob e).stay (fun c w' hc q => (hs.2 c ?_).trans q) (fun _ q => q) fun _ _ q => q
    rintro rfl
    rcases hc with rfl | hc
    · (first | exact PyNso (hfree) e | exact PyNso e (hfree) | cases PySos (hfree) e | (rw [hfree] at e; cases e))
    · (first | exact PyNso (hfree) hc | exact PyNso hc (hfree) | cases PySos (hfree) hc | (rw [hfree] at hc; cases hc))
  rcases hx with hk | hk
  · refine wpAny_storeName_local hk hn (fun h' hn' hs => ?_) hcls
    obtain ⟨oL, _, _, hoL, _⟩ := id hn
    refine h _ ⟨I.ok, I.os, I.bare, ⟨fun b o e n hb hx => ?_, fun b o e n hb hx => ?_, I.base.free, fun b o e hx => ?_, I.base.tups, I.base.frzs, I.base.tbls⟩, ⟨_, hn', fun j y v' e1 e2 e3 => ?_⟩, fun y c e => ?_, I.free, I.freeC, fun p hp => ?_, tracked ⟨oL, hoL, I.free⟩ hs, by simpa using I.len⟩ ⟨_, hs, .inl rfl⟩
    · exact (hs.2 b (Nat.ne_of_lt (Nat.lt_of_lt_of_le (Heap.lt_size e) I.ok.above))).trans (I.base.keep b o e n hb hx)
    · obtain ⟨sl, e1⟩ := I.base.slot b o e n hb hx
      exact ⟨sl, (hs.2 b (Nat.ne_of_lt (Nat.lt_of_lt_of_le (Heap.lt_size e) I.ok.above))).trans e1⟩
    · obtain ⟨o', e1⟩ := I.base.there b o e hx
      exact ⟨o', (hs.2 b (Nat.ne_of_lt (Nat.lt_of_lt_of_le (Heap.lt_size e) I.ok.above))).trans e1⟩
    · by_cases hj : j = i
      · subst hj
        (first | exact PyNso (hi) e1 | exact PyNso e1 (hi) | cases PySos (hi) e1 | (rw [hi] at e1; cases e1))
        (first | exact PyNso (List.getElem?_set_self hiσ) e2 | exact PyNso e2 (List.getElem?_set_self hiσ) | cases PySos (List.getElem?_set_self hiσ) e2 | (rw [List.getElem?_set_self hiσ] at e2; cases e2))
        exact ⟨u, r, .inl ⟨hk, by simp⟩⟩
      · rw [List.getElem?_set_ne (Ne.symm hj)] at e2
        obtain ⟨u', r', q⟩ := hl j y v' e1 e2 e3
        refine ⟨u', r', ?_⟩
        rcases q with ⟨k, e⟩ | ⟨k, c, e, z⟩
        · refine .inl ⟨k, ?_⟩
          have : y ≠ x := fun e => hj (nodup_ix hN e1 (e ▸ hi))
          simp [this, e]
        · exact .inr ⟨k, c, e, z.sameBut hs (cne y c e)⟩
    · obtain ⟨w', z⟩ := I.cell y c e
      exact ⟨w', z.sameBut hs (cne y c e)⟩
    · obtain ⟨e, n, ne, nf, d⟩ := I.pin p hp
      exact ⟨(hs.2 p.1 ne).trans e, n, ne, nf, d⟩
  · have hfn : X.fn x = true := by
      rcases hf with z | z
      · exact z
      · (first | exact PyNso (z) hk | exact PyNso hk (z) | cases PySos (z) hk | (rw [z] at hk; cases hk))
    obtain ⟨c, hc⟩ := I.ok.has x (.inl hk)
    obtain ⟨w', z⟩ := I.cell x c hc
    refine wpAny_storeName_cell I.ok.kind hk hc z (fun h' hc' hs => ?_)
    obtain ⟨oc, hoc, hocd⟩ := id z
    refine h { s with heap := h' } ⟨I.ok, I.os, I.bare, ⟨fun b o e n hb hx => ?_, fun b o e n hb hx => ?_, I.base.free, fun b o e hx => ?_, I.base.tups, I.base.frzs, I.base.tbls⟩, ⟨m, hn.sameBut hs (Ne.symm (cne x c hc)), fun j y v' e1 e2 e3 => ?_⟩, fun y c' e => ?_, I.free, I.freeC, fun p hp => ?_, tracked ⟨oc, hoc, I.freeC x c hc⟩ hs, by simpa using I.len⟩ ⟨c, hs, .inr hc⟩
    · exact (hs.2 b (Nat.ne_of_lt (Nat.lt_of_lt_of_le (Heap.lt_size e) (I.ok.cab x c hfn hc)))).trans (I.base.keep b o e n hb hx)
    · obtain ⟨sl, e1⟩ := I.base.slot b o e n hb hx
      exact ⟨sl, (hs.2 b (Nat.ne_of_lt (Nat.lt_of_lt_of_le (Heap.lt_size e) (I.ok.cab x c hfn hc)))).trans e1⟩
    · obtain ⟨o', e1⟩ := I.base.there b o e hx
      exact ⟨o', (hs.2 b (Nat.ne_of_lt (Nat.lt_of_lt_of_le (Heap.lt_size e) (I.ok.cab x c hfn hc)))).trans e1⟩
    · by_cases hj : j = i
      · subst hj
        (first | exact PyNso (hi) e1 | exact PyNso e1 (hi) | cases PySos (hi) e1 | (rw [hi] at e1; cases e1))
        (first | exact PyNso (List.getElem?_set_self hiσ) e2 | exact PyNso e2 (List.getElem?_set_self hiσ) | cases PySos (List.getElem?_set_self hiσ) e2 | (rw [List.getElem?_set_self hiσ] at e2; cases e2))
        exact ⟨u, r, .inr ⟨.inl hk, c, hc, hc'⟩⟩
      · rw [List.getElem?_set_ne (Ne.symm hj)] at e2
        obtain ⟨u', r', q⟩ := hl j y v' e1 e2 e3
        refine ⟨u', r', ?_⟩
        rcases q with q | ⟨k, c', e, z'⟩
        · exact .inl q
        · refine .inr ⟨k, c', e, z'.sameBut hs ?_⟩
          rintro rfl
          exact hj (nodup_ix hN e1 (I.ok.inj _ _ _ e hc ▸ hi))
    · by_cases hcc : c' = c
      · subst hcc; exact ⟨_, hc'⟩
      · obtain ⟨w2, z2⟩ := I.cell y c' e
        exact ⟨w2, z2.sameBut hs hcc⟩
    · obtain ⟨e, n, ne, nf, d⟩ := I.pin p hp
      refine ⟨(hs.2 p.1 ?_).trans e, n, ne, nf, d⟩
      intro q
      rw [q, hoc] at e
      have q' : oc = p.2 := Option.some.inj e
      exact d w' (by rw [← q']; exact hocd)
private theorem store_ok {M : Model} {A : Around} {E : Value → Shared → Prop} {i : Nat} {x : Str} {v : V} {u : Value} {Q : Unit → Shared → Prop} (I : Inv X pins σ H s) (hN : X.N.Nodup) (hi : X.N[i]? = some x) (hx : Loc X.env.scope x) (r : RelV v u)
    (h : ∀ s', Inv X pins (σ.set i (some v)) H s' → Q () s') (hf : X.fn x = true ∨ X.env.scope.names.lookup x = some .local) : wpAny M A (storeName X.env x u) Q E s :=
  store_ok2 I hN hi hx r (fun s' I' _ => h s' I') hf
private theorem Inv.call' {s' : Shared} {ch : List Addr} (I : Inv X pins σ H s) (ho : s'.os = s.os) (u : Un (frs X.stack) ch H H' s.heap s'.heap) (hok : HOk X.prog X.w H' s'.heap) (hg : AllBare s'.gens)
    (hch : ∀ b ∈ ch, (b ∈ X.ex ∨ X.s0.heap.objs.size ≤ b) ∧ b ≠ X.env.locals ∧ (∀ x c, X.env.cells.lookup x = some c → c ≠ b) ∧ ∀ p ∈ X.pn ++ pins, p.1 ≠ b) : Inv X pins σ H' s' := by
  obtain ⟨h', g', d', t', o'⟩ := s'
  have e : o' = s.os := ho
  subst e
  exact I.call (g' := g') (t' := t') (d' := d') u hok hg hch
end
noncomputable abbrev XK := Value → Option Addr → Hp → Prop
noncomputable abbrev St := List (Option V)
noncomputable abbrev VK := V → Hp → Prop
noncomputable abbrev TE := St → Hp → VK → Prop
noncomputable abbrev TT := St → Hp → (Bool → Hp → Prop) → Prop
noncomputable abbrev TA := St → Hp → (List V → Hp → Prop) → Prop
structure Ends where
  nx : St → Hp → Prop
  rt : VK
  bk : St → Hp → Prop := fun _ _ => False
  ct : St → Hp → Prop := fun _ _ => False
noncomputable abbrev TS := Ends → St → Hp → Prop
inductive EP (X : Cx) (pins : List (Addr × Obj)) (σ : St) (Q : VK) (u : Value) (s' : Shared) : Prop
  | mk (v : V) (H' : Hp) (I : Inv X pins σ H' s') (r : RelV v u) (q : Q v H')
noncomputable def TP (X : Cx) (pins : List (Addr × Obj)) (σ : St) (Q : Bool → Hp → Prop) (b : Bool) (s' : Shared) : Prop := ∃ H', Inv X pins σ H' s' ∧ Q b H'
inductive AP (X : Cx) (pins : List (Addr × Obj)) (σ : St) (Q : List V → Hp → Prop) (us : List Value) (s' : Shared) : Prop
  | mk (vs : List V) (H' : Hp) (I : Inv X pins σ H' s') (r : Vals vs us) (q : Q vs H')
noncomputable def SP (X : Cx) (pins : List (Addr × Obj)) (D : Ends) (f : Flow) (s' : Shared) : Prop :=
  match f with
  | .next => ∃ σ' H', Inv X pins σ' H' s' ∧ D.nx σ' H'
  | .brk => ∃ σ' H', Inv X pins σ' H' s' ∧ D.bk σ' H'
  | .cont => ∃ σ' H', Inv X pins σ' H' s' ∧ D.ct σ' H'
  | .ret u => ∃ v σ' H', Inv X pins σ' H' s' ∧ RelV v u ∧ D.rt v H'
noncomputable def PE (X : Cx) (e : Expr) (t : TE) : Prop :=
  ∀ (pins : List (Addr × Obj)) (s : Shared) (σ : St) (H : Hp) (Q : VK), Inv X pins σ H s → t σ H Q → wpAny (model X.prog X.w) X.A (eval e X.env) (EP X pins σ Q) X.xe s
noncomputable def PT (X : Cx) (e : Expr) (t : TT) : Prop :=
  ∀ (pins : List (Addr × Obj)) (s : Shared) (σ : St) (H : Hp) (Q : Bool → Hp → Prop), Inv X pins σ H s → t σ H Q → wpAny (model X.prog X.w) X.A (isTrue e X.env (eval e X.env)) (TP X pins σ Q) X.xe s
noncomputable def PW (X : Cx) (e : Expr) (t : TT) : Prop :=
  ∀ (whole : Sem Value) (pins : List (Addr × Obj)) (s : Shared) (σ : St) (H : Hp) (Q : Bool → Hp → Prop), Inv X pins σ H s → t σ H Q → wpAny (model X.prog X.w) X.A (isTrue e X.env whole) (TP X pins σ Q) X.xe s
noncomputable def PA (X : Cx) (es : List Expr) (t : TA) : Prop :=
  ∀ (pos : Pos) (pins : List (Addr × Obj)) (s : Shared) (σ : St) (H : Hp) (Q : List V → Hp → Prop), Inv X pins σ H s → t σ H Q → wpAny (model X.prog X.w) X.A (spliced (backTo pos (starEach es X.env))) (AP X pins σ Q) X.xe s
noncomputable def PS (X : Cx) (st : Stmt) (t : TS) : Prop :=
  ∀ (pins : List (Addr × Obj)) (s : Shared) (σ : St) (H : Hp) (D : Ends), Inv X pins σ H s → t D σ H → wpAny (model X.prog X.w) X.A (exec st X.env) (SP X pins D) X.xe s
noncomputable def PSs (X : Cx) (st : List Stmt) (t : TS) : Prop :=
  ∀ (pins : List (Addr × Obj)) (s : Shared) (σ : St) (H : Hp) (D : Ends), Inv X pins σ H s → t D σ H → wpAny (model X.prog X.w) X.A (execs st X.env) (SP X pins D) X.xe s
private theorem thn {α : Type} {t : Sem α} {Q Q' : α → Shared → Prop} {M : Model} {A : Around} {E : Value → Shared → Prop} {s : Shared} (h : wpAny M A t Q E s) (hQ : ∀ a s, Q a s → Q' a s) : wpAny M A t Q' E s := wpAny_mono h hQ fun _ _ x => x
end L2
namespace L2
open PySem PySem.Spec PyProof.Rows
section
variable {X : Cx}
noncomputable def tVar (i : Nat) : TE := fun σ H Q => ∃ v, σ[i]? = some (some v) ∧ Q v H
noncomputable def tC (v : V) : TE := fun _ H Q => Q v H
private theorem pe_var {i : Nat} {x : Str} {pos : Pos} (hN : X.N[i]? = some x) (hv : Vis X.env.scope x) (hd : autoParam ((x == ("__debug__" : Str)) = false) PyProof.Rows.glB_def._auto_7) (hcd : autoParam ((x == ("__classdict__" : Str)) = false) PyProof.Rows.glB_def._auto_7) : PE X (.Name x pos) (tVar i) := by
  intro pins s σ H Q I h
  obtain ⟨v, e, h⟩ := h
  obtain ⟨m, hn, hl⟩ := I.loc
  obtain ⟨u, r, l⟩ := hl i x v hN e hv
  have fin : EP X pins σ Q u s := ⟨v, H, I, r, h⟩
  rcases l with ⟨hk, hm⟩ | ⟨hk, c, hc, hcell⟩
  · exact wpAny_Name (wpAny_loadName_local I.ok.kind hk hn hm fin) hd
  · rcases hk with hk | hk
    · exact wpAny_Name (wpAny_loadName_cell I.ok.kind hk hc hcell fin) hd
    · exact wpAny_Name (wpAny_loadName_free I.ok.kind hk hc hcell fin hcd) hd
private theorem pe_int {i j pos} : PE X (.Constant (.int i) j pos) (tC (.int i)) := fun _ _ _ H _ I h => wpAny_Constant_int ⟨.int i, H, I.tok _, ⟨_, rfl⟩, h⟩
private theorem pe_bl {b j pos} : PE X (.Constant (.bool b) j pos) (tC (.bl b)) := fun _ _ _ H _ I h => Constant_bool ⟨.bl b, H, I, rfl, h⟩
private theorem pe_non {j pos} : PE X (.Constant .none j pos) (tC .non) := fun _ _ _ H _ I h => Constant_none ⟨.non, H, I, rfl, h⟩
private theorem pe_str {x j pos} : PE X (.Constant (.str x) j pos) (tC (.str x)) := fun _ _ _ H _ I h => Calls.Constant_str ⟨.str x, H, I.tok _, ⟨_, rfl⟩, h⟩
noncomputable def Gl (X : Cx) (x : Str) : Prop := X.env.kindOf x = some .globalImplicit
private theorem ld_glob {E : Value → Shared → Prop} {pins : List (Addr × Obj)} {s : Shared} {σ : St} {H : Hp} {x : Str} {u : Value} {pos : Pos} {Q : Value → Shared → Prop} (I : Inv X pins σ H s) (hg : Gl X x) (hm : X.mg x = some u) (h : Q u s)
    (hd : autoParam ((x == ("__debug__" : Str)) = false) PyProof.Rows.glB_def._auto_7) : wpAny (model X.prog X.w) X.A (eval (.Name x pos) X.env) Q E s :=
  Calls.Name_function_global I.ok.kind hg (Calls.loadGlobal_global (by (first | exact ((I.ok.glob).trans (I.mod.glob.keeps I.bk)) | (rw [I.ok.glob]; exact I.mod.glob.keeps I.bk))) hm h) hd
private theorem ld_blt {E : Value → Shared → Prop} {pins : List (Addr × Obj)} {s : Shared} {σ : St} {H : Hp} {x : Str} {u : Value} {pos : Pos} {Q : Value → Shared → Prop} (I : Inv X pins σ H s) (hg : Gl X x) (hm : X.mg x = none) (hv : bootBuiltins x = some u) (h : Q u s)
    (hn : autoParam (x ≠ "__name__") PyProof.Rows.glB_def._auto_7) (hd : autoParam ((x == ("__debug__" : Str)) = false) PyProof.Rows.glB_def._auto_7) : wpAny (model X.prog X.w) X.A (eval (.Name x pos) X.env) Q E s := by
  obtain ⟨mb, h1, h2⟩ := I.mod.blt
  exact Calls.Name_function_global I.ok.kind hg (Calls.loadGlobal_builtin (by (first | exact ((I.ok.glob).trans (I.mod.glob.keeps I.bk)) | (rw [I.ok.glob]; exact I.mod.glob.keeps I.bk))) hm (by (first | exact ((I.ok.blt).trans (h1.keeps I.bk)) | (rw [I.ok.blt]; exact h1.keeps I.bk))) ((h2 x hn).trans hv) h) hd
private theorem pe_glob {x : Str} {v : V} {u : Value} {pos : Pos} (hg : Gl X x) (hm : X.mg x = some u) (r : RelV v u) (hd : autoParam ((x == ("__debug__" : Str)) = false) PyProof.Rows.glB_def._auto_7) : PE X (.Name x pos) (tC v) :=
  fun _ _ _ H _ I h => ld_glob I hg hm ⟨v, H, I, r, h⟩ hd
private theorem pe_bltn {x : Str} {v : V} {u : Value} {pos : Pos} (hg : Gl X x) (hm : X.mg x = none) (hv : bootBuiltins x = some u) (r : RelV v u) (hn : autoParam (x ≠ "__name__") PyProof.Rows.glB_def._auto_7) (hd : autoParam ((x == ("__debug__" : Str)) = false) PyProof.Rows.glB_def._auto_7) : PE X (.Name x pos) (tC v) :=
  fun _ _ _ H _ I h => ld_blt I hg hm hv ⟨v, H, I, r, h⟩ hn hd
variable {a b : Expr} {ta tb : TE} {pos : Pos}
private theorem nobehind (b : Expr) {op : CmpOp} (h : op ≠ .In) (h2 : op ≠ .NotIn) : behindInMarks op b = false := by
  have e1 : (op == CmpOp.In) = false := by cases op <;> first | rfl | exact absurd rfl h
  have e2 : (op == CmpOp.NotIn) = false := by cases op <;> first | rfl | exact absurd rfl h2
  cases b <;> simp [behindInMarks, e1, e2]
noncomputable def tB (t : TE) : TT := fun σ H Q => t σ H fun x H1 => ∃ c, x = .bl c ∧ Q c H1
private theorem pt_val {e : Expr} {t : TE} (h : PE X e t) (he : autoParam (∀ whole, isTrue e X.env whole = (do let v ← whole; standAt e.pos; holding [v] (truthy v))) PyProof.Rows.Assign_ListComp_rowsP._auto_1) : PT X e (tB t) := by
  intro pins s σ H Q I hw
  refine isTrue_plain (thn (h pins s σ H _ I hw) fun v s1 ⟨x, H1, I1, r1, q1⟩ => ?_) (he _)
  obtain ⟨d, rfl, q⟩ := q1
  cases r1
  exact wpAny_truthy_bool ⟨H1, I1, q⟩
variable {tA tB' : TT} {rest : List Expr}
noncomputable def tNot (t : TT) : TT := fun σ H Q => t σ H fun c H1 => Q (!c) H1
private theorem pt_not (ha : PT X a tA) : PT X (.UnaryOp .Not a pos) (tNot tA) := by
  intro pins s σ H Q I h
  exact isTrue_not (ha pins s σ H (fun c H1 => Q (!c) H1) I h)
noncomputable def tAndV (ta tb : TE) : TE := fun σ H Q => ta σ H fun x H1 => ∃ c, x = .bl c ∧ if c = true then tb σ H1 Q else Q (.bl false) H1
noncomputable def tNotV (ta : TE) : TE := fun σ H Q => ta σ H fun x H1 => ∃ c, x = .bl c ∧ Q (.bl (!c)) H1
private theorem pe_one {op} {t : TE} (h : PE X a t) : PE X (.BoolOp op [a] pos) t := fun pins s σ H Q I hw => BoolOp_one (h pins s σ H Q I hw)
private theorem pe_and (ha : PE X a ta) (hb : PE X (.BoolOp .And (b :: rest) pos) tb) : PE X (.BoolOp .And (a :: b :: rest) pos) (tAndV ta tb) := by
  intro pins s σ H Q I h
  refine BoolOp_and (thn (ha pins s σ H _ I h) fun v s1 ⟨x, H1, I1, r1, q1⟩ => ?_)
  obtain ⟨c, rfl, q1⟩ := q1
  cases r1
  refine wpAny_truthy_bool ?_
  cases c with
  | true => exact hb pins s1 σ H1 Q I1 q1
  | false => exact ⟨.bl false, H1, I1, rfl, q1⟩
private theorem pe_not (ha : PE X a ta) : PE X (.UnaryOp .Not a pos) (tNotV ta) := by
  intro pins s σ H Q I h
  refine UnaryOp_ (thn (ha pins s σ H _ I h) fun v s1 ⟨x, H1, I1, r1, q1⟩ => ?_)
  obtain ⟨c, rfl, q1⟩ := q1
  cases r1
  exact not_of (wpAny_truthy_bool ⟨.bl (!c), H1, I1, rfl, q1⟩)
noncomputable def tIf (t : TT) (ta tb : TE) : TE := fun σ H Q => t σ H fun c H1 => if c = true then ta σ H1 Q else tb σ H1 Q
private theorem pe_ifExp {c : Expr} (hc : PT X c tA) (ha : PE X a ta) (hb : PE X b tb) : PE X (.IfExp c a b pos) (tIf tA ta tb) := by
  intro pins s σ H Q I h
  refine wpAny_IfExp (thn (hc pins s σ H _ I h) fun d s1 ⟨H1, I1, q1⟩ => ?_)
  cases d with
  | true => exact ha pins s1 σ H1 Q I1 q1
  | false => exact hb pins s1 σ H1 Q I1 q1
end
end L2
namespace L2
open PySem PySem.Spec PyProof.Rows
noncomputable def SqL (K : PySem.W.Frag) (H : Hp) (a : Addr) (xs : List V) : Prop :=
  Rd H a (.lst xs) ∨
    ∃ (o : Obj) (its : Array Value) (n : Nat), K.lookup a = some o ∧ o.cls = .type "list" ∧ o.dict = none ∧ o.data = .seq its n ∧ its.size ≤ sizeLine ∧ Vals xs its.toList
noncomputable def SqT (K : PySem.W.Frag) (H : Hp) (a : Addr) (xs : List V) : Prop :=
  Rd H a (.tup xs) ∨
    ∃ (o : Obj) (its : Array Value) (n : Nat), K.lookup a = some o ∧ (o.cls = .type "tuple" ∧ o.dict = none) ∧ o.data = .seq its n ∧ its.size ≤ sizeLine ∧ Vals xs its.toList
noncomputable def absV : Value → Option V
  | .none => some .non
  | .bool b => some (.bl b)
  | .int i _ => some (.int i)
  | .str x _ => some (.str x)
  | .bytes b _ => some (.byt b)
  | .float b _ => some (.flt b)
  | .ref a => some (.ref a)
  | .type n => some (.ty n)
  | _ => none
private theorem RelV.abs {x : V} {u : Value} (r : RelV x u) : absV u = some x := by
  cases x with
  | non => cases r; rfl
  | bl _ => cases r; rfl
  | int _ => obtain ⟨t, rfl⟩ := r; rfl
  | str _ => obtain ⟨t, rfl⟩ := r; rfl
  | byt _ => obtain ⟨t, rfl⟩ := r; rfl
  | flt _ => obtain ⟨t, rfl⟩ := r; rfl
  | ref _ => cases r; rfl
  | ty _ => cases r; rfl
private theorem RelV.inj {x y : V} {u : Value} (r : RelV x u) (q : RelV y u) : x = y := Option.some.inj (r.abs.symm.trans q.abs)
private theorem Vals.inj : ∀ {xs ys : List V} {us : List Value}, Vals xs us → Vals ys us → xs = ys
  | _, _, _, .nil, .nil => rfl
  | _, _, _, .cons r t, .cons r' t' => by rw [r.inj r', Vals.inj t t']
section
variable {X : Cx} {pins : List (Addr × Obj)} {σ : St} {H : Hp} {s : Shared} {a : Addr} {xs ys : List V}
private theorem SqL.of {K : PySem.W.Frag} (h : H a = some (.lst xs)) : SqL K H a xs := .inl (.inl h)
private theorem SqT.of {K : PySem.W.Frag} (h : H a = some (.tup xs)) : SqT K H a xs := .inl (.inl h)
private theorem Inv.list (I : Inv X pins σ H s) (h : SqL X.K H a xs) : ∃ its : List Value, Vals xs its ∧ PlainL s.heap a its.toArray ∧ xs.length ≤ sizeLine := by
  rcases h with h | ⟨o, its, n, hk, hc, hd, hs, hz, r⟩
  · obtain ⟨z, its, n, r, e⟩ := h.ok I.hok
    exact ⟨its, r, ⟨_, n, e, rfl, rfl, rfl⟩, z⟩
  · refine ⟨its.toList, r, ⟨o, n, I.kIn a o hk, hc, hd, by simpa using hs⟩, ?_⟩
    have e := r.length
    simp only [Array.length_toList] at e
    omega
private theorem Inv.tuple (I : Inv X pins σ H s) (h : SqT X.K H a xs) : ∃ its : List Value, Vals xs its ∧ IsTup s.heap a its.toArray ∧ xs.length ≤ sizeLine := by
  rcases h with h | ⟨o, its, n, hk, hc, hs, hz, r⟩
  · obtain ⟨z, its, r, p⟩ := h.ok I.hok
    exact ⟨its, r, p.tup, z⟩
  · refine ⟨its.toList, r, ⟨o, I.kIn a o hk, hc.1, n, by simpa using hs⟩, ?_⟩
    have e := r.length
    simp only [Array.length_toList] at e
    omega
private theorem Inv.list_inj (I : Inv X pins σ H s) (h : SqL X.K H a xs) (h' : SqL X.K H a ys) : xs = ys := by
  obtain ⟨its, r, ⟨o, n, e, _, _, d⟩, _⟩ := I.list h
  obtain ⟨its', r', ⟨o', n', e', _, _, d'⟩, _⟩ := I.list h'
  (first | exact PyNso (e) e' | exact PyNso e' (e) | cases PySos (e) e' | (rw [e] at e'; cases e'))
  rw [d] at d'
  injection d' with d1 _
  have : its = its' := by simpa using congrArg Array.toList d1
  subst this
  exact r.inj r'
private theorem Inv.tuple_inj (I : Inv X pins σ H s) (h : SqT X.K H a xs) (h' : SqT X.K H a ys) : xs = ys := by
  obtain ⟨its, r, ⟨o, e, _, n, d⟩, _⟩ := I.tuple h
  obtain ⟨its', r', ⟨o', e', _, n', d'⟩, _⟩ := I.tuple h'
  (first | exact PyNso (e) e' | exact PyNso e' (e) | cases PySos (e) e' | (rw [e] at e'; cases e'))
  rw [d] at d'
  injection d' with d1 _
  have : its = its' := by simpa using congrArg Array.toList d1
  subst this
  exact r.inj r'
end
noncomputable abbrev Cx.wish (X : Cx) (E : Value → Shared → Prop) : Cx := { X with xe := E }
noncomputable abbrev Cx.nox (X : Cx) : Cx := X.wish fun _ _ => False
private theorem Cx.Ok.wish {X : Cx} (ok : X.Ok) (E : Value → Shared → Prop) : (X.wish E).Ok :=
  ⟨ok.mod, ok.kind, ok.glob, ok.blt, ok.above, ok.inj, ok.has, ok.cab, ok.hd, ok.frames, ok.stk, ok.exf, ok.bs, ok.bsz, ok.noex, ok.exfs, ok.funs, ok.frf⟩
private theorem Cx.Ok.unwish {X : Cx} {E : Value → Shared → Prop} (ok : (X.wish E).Ok) : X.Ok :=
  ⟨ok.mod, ok.kind, ok.glob, ok.blt, ok.above, ok.inj, ok.has, ok.cab, ok.hd, ok.frames, ok.stk, ok.exf, ok.bs, ok.bsz, ok.noex, ok.exfs, ok.funs, ok.frf⟩
section
variable {X : Cx} {pins : List (Addr × Obj)} {σ : St} {H : Hp} {s : Shared} {E : Value → Shared → Prop}
private theorem Inv.wish (I : Inv X pins σ H s) (E : Value → Shared → Prop) : Inv (X.wish E) pins σ H s := ⟨I.ok.wish E, I.os, I.bare, I.base, I.loc, I.cell, I.free, I.freeC, I.pin, I.hok, I.len⟩
private theorem Inv.unwish (I : Inv (X.wish E) pins σ H s) : Inv X pins σ H s := ⟨I.ok.unwish, I.os, I.bare, I.base, I.loc, I.cell, I.free, I.freeC, I.pin, I.hok, I.len⟩
private theorem SP.unwish {D : Ends} {f : Flow} {s' : Shared} (h : SP (X.wish E) pins D f s') : SP X pins D f s' := by
  cases f with
  | next => obtain ⟨σ', H', I, q⟩ := h; exact ⟨σ', H', I.unwish, q⟩
  | brk => obtain ⟨σ', H', I, q⟩ := h; exact ⟨σ', H', I.unwish, q⟩
  | cont => obtain ⟨σ', H', I, q⟩ := h; exact ⟨σ', H', I.unwish, q⟩
  | ret u => obtain ⟨v, σ', H', I, r, q⟩ := h; exact ⟨v, σ', H', I.unwish, r, q⟩
private theorem PT.nox {e : Expr} {t : TT} (h : PT X.nox e t) : PT X e t := fun pins s σ H Q I hw =>
  wpAny_mono (h pins s σ H Q (I.wish _) hw) (fun _ _ ⟨H', I', q⟩ => ⟨H', I'.unwish, q⟩) fun _ _ z => False.elim z
private theorem PSs.nox {st : List Stmt} {t : TS} (h : PSs X.nox st t) : PSs X st t := fun pins s σ H D I hw =>
  wpAny_mono (h pins s σ H D (I.wish _) hw) (fun _ _ q => q.unwish) fun _ _ z => False.elim z
end
section
variable {X : Cx} {st : Stmt} {rest : List Stmt} {t u : TS} {e : Expr} {te : TE} {pos : Pos}
noncomputable def tNext : TS := fun D σ H => D.nx σ H
noncomputable def tSeq (t u : TS) : TS := fun D σ H => t { D with nx := u D } σ H
private theorem pss_nil : PSs X [] tNext := fun _ _ σ H _ I h => wpAny_execs_nil ⟨σ, H, I, h⟩
private theorem pss_cons (h1 : PS X st t) (h2 : PSs X rest u) : PSs X (st :: rest) (tSeq t u) := by
  intro pins s σ H D I h
  refine wpAny_execs_cons (thn (h1 pins s σ H { D with nx := u D } I h) fun f s1 q => ?_)
  cases f with
  | next =>
    obtain ⟨σ', H', I', q⟩ := q
    exact h2 pins s1 σ' H' D I' q
  | ret v => exact q
  | brk => exact q
  | cont => exact q
private theorem Inv.quiet {pins : List (Addr × Obj)} {σ : St} {H : Hp} {s : Shared} (I : Inv X pins σ H s) : interactive X.env = false := by simp [interactive, I.ok.kind]
noncomputable def tDrop (te : TE) : TS := fun D σ H => te σ H fun _ H1 => D.nx σ H1
private theorem ps_expr (he : PE X e te) (hs : autoParam (swapsWith e none pos.line X.env = pure false) PyProof.Rows.call_M_of_MD._auto_3) : PS X (.Expr e pos) (tDrop te) := by
  intro pins s σ H D I h
  exact wpAny_Expr_any (thn (he pins s σ H _ I h) fun v s1 ⟨x, H1, I1, r1, q1⟩ => ⟨σ, H1, I1, q1⟩) I.quiet hs
noncomputable def tRet (te : TE) : TS := fun D σ H => te σ H D.rt
private theorem ps_ret (he : PE X e te) : PS X (.Return (some e) pos) (tRet te) := by
  intro pins s σ H D I h
  exact wpAny_Return_some (thn (he pins s σ H _ I h) fun v s1 ⟨x, H1, I1, r1, q1⟩ => ⟨x, σ, H1, I1, r1, q1⟩)
noncomputable def tIfS (c : TT) (t u : TS) : TS := fun D σ H => c σ H fun b H1 => if b = true then t D σ H1 else u D σ H1
private theorem ps_if {c : Expr} {a b : List Stmt} {tc : TT} (hc : PT X c tc) (ha : PSs X a t) (hb : PSs X b u) : PS X (.If c a b pos) (tIfS tc t u) := by
  intro pins s σ H D I h
  refine wpAny_If (thn (hc pins s σ H _ I h) fun d s1 ⟨H1, I1, q1⟩ => ?_)
  cases d with
  | true => exact ha pins s1 σ H1 D I1 q1
  | false => exact hb pins s1 σ H1 D I1 q1
end
noncomputable abbrev TG := V → St → Hp → (St → Hp → Prop) → Prop
noncomputable abbrev TGs := List V → St → Hp → (St → Hp → Prop) → Prop
noncomputable def PG (X : Cx) (target : Expr) (t : TG) : Prop :=
  ∀ (pins : List (Addr × Obj)) (s : Shared) (σ : St) (H : Hp) (v : V) (u : Value) (Q : St → Hp → Prop), Inv X pins σ H s → RelV v u → t v σ H Q →
    wpAny (model X.prog X.w) X.A (assign target X.env u) (fun _ s' => ∃ σ' H', Inv X pins σ' H' s' ∧ Q σ' H') X.xe s
noncomputable def PGs (X : Cx) (ts : List Expr) (t : TGs) : Prop :=
  ∀ (pins : List (Addr × Obj)) (s : Shared) (σ : St) (H : Hp) (vs : List V) (us : List Value) (Q : St → Hp → Prop), Inv X pins σ H s → Vals vs us → t vs σ H Q →
    wpAny (model X.prog X.w) X.A (assignInOrder ((assignEach ts X.env).map (·.2)) us) (fun _ s' => ∃ σ' H', Inv X pins σ' H' s' ∧ Q σ' H') X.xe s
noncomputable abbrev TSet := V → V → V → Hp → (Hp → Prop) → Prop
noncomputable def PSet (X : Cx) (t : TSet) : Prop :=
  ∀ (pins : List (Addr × Obj)) (s : Shared) (σ : St) (H : Hp) (o i v : V) (ov iv u : Value) (Q : Hp → Prop), Inv X pins σ H s → RelV o ov → RelV i iv → RelV v u → t o i v H Q →
    wpAny (model X.prog X.w) X.A (setItem ov iv u) (fun _ s' => ∃ H', Inv X pins σ H' s' ∧ Q H') X.xe s
section
variable {X : Cx} {pos : Pos}
noncomputable def gName (i : Nat) : TG := fun v σ H Q => Q (σ.set i (some v)) H
private theorem pg_name {i : Nat} {x : Str} (hN : X.N.Nodup) (hi : X.N[i]? = some x) (hx : Loc X.env.scope x) (hf : X.fn x = true ∨ X.env.scope.names.lookup x = some .local) : PG X (.Name x pos) (gName i) := by
  intro pins s σ H v u Q I r h
  exact wpAny_assign_Name (store_ok I hN hi hx r (fun s' I' => ⟨_, H, I', h⟩) hf)
noncomputable def gNil : TGs := fun vs σ H Q => vs = [] ∧ Q σ H
noncomputable def gCons (t : TG) (u : TGs) : TGs := fun vs σ H Q => ∃ v r, vs = v :: r ∧ t v σ H fun σ' H' => u r σ' H' Q
private theorem pgs_nil : PGs X [] gNil := by
  intro pins s σ H vs us Q I r h
  obtain ⟨e, h⟩ := h
  subst e
  cases r
  exact assignInOrder_nil ⟨σ, H, I, h⟩
private theorem pgs_cons {e : Expr} {es : List Expr} {t : TG} {u : TGs} (h1 : PG X e t) (h2 : PGs X es u)
    (hs : autoParam ((assignEach (e :: es) X.env).map (·.2) = assign e X.env :: (assignEach es X.env).map (·.2)) PyProof.Rows.call_M_of_MD._auto_3) : PGs X (e :: es) (gCons t u) := by
  intro pins s σ H vs us Q I r h
  obtain ⟨v, vr, e1, h⟩ := h
  subst e1
  cases r with
  | cons r rr =>
    rw [hs]
    refine assignInOrder_cons (thn (h1 pins s σ H _ _ _ I r h) fun _ s1 ⟨σ1, H1, I1, q1⟩ => ?_)
    exact h2 pins s1 σ1 H1 _ _ Q I1 rr q1
noncomputable def gTup (K : PySem.W.Frag) (n : Nat) (t : TGs) : TG := fun v σ H Q => ∃ a xs, v = .ref a ∧ SqT K H a xs ∧ xs.length = n ∧ t xs σ H Q
private theorem pg_tup {es : List Expr} {k : Nat} {t : TGs} {n : Nat} (hc : X.calm = true) (h : PGs X es t)
    (hn : autoParam ((assignEach es X.env).length = n) PyProof.Rows.call_M_of_MD._auto_3) (hst : autoParam ((assignEach es X.env).findIdx? (·.1) = none) PyProof.Rows.call_M_of_MD._auto_3) : PG X (.Tuple es k pos) (gTup X.K n t) := by
  intro pins s σ H v u Q I r hw
  obtain ⟨a, xs, e1, hq, hl, hw⟩ := hw
  subst e1
  cases r
  obtain ⟨its, rv, ht, hz⟩ := I.tuple hq
  refine assign_Tuple_tuple (I.ok.hd hc) ht (by simp [hn, ← hl, rv.length]) hst fun h' hx => ?_
  have I1 : Inv X pins σ H { s with heap := h' } := I.kept (t' := s.toks) fun b o e => hx b o (Nat.ne_of_lt (Heap.lt_size e)) e
  exact h pins _ σ H xs _ Q I1 (by simpa using rv) hw
noncomputable def gSub (to ti : TE) (t : TSet) : TG := fun v σ H Q => to σ H fun o H1 => ti σ H1 fun i H2 => t o i v H2 fun H3 => Q σ H3
private theorem pg_sub {o i : Expr} {to ti : TE} {t : TSet} (ho : PE X o to) (hi : PE X i ti) (hs : PSet X t)
    (ha : autoParam (∀ v, assign (.Subscript o i pos) X.env v = (do
      let ov ← holding [v] (eval o X.env)
      let iv ← holding [v, ov] (eval i X.env)
      standAt pos
      holding [v, ov, iv] (setItem ov iv v)
      release [v, ov, iv] [])) PyProof.Rows.Assign_ListComp_rowsP._auto_1) : PG X (.Subscript o i pos) (gSub to ti t) := by
  intro pins s σ H v u Q I r h
  rw [ha]
  refine wpAny_bind (wpAny_holding (thn (ho pins s σ H _ I h) fun ov s1 ⟨x, H1, I1, r1, q1⟩ => ?_))
  refine wpAny_bind (wpAny_holding (thn (hi pins s1 σ H1 _ I1 q1) fun iv s2 ⟨y, H2, I2, r2, q2⟩ => ?_))
  refine wpAny_bind (wpAny_standAt (wpAny_bind (wpAny_holding (thn (hs pins s2 σ H2 x y v ov iv u _ I2 r1 r2 r q2) fun _ s3 ⟨H3, I3, q3⟩ => ?_))))
  exact wpAny_release ⟨σ, H3, I3, q3⟩
noncomputable def tAsg (te : TE) (g : TG) : TS := fun D σ H => te σ H fun x H1 => g x σ H1 D.nx
private theorem ps_asg {tg e : Expr} {te : TE} {g : TG} (he : PE X e te) (hg : PG X tg g) (hs : autoParam (swapsWithSole [tg] e pos.line X.env = pure false) PyProof.Rows.call_M_of_MD._auto_3) (hw : autoParam (swappedStores [tg] e X.env = pure none) PyProof.Rows.call_M_of_MD._auto_3)
    (h1 : autoParam ((assignEach [tg] X.env).map (·.2) = [assign tg X.env]) PyProof.Rows.call_M_of_MD._auto_3) : PS X (.Assign [tg] e pos) (tAsg te g) := by
  intro pins s σ H D I h
  refine wpAny_Assign_stores (thn (he pins s σ H _ I h) fun v s1 ⟨x, H1, I1, r1, q1⟩ => ?_) hs hw
  rw [h1]
  exact thn (hg pins s1 σ H1 x v _ I1 r1 q1) fun _ s2 q => q
private theorem ps_set {i : Nat} {x : Str} {e : Expr} {te : TE} {pos' : Pos} (hN : X.N.Nodup) (hi : X.N[i]? = some x) (hx : Loc X.env.scope x) (he : PE X e te) (hs : autoParam (swapsWith e (some (.Name x pos')) pos.line X.env = pure false) PyProof.Rows.call_M_of_MD._auto_3) (hf : X.fn x = true ∨ X.env.scope.names.lookup x = some .local) :
    PS X (.Assign [.Name x pos'] e pos) (tAsg te (gName i)) := by
  intro pins s σ H D I h
  refine wpAny_Assign_Name (thn (he pins s σ H _ I h) fun v s1 ⟨y, H1, I1, r1, q1⟩ => ?_) hs
  exact store_ok I1 hN hi hx r1 (fun s2 I2 => ⟨_, H1, I2, q1⟩) hf
noncomputable def tPar (i j : Nat) (ta : TA) : TS := fun D σ H => ta σ H fun vs H1 => ∃ v w, vs = [v, w] ∧ D.nx ((σ.set i (some v)).set j (some w)) H1
private theorem ps_par {i j : Nat} {x y : Str} {a b : Expr} {ta : TA} {px py pt : Pos} {kt k2 pt2} (hc : X.calm = true) (hN : X.N.Nodup) (hi : X.N[i]? = some x) (hj : X.N[j]? = some y) (hij : i ≠ j)
    (hx : X.env.scope.names.lookup x = some .local) (hy : X.env.scope.names.lookup y = some .local) (ha : PA X [a, b] ta)
    (hw : swappedStores [.Tuple [.Name x px, .Name y py] kt pt] (.Tuple [a, b] k2 pt2) X.env = pure (some [x, y]))
    (hs : autoParam (swapsWithSole [.Tuple [.Name x px, .Name y py] kt pt] (.Tuple [a, b] k2 pt2) pos.line X.env = pure false) PyProof.Rows.call_M_of_MD._auto_3) :
    PS X (.Assign [.Tuple [.Name x px, .Name y py] kt pt] (.Tuple [a, b] k2 pt2) pos) (tPar i j ta) := by
  intro pins s σ H D I h
  rw [exec_Assign_arm]
  refine wpAny_bind (wpAny_standAt ?_)
  rw [hs]
  refine wpAny_bind (wpAny_pure ?_)
  rw [if_neg (by decide)]
  refine wpAny_bind (Tuple_ (thn (ha _ pins s σ H _ I h) fun us s1 ⟨vs, H1, I1, r1, q1⟩ => ?_))
  obtain ⟨v, w, e1, q1⟩ := q1
  subst e1
  obtain ⟨u1, u2, rfl, rv, rw'⟩ : ∃ u1 u2, us = [u1, u2] ∧ RelV v u1 ∧ RelV w u2 := by
    cases r1 with
    | cons p q =>
      cases q with
      | cons p' q' =>
        cases q'
        exact ⟨_, _, rfl, p, p'⟩
  refine wpAny_newObj_type ?_ (by show 2 ≤ sizeLine; decide)
  have I2 : Inv X pins σ H1 { s1 with heap := s1.heap.push { cls := .type "tuple", data := .seq [u1, u2].toArray } } := I1.kept (t' := s1.toks) fun b o e => Heap.get?_push_of_some _ e
  rw [hw]
  refine wpAny_bind (wpAny_pure ?_)
  show wpAny (model X.prog X.w) X.A (do rule "assign.swapped-stores"; let items ← unpackItems (.ref s1.heap.objs.size) 2 none; assignInOrder [fun v => bindName X.env y v, fun v => bindName X.env x v] items.reverse; pure Flow.next) _ _ _
  refine wpAny_bind (wpAny_rule (wpAny_bind (unpackItems_tuple (items := #[u1, u2]) (I.ok.hd hc) (IsTup.new s1.heap _) fun h' hx' => ?_)))
  have I3 := I2.kept (h' := h') (t' := s1.toks) fun b o e => hx' b o (Nat.ne_of_lt (Heap.lt_size e)) e
  show wpAny _ _ (assignInOrder [fun v => bindName X.env y v, fun v => bindName X.env x v] [u2, u1] >>= fun _ => pure Flow.next) _ _ _
  refine wpAny_bind (assignInOrder_cons (wpAny_bindName (store_ok I3 hN hj (.inl hy) rw' (fun s2 I4 => ?_) (.inr hy))))
  refine assignInOrder_cons (wpAny_bindName (store_ok I4 hN hi (.inl hx) rv (fun s3 I5 => assignInOrder_nil (wpAny_pure ?_)) (.inr hx)))
  rw [List.set_comm _ _ (Ne.symm hij)] at I5
  exact ⟨_, H1, I5, q1⟩
end
section
variable {X : Cx} {pos : Pos}
end
structure It where
  go : Nat → Hp → Prop
  yld : Nat → Hp → V → Hp → Prop
  stop : Nat → Hp → Prop
noncomputable def FpOk (X : Cx) (pins : List (Addr × Obj)) (H : Hp) (b : Addr) : Prop :=
  H b = none ∧ b ≠ X.env.locals ∧ b ∉ X.fs ∧ (b ∈ X.ex ∨ X.s0.heap.objs.size ≤ b) ∧ (∀ x c, X.env.cells.lookup x = some c → c ≠ b) ∧ ∀ p ∈ X.pn ++ pins, p.1 ≠ b
private theorem Inv.fpOk {X : Cx} {pins : List (Addr × Obj)} {σ : St} {H H' : Hp} {s : Shared} {b : Addr} (I : Inv X pins σ H s) (hb : s.heap.objs.size ≤ b) (hn : H' b = none) : FpOk X pins H' b := by
  refine ⟨hn, Nat.ne_of_gt (Nat.lt_of_lt_of_le I.lt hb), I.nofs hb, .inr (Nat.le_trans I.sz hb), fun x c e z => ?_, fun p hp z => ?_⟩
  · obtain ⟨v, q⟩ := I.cell x c e
    exact absurd (Nat.lt_of_lt_of_le q.lt (by (first | exact ((z).trans (hb)) | (rw [z]; exact hb)))) (Nat.lt_irrefl _)
  · exact absurd (Nat.lt_of_lt_of_le (Heap.lt_size (I.pin p hp).1) (by (first | exact ((z).trans (hb)) | (rw [z]; exact hb)))) (Nat.lt_irrefl _)
structure Turn (P : Program) (w : World) (K : PySem.W.Frag) (tg : Expr) (J : It) (fp : List Addr) (it : Addr) (tn : Nat → Heap → Prop) : Prop where
  mem : it ∈ fp
  obj : ∀ i h, tn i h → ∀ b ∈ fp, ∃ o, h.get? b = some o ∧ ∀ v, o.data ≠ .cell v
  keep : ∀ i h h', tn i h → (∀ b ∈ fp, ∀ o, h.get? b = some o → h'.get? b = some o) → tn i h'
  item : ∀ (X : Cx), X.prog = P → X.w = w → X.K = K → X.calm = true → ∀ (i : Nat) (pins : List (Addr × Obj)) (s : Shared) (σ : St) (H : Hp) (E : Value → Shared → Prop), Inv X pins σ H s → (∀ b ∈ fp, FpOk X pins H b) → tn i s.heap → J.go i H →
    wpAny (model P w) X.A (pyNext (.ref it)) (fun r s1 => ∃ u, r = some u ∧
      wpAny (model P w) X.A (letOwnedTupleGo tg (.ref it) u) (fun _ s2 => ∃ x H', Inv X pins σ H' s2 ∧ RelV x u ∧ J.yld i H x H' ∧ tn (i + 1) s2.heap ∧ ∀ b ∈ fp, H' b = none) E s1) E s
  done : ∀ (X : Cx), X.prog = P → X.w = w → X.K = K → X.calm = true → ∀ (i : Nat) (pins : List (Addr × Obj)) (s : Shared) (σ : St) (H : Hp) (E : Value → Shared → Prop), Inv X pins σ H s → (∀ b ∈ fp, FpOk X pins H b) → tn i s.heap → J.stop i H →
    wpAny (model P w) X.A (pyNext (.ref it)) (fun r s1 => r = none ∧ Inv X pins σ H s1) E s
  self : ∀ (A : Around) (i : Nat) (s : Shared) (Q : Value → Shared → Prop) (E : Value → Shared → Prop), tn i s.heap → Q (.ref it) s → wpAny (model P w) A (pyIter (.ref it)) Q E s
noncomputable abbrev TI := St → Hp → (It → Hp → Prop) → Prop
inductive PIE (X : Cx) (pins : List (Addr × Obj)) (σ : St) (tg : Expr) (R : It → Hp → Prop) (itv : Value) (s2 : Shared) : Prop
  | mk (it : Addr) (fp : List Addr) (tn : Nat → Heap → Prop) (J : It) (H' : Hp) (e : itv = .ref it) (I : Inv X pins σ H' s2) (T : Turn X.prog X.w X.K tg J fp it tn) (t0 : tn 0 s2.heap) (f : (∀ b ∈ fp, FpOk X pins H' b)) (q : R J H')
noncomputable def PI (X : Cx) (tg iter : Expr) (wi : TI) : Prop :=
  ∀ (pins : List (Addr × Obj)) (s : Shared) (σ : St) (H : Hp) (R : It → Hp → Prop), Inv X pins σ H s → wi σ H R →
    wpAny (model X.prog X.w) X.A (eval iter X.env) (fun v s1 => wpAny (model X.prog X.w) X.A (pyIter v) (PIE X pins σ tg R) X.xe s1) X.xe s
private theorem go_of {M : Model} {A : Around} {E : Value → Shared → Prop} {s : Shared} {tg : Expr} {it : Addr} {u : Value} {o : Obj} {n : String} {vs : Array Value} {Q : Unit → Shared → Prop} (ho : s.heap.get? it = some o) (hc : o.cls = .type n) (hd : o.data = .fields vs)
    (hn : ["enumerate", "zip", "dict_itemiterator", "dict_reverseitemiterator", "odict_iterator", "itertools.zip_longest", "itertools.pairwise"].contains n = false) (hQ : Q () s) : wpAny M A (letOwnedTupleGo tg (.ref it) u) Q E s := by
  unfold letOwnedTupleGo
  cases tg <;> first
    | exact wpAny_pure hQ
    | (cases u <;> first
        | exact wpAny_pure hQ
        | (refine wpAny_bind (wpAny_load ho ?_)
           rw [hc, hd]
           show wpAny M A (if (["enumerate", "zip", "dict_itemiterator", "dict_reverseitemiterator", "odict_iterator", "itertools.zip_longest", "itertools.pairwise"].contains n && vs[0]? == some (rawInt _)) = true then _ else _) Q E s
           rw [if_neg (by intro h; (first | exact PyNso (Bool.false_and) (hn ▸ h) | (rw [hn, Bool.false_and] at h; cases h)))]
           exact wpAny_pure hQ))
noncomputable def Itl (K : PySem.W.Frag) (a : Addr) : It :=
  ⟨fun i H => ∃ xs x, SqL K H a xs ∧ xs[i]? = some x, fun i H x H' => H' = H ∧ ∀ xs, SqL K H a xs → xs[i]? = some x, fun i H => ∃ xs, SqL K H a xs ∧ xs.length ≤ i⟩
noncomputable def Itt (K : PySem.W.Frag) (a : Addr) : It :=
  ⟨fun i H => ∃ xs x, SqT K H a xs ∧ xs[i]? = some x, fun i H x H' => H' = H ∧ ∀ xs, SqT K H a xs → xs[i]? = some x, fun i H => ∃ xs, SqT K H a xs ∧ xs.length ≤ i⟩
noncomputable def Itr (lo : Int) (n : Nat) : It := ⟨fun i _ => i < n, fun i H x H' => H' = H ∧ x = .int (lo + i), fun i _ => n ≤ i⟩
private theorem turn_list {P : Program} {w : World} {K : PySem.W.Frag} {tg : Expr} (a it : Addr) : Turn P w K tg (Itl K a) [it] it (fun i h => h.IsListIter it a i) where
  mem := by simp
  obj := fun i h st b hb => by
    have e : b = it := by simpa using hb
    subst e
    obtain ⟨o, e, c, d⟩ := st
    exact ⟨o, e, fun v z => by (first | exact PyNso (d) z | exact PyNso z (d) | cases PySos (d) z | (rw [d] at z; cases z))⟩
  keep := fun i h h' st k => st.at fun o e => k it (by simp) o e
  item := by
    intro X hP hw hK hc i pins s σ H E I hf st hg
    subst hP hw hK
    obtain ⟨xs, x, hq, hx⟩ := hg
    obtain ⟨its, rv, p, hz⟩ := I.list hq
    obtain ⟨u, hu, ru⟩ := rv.get hx
    obtain ⟨f0, f1, f2, f3, f4, f5⟩ := hf it (by simp)
    refine wpAny_pyNext_list_item st p.isList (x := u) (by simpa using hu) fun h' st' sb => ?_
    have I1 : Inv X pins σ H { s with heap := h' } := I.turned (t' := s.toks) (fun b o hb e => (sb.2 b hb).trans e) f0 f1 f3 f4 f5
    obtain ⟨o, e, c, d⟩ := id st'
    exact ⟨u, rfl, go_of (s := { s with heap := h' }) e c d (by decide) ⟨x, H, I1, ru, ⟨rfl, fun ys hy => by (first | exact ((I.list_inj hy hq).trans (hx)) | (rw [I.list_inj hy hq]; exact hx))⟩, st', fun b hb => (hf b hb).1⟩⟩
  done := by
    intro X hP hw hK hc i pins s σ H E I hf st hg
    subst hP hw hK
    obtain ⟨xs, hq, hx⟩ := hg
    obtain ⟨its, rv, p, hz⟩ := I.list hq
    obtain ⟨f0, f1, f2, f3, f4, f5⟩ := hf it (by simp)
    have hl := rv.length
    exact wpAny_pyNext_list_end (I.ok.hd hc) st p.isList (by simp; omega) fun h' eb => ⟨rfl, I.turned (t' := s.toks) (fun b o hb e => eb b o hb e) f0 f1 f3 f4 f5⟩
  self := fun _ _ _ _ _ st h => wpAny_pyIter_listiter st h
private theorem turn_tuple {P : Program} {w : World} {K : PySem.W.Frag} {tg : Expr} (a it : Addr) : Turn P w K tg (Itt K a) [it] it (fun i h => h.IsTupleIter it a i) where
  mem := by simp
  obj := fun i h st b hb => by
    have e : b = it := by simpa using hb
    subst e
    obtain ⟨o, e, c, d⟩ := st
    exact ⟨o, e, fun v z => by (first | exact PyNso (d) z | exact PyNso z (d) | cases PySos (d) z | (rw [d] at z; cases z))⟩
  keep := fun i h h' st k => st.at fun o e => k it (by simp) o e
  item := by
    intro X hP hw hK hc i pins s σ H E I hf st hg
    subst hP hw hK
    obtain ⟨xs, x, hq, hx⟩ := hg
    obtain ⟨its, rv, p, hz⟩ := I.tuple hq
    obtain ⟨u, hu, ru⟩ := rv.get hx
    obtain ⟨f0, f1, f2, f3, f4, f5⟩ := hf it (by simp)
    refine wpAny_pyNext_tuple_item st (show s.heap.IsTuple a its.toArray from p) (x := u) (by simpa using hu) fun h' st' sb => ?_
    have I1 : Inv X pins σ H { s with heap := h' } := I.turned (t' := s.toks) (fun b o hb e => (sb.2 b hb).trans e) f0 f1 f3 f4 f5
    obtain ⟨o, e, c, d⟩ := id st'
    exact ⟨u, rfl, go_of (s := { s with heap := h' }) e c d (by decide) ⟨x, H, I1, ru, ⟨rfl, fun ys hy => by (first | exact ((I.tuple_inj hy hq).trans (hx)) | (rw [I.tuple_inj hy hq]; exact hx))⟩, st', fun b hb => (hf b hb).1⟩⟩
  done := by
    intro X hP hw hK hc i pins s σ H E I hf st hg
    subst hP hw hK
    obtain ⟨xs, hq, hx⟩ := hg
    obtain ⟨its, rv, p, hz⟩ := I.tuple hq
    obtain ⟨f0, f1, f2, f3, f4, f5⟩ := hf it (by simp)
    have hl := rv.length
    exact wpAny_pyNext_tuple_end (I.ok.hd hc) st (show s.heap.IsTuple a its.toArray from p) (by simp; omega) fun h' eb => ⟨rfl, I.turned (t' := s.toks) (fun b o hb e => eb b o hb e) f0 f1 f3 f4 f5⟩
  self := fun _ _ _ _ _ st h => wpAny_pyIter_tupleiter st h
private theorem turn_range {P : Program} {w : World} {K : PySem.W.Frag} {tg : Expr} (it : Addr) (lo : Int) (n : Nat) : Turn P w K tg (Itr lo n) [it] it (fun i h => IsRangeIter h it (lo + (i : Nat) * 1) ((n : Int) - (i : Nat)) 1) where
  mem := by simp
  obj := fun i h st b hb => by
    have e : b = it := by simpa using hb
    subst e
    exact ⟨_, st, fun v z => by
      have z' : Data.fields _ = Data.cell v := z
      cases z'⟩
  keep := fun i h h' st k => k it (by simp) _ st
  item := by
    intro X hP hw hK hc i pins s σ H E I hf st hg
    subst hP hw hK
    obtain ⟨f0, f1, f2, f3, f4, f5⟩ := hf it (by simp)
    have W := Walks.range (prog := X.prog) (w := X.w) (I.ok.hd hc) it lo 1 n
    refine W.item i s _ _ hg st fun v h' tk hv st' kk => ?_
    obtain ⟨t, rfl⟩ := hv
    have I1 : Inv X pins σ H { s with heap := h', toks := tk } := I.turned (fun b o hb e => kk b o (by simpa using hb) e) f0 f1 f3 f4 f5
    refine ⟨_, rfl, go_of (s := { s with heap := h', toks := tk }) (n := "range_iterator") st' rfl rfl (by decide) ⟨.int (lo + i), H, I1, ⟨t, ?_⟩, ⟨rfl, rfl⟩, st', fun b hb => (hf b hb).1⟩⟩
    rw [Int.mul_one]
  done := by
    intro X hP hw hK hc i pins s σ H E I hf st hg
    subst hP hw hK
    obtain ⟨f0, f1, f2, f3, f4, f5⟩ := hf it (by simp)
    exact wpAny_pyNext_range_end (I.ok.hd hc) st (by have : n ≤ i := hg; omega) fun h' eb => ⟨rfl, I.turned (t' := s.toks) (fun b o hb e => eb b o hb e) f0 f1 f3 f4 f5⟩
  self := fun _ _ _ _ _ st h => wpAny_pyIter_rangeiter st h
end L2
namespace L2
open PySem PySem.Spec PyProof.Rows
section
variable {X : Cx} {tg : Expr}
private theorem range_it {pins : List (Addr × Obj)} {σ : St} {H : Hp} {s : Shared} {R : It → Hp → Prop} {E : Value → Shared → Prop} {lo hi : Int} {t u v : Tok} {tk : Nat} (I : Inv X pins σ H s) (h1 : -(2 ^ 62) ≤ lo) (h2 : lo < 2 ^ 62) (h3 : -(2 ^ 62) ≤ hi) (h4 : hi < 2 ^ 62)
    (q : R (Itr lo (hi - lo).toNat) H) : wpAny (model X.prog X.w) X.A (pyIter (.ref s.heap.objs.size)) (PIE X pins σ tg R) E { s with heap := s.heap.push { cls := .type "range", data := .fields #[.int lo t, .int hi u, .int 1 v] }, toks := tk } := by
  refine wpAny_pyIter_range (IsRange.new ..) (small_one h1 h2 h3 h4) ?_
  have I1 : Inv X pins σ H { s with heap := s.heap.push { cls := .type "range", data := .fields #[.int lo t, .int hi u, .int 1 v] }, toks := tk } := I.kept fun b o e => Heap.get?_push_of_some _ e
  refine ⟨(s.heap.push { cls := .type "range", data := .fields #[.int lo t, .int hi u, .int 1 v] }).objs.size, [(s.heap.push { cls := .type "range", data := .fields #[.int lo t, .int hi u, .int 1 v] }).objs.size], _, _, H, rfl,
    I1.kept (t' := tk) fun b o e => Heap.get?_push_of_some _ e, turn_range _ lo (hi - lo).toNat, ?_, fun b hb => ?_, q⟩
  · have e1 : lo + ((0 : Nat) : Int) * 1 = lo := by simp
    have e2 : (((hi - lo).toNat : Nat) : Int) - ((0 : Nat) : Int) = Builtin.Range.rangeSize lo hi 1 := by rw [rangeSize_one]; split <;> omega
    show IsRangeIter _ _ (lo + ((0 : Nat) : Int) * 1) ((((hi - lo).toNat : Nat) : Int) - ((0 : Nat) : Int)) 1
    rw [e1, e2]
    exact Heap.get?_push_size _ rfl
  · have e : b = (s.heap.push { cls := .type "range", data := .fields #[.int lo t, .int hi u, .int 1 v] }).objs.size := by simpa using hb
    subst e
    exact I1.fpOk (Nat.le_refl _) (I1.hok.fresh (Nat.le_refl _))
noncomputable def iRng1 (ta : TA) : TI := fun σ H R => ta σ H fun vs H1 => ∃ j : Int, vs = [.int j] ∧ -(2 ^ 62) ≤ j ∧ j < 2 ^ 62 ∧ R (Itr 0 j.toNat) H1
private theorem pi_range1 {a : Expr} {ta : TA} {p pos : Pos} (hg : Gl X "range") (hm : X.mg "range" = none) (ha : PA X [a] ta) (hs : autoParam (starEach [a] X.env = [(false, eval a X.env)]) PyProof.Rows.call_M_of_MD._auto_3) : PI X tg (.Call (.Name "range" p) [a] [] pos) (iRng1 ta) := by
  intro pins s σ H R I h
  refine Call_ (ld_blt I hg hm boot_range (PyProof.Rows.callWith_type1 (thn (ha pos pins s σ H _ I h) fun us s1 ⟨vs, H1, I1, r1, q1⟩ => ?_) hs rfl))
  obtain ⟨j, e, q1, q2, q⟩ := q1
  subst e
  cases r1 with
  | cons r rr =>
    cases rr
    obtain ⟨t, rfl⟩ := r
    exact call_range_1 (range_it I1 (by omega) (by omega) q1 q2 (by simpa using q))
noncomputable def tFor (wi : TI) (g : TG) (tb : TS) : TS := fun D σ H => wi σ H fun J H1 => ∃ W : Nat → Nat → St → Hp → Prop, (∃ m, W 0 m σ H1) ∧ ∀ i m σ H, W i m σ H →
  (J.stop i H ∧ D.nx σ H) ∨ (J.go i H ∧ ∃ N : St → Hp → Prop, (∀ σ' H', N σ' H' → ∃ m', m' < m ∧ W (i + 1) m' σ' H') ∧ ∀ x H', J.yld i H x H' → g x σ H' fun σ2 H2 => tb { D with nx := N, ct := N, bk := D.nx } σ2 H2)
noncomputable def pinsAt (fp : List Addr) (h : Heap) : List (Addr × Obj) := fp.filterMap fun b => (h.get? b).map fun o => (b, o)
private theorem mem_pinsAt {fp : List Addr} {h : Heap} {b : Addr} {o : Obj} (hb : b ∈ fp) (e : h.get? b = some o) : (b, o) ∈ pinsAt fp h := List.mem_filterMap.mpr ⟨b, hb, by rw [e]; rfl⟩
private theorem of_pinsAt {fp : List Addr} {h : Heap} {p : Addr × Obj} (hp : p ∈ pinsAt fp h) : p.1 ∈ fp ∧ h.get? p.1 = some p.2 := by
  obtain ⟨b, hb, e⟩ := List.mem_filterMap.mp hp
  revert e; cases q : h.get? b with
  | none => intro e; cases e
  | some o =>
    intro e
    have e' : (b, o) = p := Option.some.inj e
    subst e'
    exact ⟨hb, q⟩
private theorem Inv.pinned {pins : List (Addr × Obj)} {σ : St} {H : Hp} {s : Shared} {fp : List Addr} (I : Inv X pins σ H s) (hf : ∀ b ∈ fp, FpOk X pins H b) (ho : ∀ b ∈ fp, ∃ o, s.heap.get? b = some o ∧ ∀ v, o.data ≠ .cell v) : Inv X (pins ++ pinsAt fp s.heap) σ H s :=
  I.pins_of fun p hp => (List.mem_append.mp hp).elim (fun z => I.pin p (List.mem_append_right _ z)) fun z => by
    obtain ⟨hb, e⟩ := of_pinsAt z
    obtain ⟨f0, f1, f2, _⟩ := hf p.1 hb
    obtain ⟨o, e', d⟩ := ho p.1 hb
    (first | exact PyNso (e) e' | exact PyNso e' (e) | cases PySos (e) e' | (rw [e] at e'; cases e'))
    exact ⟨e, f0, f1, f2, d⟩
private theorem Inv.unpinned {pins pl : List (Addr × Obj)} {σ : St} {H : Hp} {s : Shared} (I : Inv X (pins ++ pl) σ H s) : Inv X pins σ H s := I.pins_of fun p hp => I.pin p (List.mem_append_right _ (List.mem_append_left _ hp))
private theorem ps_for {iter : Expr} {body : List Stmt} {wi : TI} {g : TG} {tb : TS} {pos : Pos} (hp : PassesOwn (model X.prog X.w) X.A X.env X.xe) (hc : X.calm = true) (hi : PI X tg iter wi) (hg : PG X tg g) (hb : PSs X body tb)
    (hs : autoParam (∀ x, foldedSetIterable iter X.env x = pure x) PyProof.Rows.Assign_ListComp_rowsP._auto_1) : PS X (.For tg iter body [] pos) (tFor wi g tb) := by
  intro pins s σ H D I h
  refine wpAny_For (thn (hi pins s σ H _ I h) fun v s1 h1 => thn h1 fun itv s2 h2 => ?_) hs
  obtain ⟨it, fp, tn, J, H2, e, I2, T, st2, f2, W, ⟨m0, w0⟩, turn⟩ := h2
  subst e
  have stat : ∀ {H' : Hp}, (∀ b ∈ fp, H' b = none) → ∀ b ∈ fp, FpOk X pins H' b := fun hn b hb => ⟨hn b hb, (f2 b hb).2⟩
  refine codeAny_forLoop_any (fun n s' => ∃ i σ' H', Inv X pins σ' H' s' ∧ tn i s'.heap ∧ (∀ b ∈ fp, H' b = none) ∧ W i n σ' H') ?_ m0 ⟨0, σ, H2, I2, st2, fun b hb => (f2 b hb).1, w0⟩
  rintro n s3 ⟨i, σ3, H3, I3, st3, fr3, w3⟩
  rcases turn i n σ3 H3 w3 with ⟨stop, qn⟩ | ⟨go, N, hN, step⟩
  · refine wpAny_passesOwn hp (thn (T.done X rfl rfl rfl hc i pins s3 σ3 H3 X.xe I3 (stat fr3) st3 stop) fun r s4 ⟨hr, I4⟩ => ?_)
    subst hr
    exact wpAny_execs_nil ⟨σ3, H3, I4, qn⟩
  · refine wpAny_passesOwn hp (thn (T.item X rfl rfl rfl hc i pins s3 σ3 H3 X.xe I3 (stat fr3) st3 go) fun r s4 ⟨u, hr, h4⟩ => ?_)
    subst hr
    refine wpAny_passesOwn hp (thn h4 fun _ s5 ⟨x, H5, I5, r5, y5, st5, fr5⟩ => ?_)
    have I5' := I5.pinned (stat fr5) (T.obj _ _ st5)
    refine wpAny_passesOwn hp (thn (hg _ s5 σ3 H5 x u _ I5' r5 (step x H5 y5)) fun _ s6 ⟨σ6, H6, I6, q6⟩ => ?_)
    refine wpAny_passesOwn hp (thn (hb _ s6 σ6 H6 _ I6 q6) fun f s7 q7 => ?_)
    have again : ∀ {σ7 : St} {H7 : Hp}, Inv X (pins ++ pinsAt fp s5.heap) σ7 H7 s7 → N σ7 H7 → ∃ m, m < n ∧ ∃ i σ' H', Inv X pins σ' H' s7 ∧ tn i s7.heap ∧ (∀ b ∈ fp, H' b = none) ∧ W i m σ' H' := fun {σ7 H7} I7 n7 => by
      obtain ⟨m', hm, w7⟩ := hN σ7 H7 n7
      refine ⟨m', hm, i + 1, σ7, H7, I7.unpinned, T.keep _ _ _ st5 fun b hb o e => (I7.pin (b, o) (List.mem_append_right _ (List.mem_append_right _ (mem_pinsAt hb e)))).1, fun b hb => ?_, w7⟩
      obtain ⟨o, e, d⟩ := T.obj _ _ st5 b hb
      exact (I7.pin (b, o) (List.mem_append_right _ (List.mem_append_right _ (mem_pinsAt hb e)))).2.1
    cases f with
    | next => obtain ⟨σ7, H7, I7, n7⟩ := q7; exact again I7 n7
    | cont => obtain ⟨σ7, H7, I7, n7⟩ := q7; exact again I7 n7
    | brk => obtain ⟨σ7, H7, I7, q7⟩ := q7; exact ⟨σ7, H7, I7.unpinned, q7⟩
    | ret v => obtain ⟨x7, σ7, H7, I7, r7, q7⟩ := q7; exact ⟨x7, σ7, H7, I7.unpinned, r7, q7⟩
end
end L2
namespace L2
open PySem PySem.Spec PyProof.Rows
noncomputable abbrev R2 := V → V → Hp → VK → Prop
noncomputable def OpR (X : Cx) (f : Value → Value → Sem Value) (r : R2) : Prop :=
  ∀ (pins : List (Addr × Obj)) (s : Shared) (σ : St) (H : Hp) (x y : V) (v u : Value) (Q : VK), Inv X pins σ H s → RelV x v → RelV y u → r x y H Q →
    wpAny (model X.prog X.w) X.A (f v u) (EP X pins σ Q) X.xe s
noncomputable def UnR (X : Cx) (f : Value → Sem Value) (r : V → Hp → VK → Prop) : Prop :=
  ∀ (pins : List (Addr × Obj)) (s : Shared) (σ : St) (H : Hp) (x : V) (v : Value) (Q : VK), Inv X pins σ H s → RelV x v → r x H Q →
    wpAny (model X.prog X.w) X.A (f v) (EP X pins σ Q) X.xe s
noncomputable def CallR (X : Cx) (f : Value) (r : List V → Hp → VK → Prop) : Prop :=
  ∀ (pins : List (Addr × Obj)) (s : Shared) (σ : St) (H : Hp) (xs : List V) (us : List Value) (Q : VK), Inv X pins σ H s → Vals xs us → r xs H Q →
    wpAny (model X.prog X.w) X.A (call f us) (EP X pins σ Q) X.xe s
noncomputable def tOp (r : R2) (ta tb : TE) : TE := fun σ H Q => ta σ H fun x H1 => tb σ H1 fun y H2 => r x y H2 Q
noncomputable def tUn (r : V → Hp → VK → Prop) (ta : TE) : TE := fun σ H Q => ta σ H fun x H1 => r x H1 Q
noncomputable def rI (C : Int → Int → Prop) (g : Int → Int → V) : R2 := fun x y H Q => ∃ i j, x = .int i ∧ y = .int j ∧ C i j ∧ Q (g i j) H
noncomputable def rI0 (g : Int → Int → V) : R2 := fun x y H Q => ∃ i j, x = .int i ∧ y = .int j ∧ Q (g i j) H
noncomputable def rU (g : Int → V) : V → Hp → VK → Prop := fun x H Q => ∃ i, x = .int i ∧ Q (g i) H
section
variable {X : Cx} {a b c : Expr} {ta tb tc : TE} {pos : Pos}
private theorem binT (ha : PE X a ta) (hb : PE X b tb) {pins : List (Addr × Obj)} {s : Shared} {σ : St} {H : Hp} {R : V → V → Hp → Prop} (I : Inv X pins σ H s)
    (h : ta σ H fun x H1 => tb σ H1 fun y H2 => R x y H2) {Q : Value → Shared → Prop} {f : Value → Value → Sem Value}
    (hf : ∀ v u s2 x y H2, Inv X pins σ H2 s2 → RelV x v → RelV y u → R x y H2 → wpAny (model X.prog X.w) X.A (f v u) Q X.xe s2) :
    wpAny (model X.prog X.w) X.A (eval a X.env) (fun v s₁ => wpAny (model X.prog X.w) X.A (eval b X.env) (fun u s₂ => wpAny (model X.prog X.w) X.A (f v u) Q X.xe s₂) X.xe s₁) X.xe s := by
  refine thn (ha pins s σ H _ I h) fun v s1 ⟨x, H1, I1, r1, q1⟩ => ?_
  refine thn (hb pins s1 σ H1 _ I1 q1) fun u s2 ⟨y, H2, I2, r2, q2⟩ => ?_
  exact hf v u s2 x y H2 I2 r1 r2 q2
private theorem pe_op {op : Operator} {r : R2} (ho : OpR X (binaryOp op) r) (ha : PE X a ta) (hb : PE X b tb) : PE X (.BinOp a op b pos) (tOp r ta tb) := by
  intro pins s σ H Q I h
  exact wpAny_BinOp (binT ha hb I h fun v u s2 x y H2 I2 rx ry q => ho pins s2 σ H2 x y v u Q I2 rx ry q)
private theorem pe_un {op : UnaryOp} {r : V → Hp → VK → Prop} (ho : UnR X (unaryOp op) r) (ha : PE X a ta) : PE X (.UnaryOp op a pos) (tUn r ta) := by
  intro pins s σ H Q I h
  exact UnaryOp_ (thn (ha pins s σ H _ I h) fun v s1 ⟨x, H1, I1, r1, q1⟩ => ho pins s1 σ H1 x v Q I1 r1 q1)
private theorem opI {f : Value → Value → Sem Value} {C : Int → Int → Prop} {g : Int → Int → Int}
    (rule : ∀ (i j : Int) (t u : Tok) (s : Shared) (Q : Value → Shared → Prop) (E : Value → Shared → Prop), C i j → Q (.int (g i j) s.toks) { s with toks := s.toks + 1 } → wpAny (model X.prog X.w) X.A (f (.int i t) (.int j u)) Q E s) :
    OpR X f (rI C fun i j => .int (g i j)) := by
  intro pins s σ H x y v u Q I rx ry h
  obtain ⟨i, j, rfl, rfl, hc, q⟩ := h
  obtain ⟨t, rfl⟩ := rx
  obtain ⟨t', rfl⟩ := ry
  exact rule i j t t' s _ _ hc ⟨.int (g i j), H, I.tok _, ⟨_, rfl⟩, q⟩
private theorem opI0 {f : Value → Value → Sem Value} {g : Int → Int → Int}
    (rule : ∀ (i j : Int) (t u : Tok) (s : Shared) (Q : Value → Shared → Prop) (E : Value → Shared → Prop), Q (.int (g i j) s.toks) { s with toks := s.toks + 1 } → wpAny (model X.prog X.w) X.A (f (.int i t) (.int j u)) Q E s) :
    OpR X f (rI0 fun i j => .int (g i j)) := by
  intro pins s σ H x y v u Q I rx ry h
  obtain ⟨i, j, rfl, rfl, q⟩ := h
  obtain ⟨t, rfl⟩ := rx
  obtain ⟨t', rfl⟩ := ry
  exact rule i j t t' s _ _ ⟨.int (g i j), H, I.tok _, ⟨_, rfl⟩, q⟩
private theorem opB0 {f : Value → Value → Sem Value} {g : Int → Int → Bool}
    (rule : ∀ (i j : Int) (t u : Tok) (s : Shared) (Q : Value → Shared → Prop) (E : Value → Shared → Prop), Q (.bool (g i j)) s → wpAny (model X.prog X.w) X.A (f (.int i t) (.int j u)) Q E s) :
    OpR X f (rI0 fun i j => .bl (g i j)) := by
  intro pins s σ H x y v u Q I rx ry h
  obtain ⟨i, j, rfl, rfl, q⟩ := h
  obtain ⟨t, rfl⟩ := rx
  obtain ⟨t', rfl⟩ := ry
  exact rule i j t t' s _ _ ⟨.bl (g i j), H, I, rfl, q⟩
noncomputable def CDiv (i j : Int) : Prop := 0 < j ∧ j < 1073741824
noncomputable def CPow (i j : Int) : Prop := 0 ≤ j ∧ j ≤ 1000000 ∧ i.natAbs < 2 ^ 64
noncomputable def CMul (i j : Int) : Prop := (-(2 ^ 64) < i ∧ i < 2 ^ 64) ∨ (-(2 ^ 64) < j ∧ j < 2 ^ 64)
private theorem CMul.ok {i j : Int} (h : CMul i j) : IntMulOk i j := by
  rcases h with ⟨h1, h2⟩ | ⟨h1, h2⟩
  · exact .of_left (intBits_le_64 h1 h2)
  · exact .of_right (intBits_le_64 h1 h2)
private theorem op_add : OpR X (binaryOp .Add) (rI0 fun i j => .int (i + j)) := opI0 fun _ _ _ _ _ _ _ q => add_int q
private theorem op_sub : OpR X (binaryOp .Sub) (rI0 fun i j => .int (i - j)) := opI0 fun _ _ _ _ _ _ _ q => sub_int q
private theorem op_mul : OpR X (binaryOp .Mult) (rI CMul fun i j => .int (i * j)) := opI fun _ _ _ _ _ _ _ hc q => mul_int q hc.ok
private theorem op_fdiv : OpR X (binaryOp .FloorDiv) (rI CDiv fun i j => .int (i / j)) := opI fun i j _ _ _ _ _ hc q => by
  have h1 : (0 : Int) < j := hc.1
  have h2 : j < 1073741824 := hc.2
  exact floordiv_int (by omega) (by (first | exact ((Int.fdiv_eq_ediv_of_nonneg i (by omega)).trans (q)) | (rw [Int.fdiv_eq_ediv_of_nonneg i (by omega)]; exact q))) (.inl (PyProof.noPylong_small (by omega)))
private theorem op_mod : OpR X (binaryOp .Mod) (rI (fun _ j => 0 < j) fun i j => .int (i % j)) := opI fun i j _ _ _ _ _ hc q => by
  have h1 : (0 : Int) < j := hc
  exact mod_int' (by omega) (by (first | exact ((Int.fmod_eq_emod_of_nonneg i (by omega)).trans (q)) | (rw [Int.fmod_eq_emod_of_nonneg i (by omega)]; exact q)))
private theorem op_pow : OpR X (binaryOp .Pow) (rI CPow fun i j => .int (i ^ j.toNat)) := opI fun _ _ _ _ _ _ _ hc q => pow_int_small hc.1 hc.2.1 hc.2.2 q
private theorem unI {f : Value → Sem Value} {g : Int → Int}
    (rule : ∀ (i : Int) (t : Tok) (s : Shared) (Q : Value → Shared → Prop) (E : Value → Shared → Prop), Q (.int (g i) s.toks) { s with toks := s.toks + 1 } → wpAny (model X.prog X.w) X.A (f (.int i t)) Q E s) :
    UnR X f (rU fun i => .int (g i)) := by
  intro pins s σ H x v Q I rx h
  obtain ⟨i, rfl, q⟩ := h
  obtain ⟨t, rfl⟩ := rx
  exact rule i t s _ _ ⟨.int (g i), H, I.tok _, ⟨_, rfl⟩, q⟩
private theorem un_neg : UnR X (unaryOp .USub) (rU fun i => .int (-i)) := unI fun _ _ _ _ _ q => neg_int q
end
section
variable {X : Cx} {a b c : Expr} {ta tb tc : TE} {pos : Pos}
private theorem op_lt : OpR X (compareOp .Lt) (rI0 fun i j => .bl (decide (i < j))) := opB0 fun _ _ _ _ _ _ _ q => lt_int q
private theorem op_le : OpR X (compareOp .LtE) (rI0 fun i j => .bl (decide (i ≤ j))) := opB0 fun _ _ _ _ _ _ _ q => le_int q
private theorem op_ge : OpR X (compareOp .GtE) (rI0 fun i j => .bl (decide (j ≤ i))) := opB0 fun _ _ _ _ _ _ _ q => ge_int q
private theorem OpR.or {f : Value → Value → Sem Value} {r r' : R2} (h : OpR X f r) (h' : OpR X f r') : OpR X f (fun x y H Q => r x y H Q ∨ r' x y H Q) := by
  intro pins s σ H x y v u Q I rx ry q
  rcases q with q | q
  · exact h pins s σ H x y v u Q I rx ry q
  · exact h' pins s σ H x y v u Q I rx ry q
private theorem pe_cmpR {op : CmpOp} {r : R2} (ho : OpR X (compareOp op) r) (ha : PE X a ta) (hb : PE X b tb) (hm : behindInMarks op b = false) : PE X (.Compare a [op] [b] pos) (tOp r ta tb) := by
  intro pins s σ H Q I h
  exact wpAny_Compare1 (binT ha hb I h fun v u s2 x y H2 I2 rx ry q => ho pins s2 σ H2 x y v u Q I2 rx ry q) hm
noncomputable def tTest (t : TE) : TT := fun σ H Q => t σ H fun x H' => ∃ k, x = .bl k ∧ Q k H'
private theorem pt_cmpR {op : CmpOp} {r : R2} (ho : OpR X (compareOp op) r) (ha : PE X a ta) (hb : PE X b tb) (hm : behindInMarks op b = false) : PT X (.Compare a [op] [b] pos) (tTest (tOp r ta tb)) := by
  intro pins s σ H Q I h
  refine wpAny_isTrue_Compare1 (thn (ha pins s σ H _ I h) fun v s1 ⟨x, H1, I1, r1, q1⟩ => thn (hb pins s1 σ H1 _ I1 q1) fun u s2 ⟨y, H2, I2, r2, q2⟩ =>
    thn (ho pins s2 σ H2 x y v u _ I2 r1 r2 q2) fun c s3 ⟨z, H3, I3, r3, k, e, q3⟩ => ?_) hm
  subst e
  cases r3
  exact wpAny_truthy_bool ⟨H3, I3, q3⟩
noncomputable def tChain (r r' : R2) (ta tb tc : TE) : TE := fun σ H Q => ta σ H fun x H1 => tb σ H1 fun y H2 => r x y H2 fun z H3 => ∃ k, z = .bl k ∧
  (if k = true then tc σ H3 fun w' H4 => r' y w' H4 Q else Q (.bl false) H3)
private theorem pe_chain {op op' : CmpOp} {r r' : R2} (ho : OpR X (compareOp op) r) (ho' : OpR X (compareOp op') r') (ha : PE X a ta) (hb : PE X b tb) (hc : PE X c tc)
    (hm : autoParam (lastMarks [op, op'] [b, c] = false) PyProof.Rows.slice_list._auto_1) : PE X (.Compare a [op, op'] [b, c] pos) (tChain r r' ta tb tc) := by
  intro pins s σ H Q I h
  refine Compare_chain (thn (ha pins s σ H _ I h) fun v s1 ⟨x, H1, I1, r1, q1⟩ => chain_link (thn (hb pins s1 σ H1 _ I1 q1) fun u s2 ⟨y, H2, I2, r2, q2⟩ =>
    thn (ho pins s2 σ H2 x y v u _ I2 r1 r2 q2) fun d s3 ⟨z, H3, I3, r3, k, e, q3⟩ => ?_)) hm
  subst e
  cases r3
  refine wpAny_truthy_bool ?_
  cases k with
  | false => exact ite_ff ⟨.bl false, H3, I3, rfl, q3⟩
  | true => exact ite_tt (chain_last (thn (hc pins s3 σ H3 _ I3 q3) fun w' s4 ⟨z', H4, I4, r4, q4⟩ => ho' pins s4 σ H4 y z' u w' Q I4 r2 r4 q4))
private theorem line63 : (sizeLine : Nat) < 2 ^ 63 := by rw [sizeLine_eq]; decide
private theorem vals1 {x : V} {us : List Value} (r : Vals [x] us) : ∃ u, us = [u] ∧ RelV x u := by
  cases r with
  | cons r1 r2 => cases r2; exact ⟨_, rfl, r1⟩
private theorem vals2 {x y : V} {us : List Value} (r : Vals [x, y] us) : ∃ u w', us = [u, w'] ∧ RelV x u ∧ RelV y w' := by
  cases r with
  | cons r1 r2 =>
    cases r2 with
    | cons r3 r4 => cases r4; exact ⟨_, _, rfl, r1, r3⟩
private theorem call_max2 (hc : X.calm = true) : CallR X (.builtin "max") (fun xs H Q => ∃ i j, xs = [.int i, .int j] ∧ Q (.int (if j > i then j else i)) H) := by
  intro pins s σ H xs us Q I r h
  obtain ⟨i, j, rfl, q⟩ := h
  obtain ⟨u, w', rfl, ⟨t, rfl⟩, ⟨t', rfl⟩⟩ := vals2 r
  refine max_two_ints (I.ok.hd hc) fun h' tk k => ⟨_, H, I.kept k, ?_, q⟩
  by_cases hj : j > i
  · (first | exact ((if_pos hj).trans ((if_pos hj).trans (⟨_, rfl⟩))) | (rw [if_pos hj, if_pos hj]; exact ⟨_, rfl⟩))
  · (first | exact ((if_neg hj).trans ((if_neg hj).trans (⟨_, rfl⟩))) | (rw [if_neg hj, if_neg hj]; exact ⟨_, rfl⟩))
private theorem call_min2 (hc : X.calm = true) : CallR X (.builtin "min") (fun xs H Q => ∃ i j, xs = [.int i, .int j] ∧ Q (.int (if j < i then j else i)) H) := by
  intro pins s σ H xs us Q I r h
  obtain ⟨i, j, rfl, q⟩ := h
  obtain ⟨u, w', rfl, ⟨t, rfl⟩, ⟨t', rfl⟩⟩ := vals2 r
  refine min_two_ints (I.ok.hd hc) fun h' tk k => ⟨_, H, I.kept k, ?_, q⟩
  by_cases hj : j < i
  · (first | exact ((if_pos hj).trans ((if_pos hj).trans (⟨_, rfl⟩))) | (rw [if_pos hj, if_pos hj]; exact ⟨_, rfl⟩))
  · (first | exact ((if_neg hj).trans ((if_neg hj).trans (⟨_, rfl⟩))) | (rw [if_neg hj, if_neg hj]; exact ⟨_, rfl⟩))
end
end L2
namespace L2
open PySem PySem.Spec PyProof.Rows
structure ObjM (h : Heap) (x dx C : Addr) (mA : Str → Option Value) : Prop where
  obj : h.get? x = some (PySem.W.instObj C dx)
  ns : h.Ns1 dx mA
  ne : dx ≠ x
private theorem lookIn_ns {h : Heap} {dx : Addr} {mA : Str → Option Value} (n : h.Ns1 dx mA) : ∃ od, h.get? dx = some od ∧ ∀ name, PySem.W.lookIn name od = some (mA name) := by
  obtain ⟨o, es, ep, ho, hd, hk, _, hm⟩ := n
  refine ⟨o, ho, fun name => ?_⟩
  have e := hm name
  unfold nsFind findBy at e
  rw [← Array.find?_toList] at e
  unfold PySem.W.lookIn
  rw [hd]
  dsimp only
  split
  · rename_i y q
    rw [q] at e
    exact congrArg some e
  · rename_i q
    rw [q] at e
    have a : es.toList.any (·.refKey) = false := by
      rw [List.any_eq_false]
      intro y hy
      obtain ⟨z, t, hkey⟩ := hk y (Array.mem_toList_iff.mp hy)
      simp [DictEntry.refKey, hkey]
    have a' : ¬ es.toList.any (·.refKey) = true := by (first | exact ((a).trans (Bool.false_ne_true)) | (rw [a]; exact Bool.false_ne_true))
    rw [if_neg a']
    exact congrArg some e
private theorem ObjM.look {h : Heap} {x dx C : Addr} {mA : Str → Option Value} (I : ObjM h x dx C mA) : ∃ od, PySem.W.InstAt h x (PySem.W.instObj C dx) C (some od) ∧ ∀ name, PySem.W.lookIn name od = some (mA name) :=
  let ⟨od, ho, hl⟩ := lookIn_ns I.ns
  ⟨od, ⟨I.obj, rfl, rfl, ho⟩, hl⟩
section
variable {prog : Program} {w : World} {A : Around} {E : Value → Shared → Prop} {s : Shared} {K : PySem.W.Frag} {x dx C f : Addr} {mA : Str → Option Value} {name : Str} {v : Value}
end
section
variable {P : Program} {w : World} {H H' : Hp} {h h' : Heap} {a C dx : Addr} {fs fs' : List (Str × V)}
private theorem ins_get (hok : HOk P w H h) (e : H a = some (.ins C dx fs)) : ∃ mA, ObjM h a dx C mA ∧ (∀ f, RelO (fs.lookup f) (mA f)) ∧ PySem.Within mA (fs.map (·.1)) ∧ fs.length ≤ 1000 ∧ H dx = some (.own a) := by
  obtain ⟨d, z, ne, ob, mA, n, r, q⟩ := (show ObjOk P w H h a (.ins C dx fs) from hok a _ e)
  exact ⟨mA, ⟨ob, n, ne⟩, r, q, z, d⟩
end
structure Cls (K : PySem.W.Frag) (C : Addr) : Prop where
  pg : PySem.W.plainGet K C Str.empty = true
  hd : PySem.W.hasDictIn K C = true
  po : PySem.W.plainOver K C = true
  sa : PySem.W.findIn K (.ref C) "__setattr__" = some (some (.builtin "object.__setattr__"))
private theorem Cls.get {K : PySem.W.Frag} {C : Addr} (c : Cls K C) (f : Str) : PySem.W.plainGet K C f = true := c.pg
section
variable {X : Cx} {pins : List (Addr × Obj)} {σ : St} {H : Hp} {s : Shared} {a C dx : Addr} {fs : List (Str × V)} {f : Str} {v : V} {A : Around} {E : Value → Shared → Prop}
end
section
variable {X : Cx} {o e value : Expr} {f : Str} {pos pos' tpos : Pos} {ta tv : TE}
end
section
variable {X : Cx} {pins : List (Addr × Obj)} {σ : St} {H : Hp} {s : Shared} {A : Around} {E : Value → Shared → Prop} {Q : Value → Shared → Prop} {c : Value} {b : Bool}
inductive TyOf (K : PySem.W.Frag) (H : Hp) : V → Value → Prop where
  | non : TyOf K H .non (.type "NoneType")
  | bl (x : Bool) : TyOf K H (.bl x) (.type "bool")
  | int (i : Int) : TyOf K H (.int i) (.type "int")
  | str (x : Str) : TyOf K H (.str x) (.type "str")
  | flt (x : UInt64) : TyOf K H (.flt x) (.type "float")
  | lst {a : Addr} {xs : List V} (e : H a = some (.lst xs)) : TyOf K H (.ref a) (.type "list")
  | frz {a : Addr} {o : Obj} {xs : List V} (e : H a = some (.frz o (.lst xs))) : TyOf K H (.ref a) (.type "list")
  | tup {a : Addr} {xs : List V} (e : H a = some (.tup xs)) : TyOf K H (.ref a) (.type "tuple")
  | dK {a : Addr} {kvs : List (Key × V)} (e : H a = some (.dK kvs)) : TyOf K H (.ref a) (.type "dict")
  | dT {a : Addr} {kvs : List (List Key × V)} (e : H a = some (.dT kvs)) : TyOf K H (.ref a) (.type "dict")
  | ins {a C dx : Addr} {fs : List (Str × V)} (e : H a = some (.ins C dx fs)) (cl : Cls K C) (ha : PySem.W.findIn K (.ref C) "__class__" = some (some (.builtin "object.__class__")))
      (hn : PySem.W.specialIn K (.builtin "object.__class__") "__get__" = some (some (.builtin "getset_descriptor.__get__"))) (htk : PySem.W.takesIn K (.builtin "object.__class__") = some true)
      (hm : PySem.W.mroIn K C (.type "object") = some true) : TyOf K H (.ref a) (.ref C)
private theorem isinst_ok {x : V} {u t : Value} (I : Inv X pins σ H s) (rx : RelV x u) (ty : TyOf X.K H x t) (e : PySem.W.kitOne X.K t c = some b) (h : ∀ tk, Q (.bool b) { s with toks := tk }) :
    wpAny (model X.prog X.w) A (call (.builtin "isinstance") [u, c]) Q E s := by
  cases ty with
  | non => cases (show u = Value.none from rx); exact PySem.W.kia_one PySem.W.kitx_none I.kIn True.intro e (fun z => nomatch z) h
  | bl y => cases (show u = Value.bool y from rx); exact PySem.W.kia_one PySem.W.kitx_bool I.kIn True.intro e (fun z => nomatch z) h
  | int i => obtain ⟨t, q⟩ := (show ∃ t, u = Value.int i t from rx); cases q; exact PySem.W.kia_one PySem.W.kitx_int I.kIn True.intro e (fun z => nomatch z) h
  | str y => obtain ⟨t, q⟩ := (show ∃ t, u = Value.str y t from rx); cases q; exact PySem.W.kia_one PySem.W.kitx_str I.kIn True.intro e (fun z => nomatch z) h
  | flt y => obtain ⟨t, q⟩ := (show ∃ t, u = Value.float y t from rx); cases q; exact PySem.W.kia_one PySem.W.kitx_float I.kIn True.intro e (fun z => nomatch z) h
  | @lst a xs ea =>
    cases (show u = Value.ref a from rx)
    obtain ⟨_, _, n, _, h1⟩ := (show ObjOk X.prog X.w H s.heap a (.lst xs) from I.hok a _ ea)
    exact PySem.W.kia_one PySem.W.kitx_list I.kIn ⟨_, h1, rfl⟩ e (fun z => nomatch z) h
  | @frz a ob xs ea =>
    cases (show u = Value.ref a from rx)
    obtain ⟨_, _, _, n, _, h1⟩ := (show ObjOk X.prog X.w H s.heap a (.frz ob (.lst xs)) from I.hok a _ ea)
    exact PySem.W.kia_one PySem.W.kitx_list I.kIn ⟨_, h1, rfl⟩ e (fun z => nomatch z) h
  | @tup a xs ea =>
    cases (show u = Value.ref a from rx)
    obtain ⟨_, _, _, p⟩ := (show ObjOk X.prog X.w H s.heap a (.tup xs) from I.hok a _ ea)
    obtain ⟨o, h1, h2, _⟩ := p
    exact PySem.W.kia_one PySem.W.kitx_tuple I.kIn ⟨o, h1, h2.1⟩ e (fun z => nomatch z) h
  | @dK a kvs ea =>
    cases (show u = Value.ref a from rx)
    obtain ⟨_, _, vs, _, p⟩ := (show ObjOk X.prog X.w H s.heap a (.dK kvs) from I.hok a _ ea)
    obtain ⟨o, es, ep, h1, h2, _⟩ := p
    exact PySem.W.kia_one PySem.W.kitx_dict I.kIn ⟨o, h1, h2.1⟩ e (fun z => nomatch z) h
  | @dT a kvs ea =>
    cases (show u = Value.ref a from rx)
    obtain ⟨_, _, xs, _, o, es, ep, h1, h2, _⟩ := (show ObjOk X.prog X.w H s.heap a (.dT kvs) from I.hok a _ ea)
    exact PySem.W.kia_one PySem.W.kitx_dict I.kIn ⟨o, h1, h2.1⟩ e (fun z => nomatch z) h
  | @ins a C dx fs ea cl ha hn htk hm =>
    cases (show u = Value.ref a from rx)
    obtain ⟨mA, O, _⟩ := ins_get I.hok ea
    obtain ⟨od, J, _⟩ := O.look
    exact PySem.W.kia_one (PySem.W.kitx_own (cl.get _) cl.hd ha hn htk hm) I.kIn J e (fun z => nomatch z) h
end
end L2
namespace L2
open PySem PySem.Spec PyProof.Rows
structure Room (k : Nat) (A : Around) : Prop where
  hd : A.handled = none
  dp : A.depth + 3 * k + 5 < recursionLimit
  un : A.units + 16 * k + 200 < cLine
private theorem Room.mono {j k : Nat} {A : Around} (r : Room k A) (h : j ≤ k) : Room j A := ⟨r.hd, by have := r.dp; omega, by have := r.un; omega⟩
private theorem Room.deeper {k : Nat} {A : Around} (r : Room (k + 1) A) (env : Env) : Room k (A.deeper env) :=
  ⟨r.hd, by have := r.dp; show A.depth + 1 + 3 * k + 5 < _; omega, by have := r.un; show A.units + 3 + 16 * k + 200 < _; omega⟩
private theorem Room.depth {k : Nat} {A : Around} (r : Room k A) : A.depth < recursionLimit := by have := r.dp; omega
private theorem Room.units {k : Nat} {A : Around} (r : Room k A) : A.units + 64 < cLine := by have := r.un; omega
noncomputable def tNil : TA := fun _ H Q => Q [] H
noncomputable def tCons (ta : TE) (tr : TA) : TA := fun σ H Q => ta σ H fun x H1 => tr σ H1 fun xs H2 => Q (x :: xs) H2
section
variable {X : Cx} {e : Expr} {es : List Expr} {te : TE} {t : TA} {pos : Pos}
private theorem pa_nil : PA X [] tNil := fun _ _ _ _ H Q I h => Calls.spliced_nil ⟨[], H, I, .nil, h⟩
private theorem pa_cons (ha : PE X e te) (hr : PA X es t) (hs : autoParam (starEach (e :: es) X.env = (false, eval e X.env) :: starEach es X.env) PyProof.Rows.call_M_of_MD._auto_3) : PA X (e :: es) (tCons te t) := by
  intro pos pins s σ H Q I h
  rw [hs]
  show wpAny _ _ (spliced ((false, eval e X.env) :: backTo pos (starEach es X.env))) _ _ s
  refine Calls.spliced_cons (thn (ha pins s σ H _ I h) fun u s1 ⟨x, H1, I1, r1, q1⟩ => ?_)
  exact thn (hr pos pins s1 σ H1 _ I1 q1) fun us s2 ⟨xs, H2, I2, r2, q2⟩ => ⟨x :: xs, H2, I2, .cons r1 r2, q2⟩
noncomputable def tTup (t : TA) : TE := fun σ H Q => t σ H fun xs H1 => xs.length ≤ sizeLine ∧ ∀ p, H1 p = none → Q (.ref p) (upd H1 p (.tup xs))
noncomputable def tLst (t : TA) : TE := fun σ H Q => t σ H fun xs H1 => xs.length ≤ sizeLine ∧ ∀ p, H1 p = none → Q (.ref p) (upd H1 p (.lst xs))
private theorem pe_tup {x1} (h : PA X es t) : PE X (.Tuple es x1 pos) (tTup t) := by
  intro pins s σ H Q I hq
  refine wpAny_Tuple_spliced (thn (h pos pins s σ H _ I hq) fun us s1 ⟨xs, H1, I1, r, z, q⟩ => ⟨by rw [← r.length]; exact z, ?_⟩)
  have hf : H1 s1.heap.objs.size = none := I1.hok.fresh (Nat.le_refl _)
  refine ⟨.ref s1.heap.objs.size, upd H1 s1.heap.objs.size (.tup xs), I1.laid (t' := s1.toks) (fun b u e => Heap.get?_push_of_some _ e) (Nat.le_refl _) ?_, rfl, q _ hf⟩
  exact ⟨z, us, r, ⟨_, Heap.get?_push_size _ rfl, ⟨rfl, rfl⟩, _, rfl⟩⟩
private theorem pe_lst (h : PA X es t) : PE X (.List es pos) (tLst t) := by
  intro pins s σ H Q I hq
  refine wpAny_List_spliced (thn (h pos pins s σ H _ I hq) fun us s1 ⟨xs, H1, I1, r, z, q⟩ => ⟨by rw [← r.length]; exact z, ?_⟩)
  have hf : H1 s1.heap.objs.size = none := I1.hok.fresh (Nat.le_refl _)
  refine ⟨.ref s1.heap.objs.size, upd H1 s1.heap.objs.size (.lst xs), I1.laid (t' := s1.toks) (fun b u e => Heap.get?_push_of_some _ e) (Nat.le_refl _) ?_, rfl, q _ hf⟩
  exact ⟨z, us, 0, r, Heap.get?_push_size _ rfl⟩
end
noncomputable abbrev Sp := List V → Hp → VK → XK → Prop
noncomputable abbrev CXT := List Env → Hp → Shared → XK → Value → Shared → Prop
structure Env0 (P : Program) (w : World) (K : PySem.W.Frag) (mg : Str → Option Value) (base : Heap) (A : Around) (outer : List Env) (s : Shared) (H : Hp) : Prop where
  frames : A.frames = some outer
  mod : Mod K mg base
  bs : ∀ b o, base.get? b = some o → s.heap.get? b = some o ∧ H b = none
  bsz : base.objs.size ≤ s.heap.objs.size
  funs : s.heap.FunFrames base outer
  frf : ∀ b ∈ frs outer, H b = none
  hok : HOk P w H s.heap
  bare : AllBare s.gens
inductive CE (outer : List Env) (P : Program) (w : World) (H : Hp) (s : Shared) (Q : VK) (u : Value) (s' : Shared) : Prop
  | mk (v : V) (H' : Hp) (os : s'.os = s.os) (b : AllBare s'.gens) (un : Un (frs outer) [] H H' s.heap s'.heap) (hk : HOk P w H' s'.heap) (r : RelV v u) (q : Q v H')
noncomputable def CR (CX : CXT) (outer : List Env) (P : Program) (w : World) (H : Hp) (s : Shared) (Q : VK) (E : XK) (r : Result) (s' : Shared) : Prop :=
  match r with
  | .ok (.ret u) => CE outer P w H s Q u s'
  | .ok _ => False
  | .error e => CX outer H s E e s'
structure FnOk (P : Program) (w : World) (K : PySem.W.Frag) (mg : Str → Option Value) (base : Heap) (CX : CXT) (k : Nat) (f : Addr) (fd : FuncData) (ps : List Str) (sp : Sp) : Prop where
  len : ∀ vs H Q E, sp vs H Q E → vs.length = ps.length
  run : ∀ (A : Around) (outer : List Env) (s : Shared) (H : Hp) (args : Args) (us : List Value) (vs : List V) (Q : VK) (E : XK), Room k A → Env0 P w K mg base A outer s H → BindsTo s fd args (ps.zip us) → Vals vs us → sp vs H Q E →
    codeAny (model P w) A (.call (.ref f) args) (CR CX outer P w H s Q E) s
private theorem FnOk.mono {P : Program} {w : World} {K : PySem.W.Frag} {mg : Str → Option Value} {base : Heap} {CX : CXT} {j k : Nat} {f : Addr} {fd : FuncData} {ps : List Str} {sp : Sp} (F : FnOk P w K mg base CX j f fd ps sp) (h : j ≤ k) :
    FnOk P w K mg base CX k f fd ps sp := ⟨F.len, fun A outer s H args us vs Q E hr => F.run A outer s H args us vs Q E (hr.mono h)⟩
private theorem FnOk.imp {P : Program} {w : World} {K : PySem.W.Frag} {mg : Str → Option Value} {base : Heap} {CX : CXT} {k : Nat} {f : Addr} {fd : FuncData} {ps : List Str} {sp sp' : Sp} (F : FnOk P w K mg base CX k f fd ps sp)
    (h : ∀ vs H Q E, sp' vs H Q E → sp vs H Q E) : FnOk P w K mg base CX k f fd ps sp' :=
  ⟨fun vs H Q E q => F.len vs H Q E (h _ _ _ _ q), fun A outer s H args us vs Q E hr he hb hv hs => F.run A outer s H args us vs Q E hr he hb hv (h _ _ _ _ hs)⟩
section
variable {X : Cx} {pins : List (Addr × Obj)} {σ : St} {H : Hp} {s s' : Shared}
private theorem Inv.env0 (I : Inv X pins σ H s) : Env0 X.prog X.w X.K X.mg X.base X.A X.stack s H :=
  ⟨I.ok.frames, I.ok.mod, I.bs, Nat.le_trans I.ok.bsz I.sz, I.stack, I.stkFree, I.hok, I.bare⟩
private theorem Inv.after {Q : VK} {u : Value} (I : Inv X pins σ H s) (h : CE X.stack X.prog X.w H s Q u s') : EP X pins σ Q u s' := by
  obtain ⟨v, H', os, bare, un, hok, r, q⟩ := h
  obtain ⟨hh, g, d, t, os'⟩ := s'
  obtain rfl : os' = s.os := os
  exact ⟨v, H', I.call (h' := hh) (g' := g) (d' := d) (t' := t) (ch := []) un hok bare (fun b z => absurd z (by simp)), r, q⟩
end
noncomputable def tCall (sp : Sp) (dvs : List V) (E : XK) (t : TA) : TE := fun σ H Q => t σ H fun vs H1 => sp (vs ++ dvs) H1 Q E
noncomputable def Binds (K : PySem.W.Frag) (fd : FuncData) (ps : List Str) (ds : List Value) : Prop :=
  ∀ (s : Shared) (us : List Value), K.In s.heap → (us ++ ds).length = ps.length → BindsTo s fd ⟨us, []⟩ (ps.zip (us ++ ds))
private theorem Binds.all {K : PySem.W.Frag} {fd : FuncData} {ps : List Str} (h : ∀ us : List Value, us.length = ps.length → bindArgs fd ⟨us, []⟩ = pure (ps.zip us)) : Binds K fd ps [] := fun s us _ hl => by
  rw [List.append_nil] at hl ⊢
  exact .of_eq (h us hl)
noncomputable def Passes (CX : CXT) (X : Cx) (E : XK) : Prop := ∀ (pins : List (Addr × Obj)) (σ : St) (H : Hp) (s : Shared) (e : Value) (s' : Shared), Inv X pins σ H s → CX X.stack H s E e s' → X.xe e s'
section
variable {X : Cx} {CX : CXT} {k : Nat} {f C : Addr} {fd : FuncData} {ps : List Str} {sp : Sp} {dvs : List V} {ds : List Value} {E : XK} {x m : Str} {p pos apos : Pos} {e o : Expr} {es : List Expr} {ta : TE} {t : TA}
private theorem run_fn {pins : List (Addr × Obj)} {σ : St} {H : Hp} {s : Shared} {Q : VK} {us : List Value} {vs : List V} (F : FnOk X.prog X.w X.K X.mg X.base CX k f fd ps sp) (hr : Room k X.A) (hb : Binds X.K fd ps ds) (hd : Vals dvs ds) (hx : Passes CX X E)
    (I : Inv X pins σ H s) (r : Vals vs us) (h : sp (vs ++ dvs) H Q E) : wpAny (model X.prog X.w) X.A (call (.ref f) us) (EP X pins σ Q) X.xe s := by
  have r2 : Vals (vs ++ dvs) (us ++ ds) := r.append hd
  have hl : (us ++ ds).length = ps.length := by rw [← r2.length]; exact F.len _ _ _ _ h
  refine wpAny_call (codeAny_mono (F.run X.A X.stack s H ⟨us, []⟩ (us ++ ds) (vs ++ dvs) Q E hr I.env0 (hb s us I.kIn hl) r2 h) fun r s' hq => ?_)
  cases r with
  | error e => exact hx pins σ H s e s' I hq
  | ok fl =>
    cases fl with
    | ret u => exact I.after hq
    | next => exact False.elim hq
    | brk => exact False.elim hq
    | cont => exact False.elim hq
private theorem pe_call (F : FnOk X.prog X.w X.K X.mg X.base CX k f fd ps sp) (hr : Room k X.A) (hg : Gl X x) (hm : X.mg x = some (.ref f)) (hk : PySem.W.keepIn X.K (.ref f) = true) (hb : Binds X.K fd ps ds) (hd : Vals dvs ds) (hx : Passes CX X E)
    (ha : PA X (e :: es) t) (hdb : autoParam ((x == ("__debug__" : Str)) = false) PyProof.Rows.glB_def._auto_7) (he : autoParam (starEach (e :: es) X.env = (false, eval e X.env) :: starEach es X.env) PyProof.Rows.call_M_of_MD._auto_3) (hpl : autoParam ((backTo pos (starEach es X.env)).any (·.1) = false) PyProof.Rows.call_M_of_MD._auto_3) :
    PE X (.Call (.Name x p) (e :: es) [] pos) (tCall sp dvs E t) := by
  intro pins s σ H Q I h
  refine wpAny_Call_Name_kw (ld_glob I hg hm ?_ hdb)
  refine PySem.W.callWith_K (h₀ := X.base) I.ok.mod.kin hk (thn (ha pos pins s σ H _ I h) fun us s1 ⟨vs, H1, I1, r, q⟩ => ⟨I1.kIn, ?_⟩) he hpl
  exact run_fn F hr hb hd hx I1 r q
end
section
variable {X : Cx} {CX : CXT} {k : Nat} {f C : Addr} {fd : FuncData} {ps ks : List Str} {sp : Sp} {E : XK} {x m : Str} {p pos apos kpos : Pos} {e o : Expr} {es : List Expr} {kws : List Keyword} {te ta : TE} {t tk : TA} {nm : Option Str}
variable {g : List Value → List Value → List Value} {gV : List V → List V → List V}
end
structure FnScope (N P : List Str) (sc : Scope) : Prop where
  kind : sc.kind = .function
  co : sc.isCoroutine = false
  gen : sc.isGenerator = false
  nd : N.Nodup
  pre : N.take P.length = P
  par : ∀ x ∈ P, sc.names.lookup x = some .local ∨ sc.names.lookup x = some .cell
  nofree : ∀ y ∈ sc.names, y.2 ≠ .free
private theorem bindL_out {kindOf : Str → Option NameKind} {x : Str} : ∀ {binds : List (Str × Value)} {m : Str → Option Value}, (∀ v, (x, v) ∉ binds) → bindL kindOf binds m x = m x
  | [], _, _ => rfl
  | (n, v) :: r, m, h => by
    unfold bindL
    rw [bindL_out fun w hw => h w (List.mem_cons_of_mem _ hw)]
    split
    · have : x ≠ n := by rintro rfl; exact h v List.mem_cons_self
      simp [this]
    · rfl
private theorem bindC_out {kindOf : Str → Option NameKind} {x : Str} : ∀ {binds : List (Str × Value)} {m : Str → Option Value}, (∀ v, (x, v) ∉ binds) → bindC kindOf binds m x = m x
  | [], _, _ => rfl
  | (n, v) :: r, m, h => by
    unfold bindC
    rw [bindC_out fun w hw => h w (List.mem_cons_of_mem _ hw)]
    split
    · rfl
    · have : x ≠ n := by rintro rfl; exact h v List.mem_cons_self
      simp [this]
private theorem bindL_get {kindOf : Str → Option NameKind} {x : Str} {v : Value} : ∀ {P : List Str} {vs : List Value} {i : Nat} {m : Str → Option Value}, P.Nodup → P[i]? = some x → vs[i]? = some v → kindOf x = some .local →
    bindL kindOf (P.zip vs) m x = some v
  | [], _, _, _, _, h, _, _ => by simp at h
  | _ :: _, [], _, _, _, _, h, _ => by simp at h
  | p :: P, w :: vs, 0, m, nd, h1, h2, hk => by
    simp at h1 h2; subst h1; subst h2
    show bindL kindOf ((p, w) :: P.zip vs) m p = _
    unfold bindL
    rw [bindL_out fun v hv => (List.nodup_cons.mp nd).1 (List.of_mem_zip hv).1, if_pos hk]
    simp
  | p :: P, w :: vs, i + 1, m, nd, h1, h2, hk => by
    show bindL kindOf ((p, w) :: P.zip vs) m x = _
    unfold bindL
    exact bindL_get (i := i) (List.nodup_cons.mp nd).2 (by simpa using h1) (by simpa using h2) hk
private theorem bindC_get {kindOf : Str → Option NameKind} {x : Str} {v : Value} : ∀ {P : List Str} {vs : List Value} {i : Nat} {m : Str → Option Value}, P.Nodup → P[i]? = some x → vs[i]? = some v → kindOf x ≠ some .local →
    bindC kindOf (P.zip vs) m x = some v
  | [], _, _, _, _, h, _, _ => by simp at h
  | _ :: _, [], _, _, _, _, h, _ => by simp at h
  | p :: P, w :: vs, 0, m, nd, h1, h2, hk => by
    simp at h1 h2; subst h1; subst h2
    show bindC kindOf ((p, w) :: P.zip vs) m p = _
    unfold bindC
    rw [bindC_out fun v hv => (List.nodup_cons.mp nd).1 (List.of_mem_zip hv).1, if_neg hk]
    simp
  | p :: P, w :: vs, i + 1, m, nd, h1, h2, hk => by
    show bindC kindOf ((p, w) :: P.zip vs) m x = _
    unfold bindC
    exact bindC_get (i := i) (List.nodup_cons.mp nd).2 (by simpa using h1) (by simpa using h2) hk
noncomputable def start (N : List Str) (vs : List V) : St := vs.map some ++ List.replicate (N.length - vs.length) none
noncomputable def cxOf (CX : CXT) (P : Program) (w : World) (K : PySem.W.Frag) (mg : Str → Option Value) (base : Heap) (N : List Str) (qual : Str) (scope : Scope) (f : Addr) (cd : Value) (A : Around) (outer : List Env) (s : Shared) (H : Hp) (E : XK) : Cx where
  prog := P
  w := w
  K := K
  mg := mg
  base := base
  A := A.deeper (envOfC qual scope s.heap.objs.size f cd)
  N := N
  s0 := s
  H0 := H
  env := envOfC qual scope s.heap.objs.size f cd
  outer := outer
  stack := envOfC qual scope s.heap.objs.size f cd :: outer
  ex := []
  calm := true
  fn := fun _ => true
  pn := []
  xe := fun e s' => wpAny (model P w) (A.deeper (envOfC qual scope s.heap.objs.size f cd)) (leaving (envOfC qual scope s.heap.objs.size f cd) e) (fun _ s'' => CX outer H s E e s'') (fun e' s'' => CX outer H s E e' s'') s'
private theorem cell_has {sc : Scope} {n : Nat} {x : Str} (h : sc.names.lookup x = some .cell) : ∃ c, (cellsFrom n sc.names []).lookup x = some c := by
  have q := PySem.W.cellsFrom_some sc.names n [] (.inl h)
  exact Option.isSome_iff_exists.mp q
private theorem inv_start {CX : CXT} {P : Program} {w : World} {K : PySem.W.Frag} {mg : Str → Option Value} {base : Heap} {N ps : List Str} {qual : Str} {scope : Scope} {f : Addr} {cd : Value} {A : Around} {outer : List Env} {s s1 : Shared} {H : Hp} {E : XK} {us : List Value} {vs : List V}
    (S : FnScope N ps scope) (hd : A.handled = none) (e0 : Env0 P w K mg base A outer s H) (hl : vs.length = ps.length) (r : Vals vs us)
    (x : InCallC s s.heap.objs.size (bindL (envOfC qual scope s.heap.objs.size f cd).kindOf (ps.zip us) fun _ => none) (cellsFrom (s.heap.objs.size + 1) scope.names []) (bindC (envOfC qual scope s.heap.objs.size f cd).kindOf (ps.zip us) fun _ => none) s1) :
    Inv (cxOf CX P w K mg base N qual scope f cd A outer s H E) [] (start N vs) H s1 := by
  have hpl : ps.length ≤ N.length := by have := congrArg List.length S.pre; rw [List.length_take] at this; omega
  obtain ⟨h1, tk, rfl, hk⟩ := x.done
  have noA : ∀ b : Addr, b ∉ (cxOf CX P w K mg base N qual scope f cd A outer s H E).ex := fun b z => absurd (show b ∈ ([] : List Addr) from z) (by simp)
  refine ⟨⟨e0.mod, S.kind, rfl, rfl, Nat.le_refl _, fun y z c h1 h2 => ?_, fun y hy => ?_, fun y c _ h => ?_, fun _ => hd, Around.frames_deeper e0.frames, .inr ⟨rfl, rfl⟩, fun b z => absurd z (noA b), e0.bs, e0.bsz, fun b _ _ => noA b, fun b z => absurd z (noA b), e0.funs, e0.frf⟩,
    rfl, e0.bare, Un.kept hk, ⟨_, x.toInCall.ns, fun i y v h1 h2 h3 => ?_⟩, fun y c h => ⟨_, x.cell y c h⟩, e0.hok.fresh (Nat.le_refl _), fun y c h => ?_, fun p hp => absurd (show p ∈ ([] : List (Addr × Obj)) from hp) (by simp), e0.hok.kept hk, ?_⟩
  · exact name_of_addr x.apart (PySem.mem_of_lookup h1) (PySem.mem_of_lookup h2)
  · have hy : scope.names.lookup y = some .cell ∨ scope.names.lookup y = some .free := hy
    rcases hy with hy | hy
    · exact cell_has hy
    · exact absurd rfl (S.nofree _ (PySem.mem_of_lookup hy))
  · exact Nat.le_of_lt (x.above y c (PySem.mem_of_lookup h))
  · have hi : i < vs.length := by
      unfold start at h2
      by_cases hi : i < vs.length
      · exact hi
      · rw [List.getElem?_append_right (by simpa using hi)] at h2
        rw [List.getElem?_replicate] at h2
        split at h2 <;> cases h2
    have ha : vs[i]? = some v := by
      unfold start at h2
      rw [List.getElem?_append_left (by simpa using hi), List.getElem?_map] at h2
      revert h2; cases e : vs[i]? with
      | none => intro h2; cases h2
      | some a => intro h2; cases h2; rfl
    obtain ⟨u, hu, rv⟩ := r.get ha
    have hp : ps[i]? = some y := by
      rw [← S.pre, List.getElem?_take_of_lt (by omega)]; exact h1
    have ndP : ps.Nodup := by rw [← S.pre]; exact S.nd.sublist (List.take_sublist _ _)
    refine ⟨u, rv, ?_⟩
    rcases S.par y (List.mem_of_getElem? hp) with k | k
    · exact .inl ⟨k, bindL_get ndP hp hu k⟩
    · obtain ⟨c, e⟩ := cell_has (n := s.heap.objs.size + 1) k
      refine .inr ⟨.inl k, c, e, ?_⟩
      have q := x.cell y c e
      rw [bindC_get ndP hp hu (by show scope.names.lookup y ≠ _; rw [k]; decide)] at q
      exact q
  · exact e0.hok.fresh (Nat.le_of_lt (x.above y c (PySem.mem_of_lookup h)))
  · unfold start
    show _ = N.length
    rw [List.length_append, List.length_map, List.length_replicate]
    omega
private theorem fn_of {CX : CXT} {P : Program} {w : World} {K : PySem.W.Frag} {mg : Str → Option Value} {base : Heap} {k : Nat} {f : Addr} {name qual : Str} {params : Arguments} {body : List Stmt} {scope : Scope} {dV kV doc pm cdv ct oc : Value} {an od : Option Addr}
    {osl : Array (Option Value)} {N ps : List Str} {sp : Sp} (lk : K.lookup f = some ⟨oc, od, .func (PySem.W.fnOf name qual params body scope dV kV doc pm an cdv ct), osl⟩) (hcd : PySem.W.codeIn K cdv qual = true) (S : FnScope N ps scope)
    (len : ∀ vs H Q E, sp vs H Q E → vs.length = ps.length)
    (hbody : ∀ (A : Around) (outer : List Env) (s : Shared) (H : Hp) (vs : List V) (Q : VK) (E : XK), Room k (A.deeper (envOfC qual scope s.heap.objs.size f cdv)) → sp vs H Q E →
      ∃ t, PSs (cxOf CX P w K mg base N qual scope f cdv A outer s H E) body t ∧ t { nx := fun _ H' => Q .non H', rt := Q } (start N vs) H) :
    FnOk P w K mg base CX (k + 1) f (PySem.W.fnOf name qual params body scope dV kV doc pm an cdv ct) ps sp := by
  refine ⟨len, fun A outer s H args us vs Q E hr e0 hb r hsp => ?_⟩
  have hl := len _ _ _ _ hsp
  have KX : K.In s.heap := e0.mod.kin.keeps fun b o e => (e0.bs b o e).1
  have lim : s.heap.NoLimit := e0.mod.nolimit.keeps fun b o e => (e0.bs b o e).1
  have hkind : ∀ y ∈ ps.zip us, scope.names.lookup y.1 = some .local ∨ (scope.names.lookup y.1 = some .cell ∧ ((cellsFrom (s.heap.objs.size + 1) scope.names []).lookup y.1).isSome = true) := fun ⟨n, v⟩ hy => by
    rcases S.par n (List.of_mem_zip hy).1 with q | q
    · exact .inl q
    · exact .inr ⟨q, PySem.W.cellsFrom_some _ _ _ (.inl q)⟩
  refine codeAny_call_function hr.depth (KX _ _ lk) rfl S.co S.gen rfl (PySem.W.codeRec_of KX hcd) (hb _ _ _ _ ?_)
  refine wpAny_newFunctionEnv_cells S.kind hkind fun env he s1 x => ?_
  subst he
  refine ⟨lim.keeps x.toInCall.keep, codeAny_func ?_⟩
  obtain ⟨t, ht, hq⟩ := hbody A outer s H vs Q E (hr.deeper _) hsp
  have I : Inv (cxOf CX P w K mg base N qual scope f cdv A outer s H E) [] (start N vs) H s1 := inv_start S hr.hd e0 hl r x
  refine wpAny_mono (ht [] s1 (start N vs) H _ I hq) (fun fl s' hs => ?_) fun e s' hs => hs
  have fin : ∀ {σ' : St} {H' : Hp} {v : V} {u : Value}, Inv (cxOf CX P w K mg base N qual scope f cdv A outer s H E) [] σ' H' s' → RelV v u → Q v H' → CE outer P w H s Q u s' :=
    fun {σ' H' v u} J rv q => ⟨v, H', J.os, J.bare, J.base, J.hok, rv, q⟩
  cases fl with
  | ret u =>
    obtain ⟨v, σ', H', J, rv, q⟩ := hs
    exact fin J rv q
  | next =>
    obtain ⟨σ', H', J, q⟩ := hs
    exact fin (v := V.non) (u := Value.none) J rfl q
  | brk =>
    obtain ⟨_, _, _, q⟩ := hs
    exact False.elim q
  | cont =>
    obtain ⟨_, _, _, q⟩ := hs
    exact False.elim q
end L2
namespace L2
open PySem PySem.Spec PyProof.Rows
section
variable {X : Cx} {x : Str} {p pos : Pos} {e : Expr} {es : List Expr} {t : TA} {id T : String} {r : List V → Hp → VK → Prop}
noncomputable def tCB (r : List V → Hp → VK → Prop) (t : TA) : TE := fun σ H Q => t σ H fun vs H1 => r vs H1 Q
private theorem pe_callB (hc : CallR X (.builtin id) r) (hg : Gl X x) (hm : X.mg x = none) (hv : bootBuiltins x = some (.builtin id)) (ha : PA X (e :: es) t) (hn : autoParam (x ≠ "__name__") PyProof.Rows.glB_def._auto_7) (hdb : autoParam ((x == ("__debug__" : Str)) = false) PyProof.Rows.glB_def._auto_7)
    (he : autoParam (starEach (e :: es) X.env = (false, eval e X.env) :: starEach es X.env) PyProof.Rows.call_M_of_MD._auto_3) (hpl : autoParam ((backTo pos (starEach es X.env)).any (·.1) = false) PyProof.Rows.call_M_of_MD._auto_3) : PE X (.Call (.Name x p) (e :: es) [] pos) (tCB r t) := by
  intro pins s σ H Q I h
  refine wpAny_Call_Name_kw (ld_blt I hg hm hv ?_ hn hdb)
  exact PyProof.Rows.callWith_builtin1 (thn (ha pos pins s σ H _ I h) fun us s1 ⟨vs, H1, I1, r1, q1⟩ => hc pins s1 σ H1 vs us Q I1 r1 q1) he hpl
end
end L2
namespace HT
open PySem PyProof.Rows
section
open PySem.SeqAt
open PySem.AutoSeq1 (wpAny_loadPart')
open PySem.MeetsSeq PySem.MeetsSeq2 PySem.MeetsSeq3
end
section
variable {prog : Program} {w : World} {A : Around} {E : Value → Shared → Prop} {s : Shared}
private theorem cat_tup {t b : Addr} {vs ws : List Value} {Q : Value → Shared → Prop} (ht : IsTup s.heap t vs.toArray) (hb : IsTup s.heap b ws.toArray) (hv : vs ≠ [])
    (h1 : ws = [] → Q (.ref t) s) (h2 : ws ≠ [] → Q (.ref s.heap.objs.size) { s with heap := s.heap.push { cls := .type "tuple", data := .seq (vs ++ ws).toArray } })
    (hsz : vs.length + ws.length ≤ sizeLine) : wpAny (model prog w) A (binaryOp .Add (.ref t) (.ref b)) Q E s := by
  obtain ⟨⟨cls, dd, data, sl⟩, ho, hc, n, hd⟩ := id ht
  obtain ⟨⟨cls2, dd2, data2, sl2⟩, ho2, hc2, n2, hd2⟩ := id hb
  simp only at hc hd hc2 hd2
  subst hc hd hc2 hd2
  have e : vs.toArray ++ ws.toArray = (vs ++ ws).toArray := by simp
  by_cases hw : ws = []
  · exact concat_meets ⟨_, ho, rfl⟩ ⟨_, ho2, rfl⟩ noFill_tuple_add seq_tuple_add PySem.F.slot_tuple_add PySem.F.entry_tuple_add (PySem.F.args_tuple_add_2 _ _)
      (tuple_addW1 t b vs.toArray ws.toArray n n2 dd dd2 sl sl2 (by simpa using hv) (by simp [hw])) ⟨ho, ho2, h1 hw⟩
  · refine concat_meets ⟨_, ho, rfl⟩ ⟨_, ho2, rfl⟩ noFill_tuple_add seq_tuple_add PySem.F.slot_tuple_add PySem.F.entry_tuple_add (PySem.F.args_tuple_add_2 _ _)
      (tuple_addW2 t b vs.toArray ws.toArray n n2 dd dd2 sl sl2 (by simpa using hv) (by simpa using hw) (by (first | exact ((List.size_toArray).trans ((List.size_toArray).trans (hsz))) | (rw [List.size_toArray, List.size_toArray]; exact hsz)))) ⟨ho, ho2, ?_⟩
    rw [e]
    exact h2 hw
end
end HT
namespace L2
open PySem PySem.Spec PyProof.Rows
section
variable {X : Cx} {e : Expr} {te : TE} {lo hi : Option Expr} {tl th : TO} {pos p2 : Pos}
noncomputable def rCatT (K : PySem.W.Frag) : R2 := fun x y H Q => ∃ a b xs ys, x = .ref a ∧ y = .ref b ∧ SqT K H a xs ∧ SqT K H b ys ∧ xs ≠ [] ∧ xs.length + ys.length ≤ sizeLine ∧
  (ys = [] → Q (.ref a) H) ∧ (ys ≠ [] → ∀ p, H p = none → Q (.ref p) (upd H p (.tup (xs ++ ys))))
private theorem Vals.nil_iff {xs : List V} {us : List Value} (r : Vals xs us) : us = [] ↔ xs = [] := by
  cases r with
  | nil => simp
  | cons _ _ => simp
private theorem op_catT : OpR X (binaryOp .Add) (rCatT X.K) := by
  intro pins s σ H x y v u Q I rx ry h
  obtain ⟨a, b, xs, ys, rfl, rfl, ha, hb, hx, hz, q1, q2⟩ := h
  cases rx
  cases ry
  obtain ⟨its, r1, p1, _⟩ := I.tuple ha
  obtain ⟨its2, r2, p2, _⟩ := I.tuple hb
  refine HT.cat_tup p1 p2 (fun z => hx (r1.nil_iff.mp z)) (fun z => ⟨.ref a, H, I, rfl, q1 (r2.nil_iff.mp z)⟩) (fun z => ?_) (by rw [← r1.length, ← r2.length]; exact hz)
  refine ⟨.ref s.heap.objs.size, _, I.laid (t' := s.toks) (o := .tup (xs ++ ys)) (fun b ob q => Heap.get?_push_of_some _ q) (Nat.le_refl _) ?_, rfl, q2 (fun w => z (r2.nil_iff.mpr w)) _ (I.hok.fresh (Nat.le_refl _))⟩
  exact ⟨by (first | exact ((List.length_append).trans (hz)) | (rw [List.length_append]; exact hz)), _, r1.append r2, IsTupN.new _ _⟩
end
end L2
namespace L2
open PySem PySem.Spec PyProof.Rows
noncomputable def ixN (n : Nat) (i : Int) : Option Nat := if 0 ≤ i then (if i < n then some i.toNat else none) else if -(n : Int) ≤ i then some (i + n).toNat else none
noncomputable def atI {α : Type} (xs : List α) (i : Int) : Option α := (ixN xs.length i).bind fun j => xs[j]?
private theorem ixN_seq {n : Nat} {i : Int} {j : Nat} (h : ixN n i = some j) : seqIndex? i n = some j ∧ j < n ∧ -(n : Int) ≤ i ∧ i < n := by
  unfold ixN at h
  by_cases h0 : 0 ≤ i
  · rw [if_pos h0] at h
    by_cases h1 : i < n
    · rw [if_pos h1] at h
      have e : i.toNat = j := Option.some.inj h
      exact ⟨by rw [seqIndex_of h0 h1, e], by omega, by omega, h1⟩
    · (first | exact PyNso (if_neg h1) h | exact PyNso h (if_neg h1) | cases PySos (if_neg h1) h | (rw [if_neg h1] at h; cases h))
  · rw [if_neg h0] at h
    by_cases h1 : -(n : Int) ≤ i
    · rw [if_pos h1] at h
      have e : (i + n).toNat = j := Option.some.inj h
      exact ⟨by rw [seqIndex_neg (by omega) h1, e], by omega, h1, by omega⟩
    · (first | exact PyNso (if_neg h1) h | exact PyNso h (if_neg h1) | cases PySos (if_neg h1) h | (rw [if_neg h1] at h; cases h))
private theorem atI_get {α : Type} {xs : List α} {i : Int} {v : α} (h : atI xs i = some v) : ∃ j, seqIndex? i xs.length = some j ∧ xs[j]? = some v ∧ j < xs.length ∧ -(xs.length : Int) ≤ i ∧ i < xs.length := by
  unfold atI at h
  revert h; cases e : ixN xs.length i with
  | none => intro h; cases h
  | some j =>
    intro h
    obtain ⟨h1, h2, h3, h4⟩ := ixN_seq e
    exact ⟨j, h1, h, h2, h3, h4⟩
private theorem atI_nat {α : Type} {xs : List α} {j : Nat} {v : α} (h : xs[j]? = some v) : atI xs (j : Int) = some v := by
  have hj : j < xs.length := (List.getElem?_eq_some_iff.mp h).1
  have e : ixN xs.length (j : Int) = some j := by
    unfold ixN
    rw [if_pos (by omega), if_pos (by omega)]; simp
  unfold atI; (first | exact ((e).trans (h)) | (rw [e]; exact h))
noncomputable def PlainIx (b : Expr) : Prop := ∀ o i, subscripted b false o i = operate [o, i] (getItem o i)
noncomputable def IxR (X : Cx) (r : R2) : Prop :=
  ∀ (value slice : Expr) (pins : List (Addr × Obj)) (s : Shared) (σ : St) (H : Hp) (x y : V) (v u : Value) (Q : VK), Inv X pins σ H s → RelV x v → RelV y u → r x y H Q →
    subscripted slice false v u = operate [v, u] (getItem v u) → wpAny (model X.prog X.w) X.A (subscriptTail value slice v u) (EP X pins σ Q) X.xe s
noncomputable def MtR (X : Cx) (id : String) (r : V → List V → Hp → VK → Prop) : Prop :=
  ∀ (pins : List (Addr × Obj)) (s : Shared) (σ : St) (H : Hp) (x : V) (xs : List V) (v : Value) (us : List Value) (Q : VK), Inv X pins σ H s → RelV x v → Vals xs us → r x xs H Q →
    wpAny (model X.prog X.w) X.A (call (.builtin id) (v :: us)) (EP X pins σ Q) X.xe s
section
variable {X : Cx} {a b : Expr} {ta tb : TE} {pos : Pos}
private theorem IxR.or {r r' : R2} (h : IxR X r) (h' : IxR X r') : IxR X (fun x y H Q => r x y H Q ∨ r' x y H Q) := by
  intro value slice pins s σ H x y v u Q I rx ry q hs
  rcases q with q | q
  · exact h value slice pins s σ H x y v u Q I rx ry q hs
  · exact h' value slice pins s σ H x y v u Q I rx ry q hs
private theorem pe_ix {r : R2} (hr : IxR X r) (ha : PE X a ta) (hb : PE X b tb) (hs : PlainIx b) : PE X (.Subscript a b pos) (tOp r ta tb) := by
  intro pins s σ H Q I h
  exact Subscript_ (binT ha hb I h fun v u s2 x y H2 I2 rx ry q => hr a b pins s2 σ H2 x y v u Q I2 rx ry q (hs _ _))
noncomputable def rIxL (K : PySem.W.Frag) : R2 := fun x y H Q => ∃ p xs i v, x = .ref p ∧ y = .int i ∧ SqL K H p xs ∧ atI xs i = some v ∧ Q v H
noncomputable def rIxT (K : PySem.W.Frag) : R2 := fun x y H Q => ∃ p xs i v, x = .ref p ∧ y = .int i ∧ SqT K H p xs ∧ atI xs i = some v ∧ Q v H
noncomputable def rIxS : R2 := fun x y H Q => ∃ z i c, x = .str z ∧ y = .int i ∧ z.length ≤ sizeLine ∧ atI z.cps.toList i = some c ∧ Q (.str ⟨#[c]⟩) H
private theorem ix_list : IxR X (rIxL X.K) := by
  intro value slice pins s σ H x y v u Q I rx ry h hs
  obtain ⟨p, xs, i, z, rfl, rfl, hq, he, q⟩ := h
  cases rx
  obtain ⟨t, rfl⟩ := ry
  obtain ⟨its, r, pl, hz⟩ := I.list hq
  obtain ⟨j, h1, h2, h3, h4, h5⟩ := atI_get he
  obtain ⟨w, ew, rw'⟩ := r.get h2
  have hl := r.length
  have hn := line63
  have fin : EP X pins σ Q w s := ⟨z, H, I, rw', q⟩
  by_cases h0 : 0 ≤ i
  · have hj : i.toNat = j := by
      rw [seqIndex_of h0 h5] at h1
      exact Option.some.inj h1
    exact item_listR pl.isList h0 (by omega) (by rw [hj]; simpa using ew) fin hs
  · have hj : (i + (its.toArray.size : Int)).toNat = j := by
      rw [seqIndex_neg (by omega) h4] at h1
      rw [List.size_toArray, ← hl]
      exact Option.some.inj h1
    exact subscriptTail_builtinR (x := w) pl.isList.typeIs slot_list_getitem.lookup
      (wpAny_getItem_list_neg (Q := fun r s' => r = w ∧ EP X pins σ Q r s') pl.isList (by omega) (by rw [List.size_toArray] <;> omega) (by omega) (by rw [hj]; simpa using ew) ⟨rfl, fin⟩) hs
private theorem ix_tup : IxR X (rIxT X.K) := by
  intro value slice pins s σ H x y v u Q I rx ry h hs
  obtain ⟨p, xs, i, z, rfl, rfl, hq, he, q⟩ := h
  cases rx
  obtain ⟨t, rfl⟩ := ry
  obtain ⟨its, r, pl, hz⟩ := I.tuple hq
  obtain ⟨j, h1, h2, h3, h4, h5⟩ := atI_get he
  obtain ⟨w, ew, rw'⟩ := r.get h2
  have hl := r.length
  have hn := line63
  have fin : EP X pins σ Q w s := ⟨z, H, I, rw', q⟩
  exact subscriptTail_builtinR (x := w) pl.typeIs slot_tuple_getitem.lookup
    (getItem_tuple (j := j) (Q := fun r s' => r = w ∧ EP X pins σ Q r s') pl (by omega) (by omega) (by rw [List.size_toArray, ← hl]; exact h1) (by simpa using ew) ⟨rfl, fin⟩) hs
private theorem ix_str : IxR X rIxS := by
  intro value slice pins s σ H x y v u Q I rx ry h hs
  obtain ⟨z, i, c, rfl, rfl, hz, he, q⟩ := h
  obtain ⟨t, rfl⟩ := rx
  obtain ⟨t', rfl⟩ := ry
  obtain ⟨j, h1, h2, h3, h4, h5⟩ := atI_get he
  have hl : z.cps.toList.length = z.length := by simp [Str.length]
  rw [hl] at h1 h4 h5
  have hn := line63
  exact tail_any (typeIs_str s z t) slot_str_getitem.lookup (getItem_str (c := c) (by
    have e1 : decide (i < -(2 ^ 63 : Int)) = false := decide_eq_false (by omega)
    have e2 : decide (i ≥ 2 ^ 63) = false := decide_eq_false (by omega)
    rw [e1, e2, Bool.or_false]) (by rw [h1]; simpa using h2) ⟨.str ⟨#[c]⟩, H, I.tok _, ⟨_, rfl⟩, q⟩) hs
noncomputable def rIx (K : PySem.W.Frag) : R2 := fun x y H Q => rIxL K x y H Q ∨ rIxT K x y H Q ∨ rIxS x y H Q
private theorem ix_seq : IxR X (rIx X.K) := ix_list.or (ix_tup.or ix_str)
private theorem mapSeq_set (its : List Value) (n j : Nat) (u : Value) : Obj.mapSeq (·.setIfInBounds j u) { cls := .type "list", data := .seq its.toArray n } = { cls := .type "list", data := .seq (its.set j u).toArray n } := by
  simp [Obj.mapSeq]
private theorem Inv.lst {pins : List (Addr × Obj)} {σ : St} {H : Hp} {s : Shared} {p : Addr} {xs : List V} (I : Inv X pins σ H s) (h : H p = some (.lst xs)) :
    ∃ (its : List Value) (n : Nat), Vals xs its ∧ s.heap.get? p = some { cls := .type "list", data := .seq its.toArray n } ∧ xs.length ≤ sizeLine := by
  obtain ⟨z, its, n, r, e⟩ := I.hok p _ h
  exact ⟨its, n, r, e, z⟩
private theorem Inv.lstUpd {pins : List (Addr × Obj)} {σ : St} {H : Hp} {s : Shared} {p : Addr} {xs ys : List V} {its its' : List Value} {n n' : Nat} {f : Obj → Obj} (I : Inv X pins σ H s) (h : H p = some (.lst xs))
    (ho : s.heap.get? p = some { cls := .type "list", data := .seq its.toArray n }) (hf : f { cls := .type "list", data := .seq its.toArray n } = { cls := .type "list", data := .seq its'.toArray n' }) (r : Vals ys its') (hz : ys.length ≤ sizeLine) (t : Nat) :
    Inv X pins σ (upd H p (.lst ys)) { s with heap := s.heap.update p f, toks := t } := by
  have e : (s.heap.update p f).get? p = some { cls := .type "list", data := .seq its'.toArray n' } := by
    rw [Heap.get?_update_self f ho (by rw [hf] <;> rfl), hf]
  refine I.write (x := p) (e := p) (by rw [h]; trivial) (.inl rfl) (fun b u hb q => (Heap.get?_update_other _ _ (Ne.symm hb)).trans q) ⟨_, e⟩ ?_
  exact ⟨hz, its', n', r, e⟩
noncomputable def rSetL : V → V → V → Hp → (Hp → Prop) → Prop := fun o i v H Q => ∃ p xs k j, o = .ref p ∧ i = .int k ∧ H p = some (.lst xs) ∧ ixN xs.length k = some j ∧ Q (upd H p (.lst (xs.set j v)))
private theorem set_list : PSet X rSetL := by
  intro pins s σ H o i v ov iv u Q I ro ri rv h
  obtain ⟨p, xs, k, j, rfl, rfl, hp, hj, q⟩ := h
  cases ro
  obtain ⟨t, rfl⟩ := ri
  obtain ⟨its, n, r, ho, hz⟩ := I.lst hp
  obtain ⟨h1, h2, h3, h4⟩ := ixN_seq hj
  have hl := r.length
  have hn := line63
  have I' : Inv X pins σ (upd H p (.lst (xs.set j v))) { s with heap := s.heap.update p (Obj.mapSeq (·.setIfInBounds j u)) } :=
    I.lstUpd hp ho (mapSeq_set its n j u) (r.set rv j) (by (first | exact ((List.length_set).trans (hz)) | (rw [List.length_set]; exact hz))) s.toks
  by_cases h0 : 0 ≤ k
  · have hk : k.toNat = j := by
      rw [seqIndex_of h0 h4] at h1
      exact Option.some.inj h1
    exact PySem.W.ki_setAt ho h0 (by omega) (by rw [List.size_toArray, ← hl]; exact h4) (by (first | exact ((hk).trans (⟨_, I', q⟩)) | (rw [hk]; exact ⟨_, I', q⟩)))
  · have hk : (k + (its.toArray.size : Int)).toNat = j := by
      rw [seqIndex_neg (by omega) h3] at h1
      rw [List.size_toArray, ← hl]
      exact Option.some.inj h1
    exact PySem.W.ki_setBack ho (by omega) (by rw [List.size_toArray, ← hl]; exact h3) (by omega) (by (first | exact ((hk).trans (⟨_, I', q⟩)) | (rw [hk]; exact ⟨_, I', q⟩)))
private theorem call_len_seq : CallR X (.builtin "len") (fun xs H Q => ∃ p ys, xs = [.ref p] ∧ (SqL X.K H p ys ∨ SqT X.K H p ys) ∧ Q (.int ys.length) H) := by
  intro pins s σ H xs us Q I r h
  obtain ⟨p, ys, rfl, hq, q⟩ := h
  obtain ⟨u, rfl, rx⟩ := vals1 r
  cases rx
  have hn := line63
  rcases hq with hq | hq
  · obtain ⟨its, r', pl, hz⟩ := I.list hq
    have hlen := r'.length
    exact Calls.call_len_list pl.isList (by simp only [List.size_toArray] <;> omega) ⟨.int ys.length, H, I.tok _, ⟨s.toks + 1, by rw [List.size_toArray, hlen]⟩, q⟩
  · obtain ⟨its, r', pl, hz⟩ := I.tuple hq
    have hlen := r'.length
    exact len_tuple pl (by simp only [List.size_toArray] <;> omega) ⟨.int ys.length, H, I.tok _, ⟨s.toks + 1, by rw [List.size_toArray, hlen]⟩, q⟩
noncomputable def tyV (K : PySem.W.Frag) (T : String) (x : V) (H : Hp) : Prop := match x with
  | .str _ => T = "str"
  | .int _ => T = "int"
  | .ref p => (T = "list" ∧ ∃ xs, SqL K H p xs) ∨ (T = "tuple" ∧ ∃ o, K.lookup p = some o ∧ o.cls = .type "tuple" ∧ o.dict = none) ∨
      (T = "dict" ∧ ((∃ kvs, H p = some (.dK kvs)) ∨ ∃ kvs, H p = some (.dT kvs))) ∨ (T = "set" ∧ ∃ S n, H p = some (.set S n))
  | _ => False
private theorem tyV_is {pins : List (Addr × Obj)} {σ : St} {H : Hp} {s : Shared} {T : String} {x : V} {v : Value} (I : Inv X pins σ H s) (r : RelV x v) (ty : tyV X.K T x H) :
    s.TypeIs v T ∧ ∀ a, v = .ref a → ∃ ob, s.heap.get? a = some ob ∧ ob.dict = none := by
  cases x with
  | str z =>
    obtain ⟨t, rfl⟩ := r
    cases (show T = "str" from ty)
    exact ⟨typeIs_str s z t, fun _ e => nomatch e⟩
  | int i =>
    obtain ⟨t, rfl⟩ := r
    cases (show T = "int" from ty)
    exact ⟨typeIs_int s i t, fun _ e => nomatch e⟩
  | ref p =>
    cases r
    rcases ty with ⟨rfl, xs, hq⟩ | ⟨rfl, o, hk, hc, hd⟩ | ⟨rfl, hk⟩ | ⟨rfl, S, n, hk⟩
    · obtain ⟨its, _, pl, _⟩ := I.list hq
      refine ⟨pl.isList.typeIs, fun a e => ?_⟩
      cases e
      obtain ⟨o, n, e, c, hd, _⟩ := pl
      exact ⟨o, e, hd⟩
    · refine ⟨⟨o, I.kIn p o hk, hc⟩, fun a e => ?_⟩
      cases e
      exact ⟨o, I.kIn _ o hk, hd⟩
    · have z : ∃ o, s.heap.get? p = some o ∧ o.ExactDict := by
        rcases hk with ⟨kvs, hk⟩ | ⟨kvs, hk⟩
        · obtain ⟨_, _, _, _, o, _, _, e, ex, _⟩ := I.hok p _ hk
          exact ⟨o, e, ex⟩
        · obtain ⟨_, _, _, _, o, _, _, e, ex, _⟩ := I.hok p _ hk
          exact ⟨o, e, ex⟩
      obtain ⟨o, e, ex⟩ := z
      refine ⟨⟨o, e, ex.1⟩, fun a e2 => ?_⟩
      cases e2
      exact ⟨o, e, ex.2.1⟩
    · obtain ⟨o, _, _, _, e, ex, _⟩ := I.hok p _ hk
      refine ⟨⟨o, e, ex.1⟩, fun a e2 => ?_⟩
      cases e2
      exact ⟨o, e, ex.2.1⟩
  | _ => exact False.elim ty
noncomputable def tBM (K : PySem.W.Frag) (T : String) (r : V → List V → Hp → VK → Prop) (to : TE) (t : TA) : TE := fun σ H Q => to σ H fun x H1 => tyV K T x H1 ∧ t σ H1 fun xs H2 => r x xs H2 Q
variable {o e : Expr} {es : List Expr} {to : TE} {t : TA} {name : Str} {apos cpos : Pos} {T id : String} {r : V → List V → Hp → VK → Prop}
private theorem pe_bm (pa : PlainAttrs T) (slot : Slot T name id) (hty : typeOf (.builtin id) = pure (.type "method_descriptor")) (hm : MtR X id r) (ho : PE X o to) (ha : PA X (e :: es) t)
    (hbase : autoParam (attributeBase o name X.env (eval o X.env) = eval o X.env) PyProof.Rows.call_M_of_MD._auto_3)
    (hfew : autoParam (((backTo cpos (starEach (e :: es) X.env)).all (fun x => !x.1) && (backToKw cpos (keywordEach [] X.env)).all (fun x => x.1.isSome)
      && decide ((e :: es).length + ([] : List Keyword).length + (if ([] : List Keyword).isEmpty then 0 else 1) < 30)) = true) PyProof.Rows.call_M_of_MD._auto_3)
    (hline : autoParam ((apos.endLine == cpos.line) = true) PyProof.Rows.call_M_of_MD._auto_3) (hs : autoParam (starEach (e :: es) X.env = (false, eval e X.env) :: starEach es X.env) PyProof.Rows.call_M_of_MD._auto_3) (hplain : autoParam ((backTo cpos (starEach es X.env)).any (·.1) = false) PyProof.Rows.call_M_of_MD._auto_3) :
    PE X (.Call (.Attribute o name apos) (e :: es) [] cpos) (tBM X.K T r to t) := by
  intro pins s σ H Q I h
  refine wpAny_Call_method_late hbase hfew hline rfl (thn (ho pins s σ H _ I h) fun v s1 ⟨x, H1, I1, r1, ty, q1⟩ => ?_)
  obtain ⟨h1, h2⟩ := tyV_is I1 r1 ty
  refine ⟨T, id, pa, slot, hty, h1, h2, ?_⟩
  have hA := ha cpos pins s1 σ H1 _ I1 q1
  rw [hs] at hA ⊢
  refine Calls.callWith_builtin (by show (false || (backTo cpos (starEach es X.env)).any (·.1)) = false; rw [hplain] <;> rfl) (Calls.evalArgs_plain ?_)
  exact thn hA fun us s2 ⟨vs, H2, I2, r2, q2⟩ => hm pins s2 σ H2 x vs v us Q I2 r1 r2 q2
end
end L2
namespace L2
open PySem PySem.Spec PyProof.Rows
noncomputable def MtM (X : Cx) (id : String) (r : V → List V → Hp → VK → Prop) : Prop :=
  ∀ (pins : List (Addr × Obj)) (s : Shared) (σ : St) (H : Hp) (x : V) (xs : List V) (v : Value) (us : List Value) (Q : VK), Inv X pins σ H s → RelV x v → Vals xs us → r x xs H Q →
    wpAny (model X.prog X.w) X.A (call (.builtin id) (v :: us)) (EP X pins σ Q) X.xe s
private theorem Vals.one {x : V} {us : List Value} (h : Vals [x] us) : ∃ u, us = [u] ∧ RelV x u := by
  cases h with
  | cons r t => cases t; exact ⟨_, rfl, r⟩
private theorem Vals.rep {xs : List V} {us : List Value} (h : Vals xs us) : ∀ k : Nat, Vals (List.replicate k xs).flatten (List.replicate k us).flatten
  | 0 => .nil
  | k + 1 => by
    rw [List.replicate_succ, List.replicate_succ, List.flatten_cons, List.flatten_cons]
    exact Vals.append h (Vals.rep h k)
private theorem foldl_rep (its : List Value) : ∀ (k : Nat) (acc : List Value),
    List.foldl (fun x1 x2 => x1 ++ x2) acc.toArray (List.replicate k its.toArray) = (acc ++ (List.replicate k its).flatten).toArray
  | 0, acc => by simp
  | k + 1, acc => by
    have e : acc.toArray ++ its.toArray = (acc ++ its).toArray := by simp
    have e2 : (acc ++ its) ++ (List.replicate k its).flatten = acc ++ (List.replicate (k + 1) its).flatten := by
      rw [List.replicate_succ, List.flatten_cons, List.append_assoc]
    rw [← e2, ← foldl_rep its k (acc ++ its), ← e, List.replicate_succ, List.foldl_cons]
section
variable {X : Cx} {pins : List (Addr × Obj)} {σ : St} {H : Hp} {s : Shared} {l b : Addr} {xs ys zs : List V}
private theorem Inv.lset {its its' : List Value} {n : Nat} {f : Array Value → Array Value} {t' : Nat} (I : Inv X pins σ H s) (hH : H l = some (.lst xs))
    (e : s.heap.get? l = some { cls := .type "list", data := .seq its.toArray n }) (hf : f its.toArray = its'.toArray) (hv : Vals ys its') (hz : ys.length ≤ sizeLine) :
    Inv X pins σ (upd H l (.lst ys)) { s with heap := s.heap.update l (Obj.mapSeq f), toks := t' } := by
  have q := PySem.IsL.update e f
  rw [hf] at q
  refine I.write (x := l) (e := l) (by (first | exact ((hH).trans (trivial)) | (rw [hH]; exact trivial))) (.inl rfl) (fun b' u hb hu => (Heap.get?_update_other s.heap (Obj.mapSeq f) (Ne.symm hb)).trans hu) ⟨_, q⟩ ?_
  exact ⟨hz, its', _, hv, q⟩
private theorem Inv.lnew {its : List Value} {t' : Nat} (I : Inv X pins σ H s) (hv : Vals ys its) (hz : ys.length ≤ sizeLine) :
    Inv X pins σ (upd H s.heap.objs.size (.lst ys)) { s with heap := s.heap.push { cls := .type "list", data := .seq its.toArray }, toks := t' } :=
  I.laid (fun _ _ q => Heap.get?_push_of_some _ q) (Nat.le_refl _) ⟨hz, its, 0, hv, Heap.get?_push_size _ rfl⟩
private theorem Inv.fresh (I : Inv X pins σ H s) : H s.heap.objs.size = none := I.hok.fresh (Nat.le_refl _)
private theorem Inv.lstM (I : Inv X pins σ H s) (hH : H l = some (.lst xs)) : xs.length ≤ sizeLine ∧ ∃ (its : List Value) (n : Nat), Vals xs its ∧ xs.length = its.length ∧ s.heap.get? l = some { cls := .type "list", data := .seq its.toArray n } := by
  obtain ⟨z, its, n, r, e⟩ := I.hok l _ hH
  exact ⟨z, its, n, r, r.length, e⟩
private theorem notLongL {n : Nat} (h : n ≤ sizeLine) : Builtin.List.listTooLong n = false := by
  unfold Builtin.List.listTooLong
  exact decide_eq_false (by omega)
end
section
variable {X : Cx}
noncomputable def rAppend : V → List V → Hp → VK → Prop := fun x vs H Q => ∃ l xs y, x = .ref l ∧ vs = [y] ∧ H l = some (.lst xs) ∧ xs.length < sizeLine ∧ Q .non (upd H l (.lst (xs ++ [y])))
private theorem mt_append : MtM X "list.append" rAppend := by
  intro pins s σ H x vs v us Q I rx rv h
  obtain ⟨l, xs, y, rfl, rfl, hH, hz, q⟩ := h
  cases rx
  obtain ⟨u, rfl, ru⟩ := rv.one
  obtain ⟨z, its, n, r, hl, e⟩ := I.lstM hH
  refine call_meets F.slot_list_append ⟨_, e, rfl⟩ F.entry_list_append (F.args_list_append_2 _ _) (PySem.list_append l its.toArray n u (by rw [List.size_toArray]; omega)) ⟨e, ?_⟩
  refine ⟨.non, _, I.lset (its' := its ++ [u]) hH e (by simp) (r.append (.cons ru .nil)) ?_, rfl, q⟩
  rw [List.length_append, List.length_singleton]
  omega
noncomputable def rCat : R2 := fun x y H Q => ∃ l b xs zs, x = .ref l ∧ y = .ref b ∧ H l = some (.lst xs) ∧ H b = some (.lst zs) ∧ xs.length + zs.length ≤ sizeLine ∧ ∀ p, H p = none → Q (.ref p) (upd H p (.lst (xs ++ zs)))
private theorem op_cat : OpR X (binaryOp .Add) rCat := by
  intro pins s σ H x y v u Q I rx ry h
  obtain ⟨l, b, xs, zs, rfl, rfl, hH, hB, hz, q⟩ := h
  cases rx
  cases ry
  obtain ⟨z, its, n, r, hl, e⟩ := I.lstM hH
  obtain ⟨z2, its2, n2, r2, hl2, e2⟩ := I.lstM hB
  refine PySem.P.add_list e e2 ?_ (by rw [List.size_toArray, List.size_toArray]; omega)
  have ea : its.toArray ++ its2.toArray = (its ++ its2).toArray := by simp
  rw [ea]
  exact ⟨.ref _, _, I.lnew (t' := s.toks) (r.append r2) (by rw [List.length_append]; omega), rfl, q _ I.fresh⟩
noncomputable def rRep : R2 := fun x y H Q => ∃ l k xs, x = .ref l ∧ y = .int k ∧ H l = some (.lst xs) ∧ -(2 ^ 63) ≤ k ∧ k < 2 ^ 63 ∧ xs.length * k.toNat ≤ sizeLine ∧
  ∀ p, H p = none → Q (.ref p) (upd H p (.lst (List.replicate k.toNat xs).flatten))
private theorem len_rep {α : Type} (xs : List α) (k : Nat) : (List.replicate k xs).flatten.length = k * xs.length := by
  induction k with
  | zero => simp
  | succ k ih => rw [List.replicate_succ, List.flatten_cons, List.length_append, ih, Nat.succ_mul, Nat.add_comm]
private theorem op_rep : OpR X (binaryOp .Mult) rRep := by
  intro pins s σ H x y v u Q I rx ry h
  obtain ⟨l, k, xs, rfl, rfl, hH, h1, h2, hz, q⟩ := h
  cases rx
  obtain ⟨t, rfl⟩ := ry
  obtain ⟨z, its, n, r, hl, e⟩ := I.lstM hH
  have hlen : its.toArray.size * k.toNat ≤ sizeLine := by rw [List.size_toArray, ← hl]; exact hz
  have hcap : ¬ its.toArray.size * k.toNat > (2 ^ 63 - 1) / 8 := by
    have : (sizeLine : Nat) ≤ (2 ^ 63 - 1) / 8 := by decide
    omega
  have hfit : ¬ (!Builtin.List.listFitsIndex k) = true := by
    rw [fitsIndex_both h1 h2]
    exact Bool.false_ne_true
  have hlong : ¬ Builtin.List.listTooLong (its.toArray.size * k.toNat) = true := by
    rw [notLongL hlen]
    exact Bool.false_ne_true
  have hnew : List.foldl (fun x1 x2 => x1 ++ x2) #[] (List.replicate (if its.toArray.isEmpty = true then 0 else k.toNat) its.toArray) = (List.replicate k.toNat its).flatten.toArray := by
    have f0 : ∀ m : Nat, List.foldl (fun x1 x2 => x1 ++ x2) #[] (List.replicate m its.toArray) = (List.replicate m its).flatten.toArray := fun m => by
      have := foldl_rep its m []
      rw [List.nil_append] at this
      exact this
    rw [f0]
    cases its with
    | nil => simp
    | cons a r' => rw [if_neg (by simp)]
  refine wpAny_binaryOp_repeat_ref (T := "list") (U := "int") (by decide) ⟨_, e, rfl⟩ (fun s' => typeIs_int s' k t) noFill_list_mul F.fills_int_mul F.slot_int_rmul repeat_list F.slot_int_index.lookup
    (call_meets F.slot_int_rmul (typeIs_int s k t) F.entry_int_rmul (F.args_int_rmul_2 _ _) (int___rmul___int_list k t l its.toArray n)
      ⟨e, rfl, ⟨_, e, rfl⟩, call_meets F.slot_list_mul ⟨_, e, rfl⟩ F.entry_list_mul (F.args_list_mul_2 _ _) (AutoListH.list___mul___list_int_3 l its.toArray n k t hfit hcap hlong) ⟨e, ?_⟩⟩)
  rw [hnew]
  exact ⟨.ref _, _, I.lnew (t' := s.toks) (r.rep k.toNat) (by (first | exact ((len_rep).trans ((Nat.mul_comm).trans (hz))) | (rw [len_rep, Nat.mul_comm]; exact hz))), rfl, q _ I.fresh⟩
end
section
variable {prog : Program} {w : World} {A : Around} {E : Value → Shared → Prop} {s : Shared}
set_option maxRecDepth 100000 in
end
section
variable {X : Cx}
end
end L2
namespace Att
open PySem PySem.W PySem.Calls PyProof.Rows
private theorem ints_of_wellAll {P : Params} {h : Heap} : ∀ (ns : List Int) (vs : List Value), WellAll P h vs (ns.map WData.int) → IntsAre vs ns := by
  intro ns
  induction ns with
  | nil =>
    intro vs w
    (first | exact PyNso (List.map_nil) w | exact PyNso w (List.map_nil) | cases PySos (List.map_nil) w | (rw [List.map_nil] at w; cases w))
    exact .nil
  | cons n ns ih =>
    intro vs w
    rw [List.map_cons] at w
    cases w with
    | cons a b =>
      cases a
      exact .cons _ _ (ih _ b)
private theorem script_of {l : OpenLaw} {n : Nat} (hn : l.most = some n) {P : Params} {h : Heap} {args : List WData} {vals : List Value}
    (hpre : l.row.toRowW.claim.pre args = true) (hwl : WellAll P h vals args) :
    ∃ a vs ns, vals = [Value.ref a] ∧ args = [WData.list (ns.map WData.int)] ∧ h.get? a = some { cls := .type "list", data := .seq vs.toArray } ∧ IntsAre vs ns ∧ ns.length ≤ n := by
  have hsh : WShape.hasAll [] args [.list .int] = true := (pre_splitW hpre).1
  have hc : l.pre.holds [] { args := args } = true := (pre_splitW hpre).2
  obtain ⟨d, r, rfl, h1, h2⟩ := hasAllW_cons hsh
  obtain rfl := hasAllW_nil h2
  obtain ⟨xs, rfl, h3⟩ := hasW_list h1
  obtain ⟨ns, rfl⟩ := items_int h3
  have hlen : ns.length ≤ n := by
    unfold OpenLaw.pre at hc
    have h4 : (WTm.not (.lt (.lit (.int (n : Int))) (.len (.arg 0)))).holds [] { args := [.list (ns.map .int)] } = true := by
      have h4 := (holds_andW hc).1
      rw [hn] at h4
      exact h4
    have h5 := condW_of h4 (w_not (w_lt w_lit (w_len_list (w_arg rfl))))
    rw [List.length_map] at h5
    refine Nat.le_of_not_lt fun q => ?_
    have q' : (n : Int) < ((ns.length : Nat) : Int) := by omega
    first
      | (rw [decide_eq_true q'] at h5; exact absurd h5 (by decide))
      | (simp at h5; omega)
  cases hwl with
  | cons w1 w2 =>
    cases w2
    cases w1 with
    | list ho hall => exact ⟨_, _, ns, rfl, rfl, ho, ints_of_wellAll ns _ hall, hlen⟩
private theorem post_true (l : OpenLaw) (args : List WData) : l.row.toRowW.claim.post args (.bool true) args = true :=
  postW_of (r := l.row.toRowW) (X := (true == true))
    (show WShape.has [] (.bool true) .bool = true by first | rfl | decide | simp [WShape.has, WShape.arms, WShape.armsAll])
    (show (WTm.eq .res (.lit (.bool true))).value [] { args := args, res := some (.bool true), after := args } = some (.bool (true == true)) from w_eq_bool (w_res rfl) w_lit) rfl
private theorem attach_call {l : OpenLaw} {n : Nat} {q : Program} {loose : List Str} {XP : (Str → Option Value) → Heap → Prop} {YP : World → Heap → Prop} {d : DefRec}
    (hn : l.most = some n) (hdf : d.params.defaults = [])
    (call : ∀ (w : World) (s₀ s₁ : Shared) (mg mb : Str → Option Value) (fa : Addr) (o : Obj) (pm cd doc : Value) (a : Addr) (vs : List Value) (ns : List Int),
      Ground q loose [] XP w s₀ mg mb s₁.heap → YP w s₁.heap →
      s₁.heap.get? fa = some o → o.data = .func (docDef d.name d.params d.body d.scope pm cd doc) → s₁.heap.CodeRec cd d.name → mg d.name = some (.ref fa) →
      s₁.heap.get? a = some { cls := .type "list", data := .seq vs.toArray } → IntsAre vs ns → ns.length ≤ n → s₁.gens = #[] →
      codeAny (model l.prog w) callerA (.call (.ref fa) ⟨[.ref a], []⟩) (fun r s' => r = .ok (.ret (.bool true)) ∧ OldK s₁.heap s'.heap ∧ s'.os = s₁.os ∧ AllBare s'.gens) s₁) :
    WalkO q loose XP YP l.row.toRowW d [] (fun f vs => PySem.call f vs) := by
  intro w s₀ s₁ mg mb G Y fa o pm cd doc dV kV ho hd hcd hD hmg hg args vals as hpre hlay hrd hwl hlo
  obtain rfl : dV = .none := Dflts.none hD hdf
  obtain rfl : kV = .none := Dflts.noKw hD
  obtain ⟨a, vs, ns, rfl, rfl, hobj, hints, hlen⟩ := script_of hn hpre hwl
  refine enter_call (codeAny_mono (call w s₀ s₁ mg mb fa o pm cd doc a vs ns G Y ho (fd_plain hd) hcd hmg hobj hints hlen hg) fun r s' hq => ?_)
  obtain ⟨rfl, h2, h3, h4⟩ := hq
  exact ⟨.inl ⟨.bool true, .bool true, [], rfl, fun _ => rfl, .bool true, post_true l _, fun _ => ⟨List.Pairwise.nil, fun _ hm => (nomatch hm)⟩⟩, h2, h3, h4⟩
section
variable {prog : Program} {w : World} {A : Around} {E : Value → Shared → Prop} {s : Shared} {K : Frag}
end
end Att
namespace L2
open PySem PySem.Spec PyProof.Rows
private theorem vals_ints : ∀ {vs : List Value} {ns : List Int}, IntsAre vs ns → Vals (ns.map V.int) vs
  | _, _, .nil => .nil
  | _, _, .cons n t h => .cons ⟨t, rfl⟩ (vals_ints h)
end L2
namespace L2
open PySem PySem.Spec PyProof.Rows
noncomputable abbrev KOf {K : PySem.W.Frag} {h : Heap} (_ : K.In h) : PySem.W.Frag := K
end L2
namespace L2
open PySem PySem.Spec PyProof.Rows
noncomputable def defArgs (s : Stmt) : Arguments := match s with
  | .FunctionDef _ a _ _ _ _ _ _ _ _ => a
  | _ => { posonlyargs := [], args := [], vararg := none, kwonlyargs := [], kw_defaults := [], kwarg := none, defaults := [] }
noncomputable def defBody (s : Stmt) : List Stmt := match s with
  | .FunctionDef _ _ b _ _ _ _ _ _ _ => b
  | _ => []
noncomputable def defScope (s : Stmt) : Scope := match s with
  | .FunctionDef _ _ _ _ _ _ sc _ _ _ => sc
  | _ => { kind := .function, names := [], isGenerator := false, isCoroutine := false }
noncomputable abbrev CX0 : CXT := fun _ _ _ _ _ _ => False
noncomputable abbrev E0 : XK := fun _ _ _ => False
private theorem pass0 {X : Cx} : Passes CX0 X E0 := fun _ _ _ _ _ _ _ h => h.elim
structure Fun (K : PySem.W.Frag) (x qual : Str) (st : Stmt) (f : Addr) (fd : FuncData) : Prop where
  ex : ∃ (oc : Value) (od : Option Addr) (kV doc pm : Value) (an : Option Addr) (cdv ct : Value) (osl : Array (Option Value)),
    fd = PySem.W.fnOf x qual (defArgs st) (defBody st) (defScope st) .none kV doc pm an cdv ct ∧ K.lookup f = some ⟨oc, od, .func fd, osl⟩ ∧ PySem.W.codeIn K cdv qual = true
  kp : PySem.W.keepIn K (.ref f) = true
section
variable {P : Program} {w : World} {K : PySem.W.Frag} {mg : Str → Option Value} {base : Heap}
private theorem Fun.ok {x qual : Str} {st : Stmt} {f : Addr} {fd : FuncData} {N ps : List Str} {k : Nat} {sp : Sp} (F : Fun K x qual st f fd) (S : FnScope N ps (defScope st)) (len : ∀ vs H Q E, sp vs H Q E → vs.length = ps.length)
    (hbody : ∀ (cdv : Value) (A : Around) (outer : List Env) (s : Shared) (H : Hp) (vs : List V) (Q : VK) (E : XK), Room k (A.deeper (envOfC qual (defScope st) s.heap.objs.size f cdv)) → sp vs H Q E →
      ∃ t, PSs (cxOf CX0 P w K mg base N qual (defScope st) f cdv A outer s H E).nox (defBody st) t ∧ t { nx := fun _ H' => Q .non H', rt := Q } (start N vs) H) : FnOk P w K mg base CX0 (k + 1) f fd ps sp := by
  obtain ⟨oc, od, kV, doc, pm, an, cdv, ct, osl, rfl, lk, hcd⟩ := F.ex
  refine fn_of lk hcd S len fun A outer s H vs Q E hr hsp => ?_
  obtain ⟨t, h, q⟩ := hbody cdv A outer s H vs Q E hr hsp
  exact ⟨t, h.nox, q⟩
private theorem Fun.binds {x qual : Str} {st : Stmt} {f : Addr} {fd : FuncData} {ps : List Str} (F : Fun K x qual st f fd)
    (h : ∀ (kV doc pm : Value) (an : Option Addr) (cdv ct : Value) (us : List Value), us.length = ps.length → bindArgs (PySem.W.fnOf x qual (defArgs st) (defBody st) (defScope st) .none kV doc pm an cdv ct) ⟨us, []⟩ = pure (ps.zip us)) : Binds K fd ps [] := by
  obtain ⟨oc, od, kV, doc, pm, an, cdv, ct, osl, rfl, lk, hcd⟩ := F.ex
  exact .all (h kV doc pm an cdv ct)
private theorem fun_mk {x qual : Str} {st : Stmt} {f : Addr} {oc : Value} {od an : Option Addr} {osl : Array (Option Value)} {kV doc pm cdv ct : Value} (l : K.lookup f = some ⟨oc, od, .func (PySem.W.fnOf x qual (defArgs st) (defBody st) (defScope st) .none kV doc pm an cdv ct), osl⟩)
    (c : PySem.W.codeIn K cdv qual = true) (k : PySem.W.keepIn K (.ref f) = true) : Fun K x qual st f (PySem.W.fnOf x qual (defArgs st) (defBody st) (defScope st) .none kV doc pm an cdv ct) := ⟨⟨oc, od, kV, doc, pm, an, cdv, ct, osl, rfl, l, c⟩, k⟩
end
section
variable {X : Cx}
end
end L2
namespace L2
open PySem PySem.Spec PyProof.Rows
section
variable {κ : Type} [DecidableEq κ]
end
section
variable {P : Program} {w : World} {H : Hp} {h : Heap} {a : Addr}
end
section
variable {X : Cx} {pins : List (Addr × Obj)} {σ : St} {H : Hp} {s : Shared} {a : Addr} {y v : V} {u r : Value} {o : Option V} {A : Around} {E : Value → Shared → Prop}
end
section
variable {X : Cx} {pins : List (Addr × Obj)} {σ : St} {H : Hp} {s : Shared} {a : Addr} {kvs : List (Key × V)} {k : Key} {u : Value} {A : Around} {E : Value → Shared → Prop}
end
section
variable {X : Cx} {o i e value : Expr} {pos pos' tpos : Pos} {td ty tv : TE}
end
section
variable {X : Cx} {pos : Pos}
end
section
variable {X : Cx} {pins : List (Addr × Obj)} {σ : St} {H : Hp} {s : Shared} {a : Addr} {y d : V} {u r : Value} {o : Option V} {A : Around} {E : Value → Shared → Prop}
end
section
variable {X : Cx} {o e f : Expr} {apos cpos : Pos} {td ty tx : TE}
end
section
variable {X : Cx} {pins : List (Addr × Obj)} {σ : St} {H : Hp} {s : Shared} {a : Addr} {kvs : List (Key × V)} {A : Around} {E : Value → Shared → Prop}
end
section
variable {X : Cx} {pins : List (Addr × Obj)} {σ : St} {H : Hp} {s : Shared} {a : Addr} {y : V} {u : Value} {A : Around} {E : Value → Shared → Prop}
end
end L2
namespace L2
open PySem PySem.Spec PyProof.Rows
noncomputable def closeL (env : Env) : List (Str × NameKind) → List (Str × Addr) → List (Str × Addr)
  | [], acc => acc
  | (n, k) :: r, acc => closeL env r (if k == .free then (n, (env.cells.lookup n).getD 0) :: acc else acc)
private theorem close_go {env : Env} (f : Str × NameKind → List (Str × Addr) → Sem (ForInStep (List (Str × Addr))))
    (hf : ∀ n k r, f (n, k) r = if (k == NameKind.free) = true then (do let c ← cellOf env n; pure (ForInStep.yield ((n, c) :: r))) else pure (ForInStep.yield r)) :
    ∀ (names : List (Str × NameKind)) (acc : List (Str × Addr)), (∀ y ∈ names, y.2 = .free → ∃ c, env.cells.lookup y.1 = some c) → (forIn names acc f : Sem (List (Str × Addr))) = pure (closeL env names acc) := by
  intro names
  induction names with
  | nil => intro acc _; rfl
  | cons y r ih =>
    intro acc hh
    obtain ⟨n, k⟩ := y
    rw [List.forIn_cons, hf]
    unfold closeL
    have hr := ih (if k == .free then (n, (env.cells.lookup n).getD 0) :: acc else acc) (fun y hy => hh y (List.mem_cons_of_mem _ hy))
    by_cases hk : k = .free
    · subst hk
      obtain ⟨c, hc⟩ := hh (n, .free) List.mem_cons_self rfl
      have e : cellOf env n = pure c := by unfold cellOf; rw [hc]
      have hc' : List.lookup n env.cells = some c := hc
      simp only [e, hc', Option.getD_some, beq_self_eq_true, if_true] at hr ⊢
      exact hr
    · have hb : (k == NameKind.free) = false := by simpa using hk
      simp only [hb, Bool.false_eq_true, if_false] at hr ⊢
      exact hr
private theorem closure_ok {scope : Scope} {env : Env} (h : ∀ y ∈ scope.names, y.2 = .free → ∃ c, env.cells.lookup y.1 = some c) : closureFor scope env = pure (closeL env scope.names []) := by
  unfold closureFor
  dsimp only
  rw [close_go _ (fun n k r => rfl) scope.names [] h]
  rfl
private theorem closeL_mem {env : Env} {n : Str} {c : Addr} : ∀ (names : List (Str × NameKind)) (acc : List (Str × Addr)), (n, c) ∈ closeL env names acc → (n, c) ∈ acc ∨ ((n, NameKind.free) ∈ names ∧ c = (env.cells.lookup n).getD 0)
  | [], acc, h => .inl h
  | (x, k) :: r, acc, h => by
    unfold closeL at h
    rcases closeL_mem r _ h with h | ⟨h1, h2⟩
    · by_cases hk : k = .free
      · subst hk
        simp only [beq_self_eq_true, if_true] at h
        rcases List.mem_cons.mp h with e | h
        · cases e; exact .inr ⟨List.mem_cons_self, rfl⟩
        · exact .inl h
      · have hb : (k == NameKind.free) = false := by simpa using hk
        simp only [hb, Bool.false_eq_true, if_false] at h
        exact .inl h
    · exact .inr ⟨List.mem_cons_of_mem _ h1, h2⟩
private theorem closeL_has {env : Env} {n : Str} : ∀ (names : List (Str × NameKind)) (acc : List (Str × Addr)), ((n, NameKind.free) ∈ names ∨ (acc.lookup n).isSome = true) → ((closeL env names acc).lookup n).isSome = true
  | [], acc, h => by
    rcases h with h | h
    · cases h
    · exact h
  | (x, k) :: r, acc, h => by
    unfold closeL
    refine closeL_has r _ ?_
    rcases h with h | h
    · rcases List.mem_cons.mp h with e | h
      · cases e
        right
        simp
      · exact .inl h
    · right
      by_cases hk : (k == NameKind.free) = true
      · rw [if_pos hk, List.lookup_cons]
        cases hx : n == x
        · exact h
        · rfl
      · (first | exact ((if_neg hk).trans (h)) | (rw [if_neg hk]; exact h))
private theorem cellsFrom_mem {n : Str} {c : Addr} : ∀ (names : List (Str × NameKind)) (k : Nat) (acc : List (Str × Addr)), (n, c) ∈ cellsFrom k names acc → (n, c) ∈ acc ∨ (k ≤ c ∧ (n, NameKind.cell) ∈ names)
  | [], _, _, h => .inl h
  | (x, q) :: r, k, acc, h => by
    unfold cellsFrom at h
    by_cases hq : (q == NameKind.cell) = true
    · rw [if_pos hq] at h
      have hq' : q = .cell := by simpa using hq
      rcases cellsFrom_mem r _ _ h with h | ⟨h1, h2⟩
      · rcases List.mem_cons.mp h with e | h
        · cases e; subst hq'; exact .inr ⟨Nat.le_refl _, List.mem_cons_self⟩
        · exact .inl h
      · exact .inr ⟨by omega, List.mem_cons_of_mem _ h2⟩
    · rw [if_neg hq] at h
      rcases cellsFrom_mem r _ _ h with h | ⟨h1, h2⟩
      · exact .inl h
      · exact .inr ⟨h1, List.mem_cons_of_mem _ h2⟩
private theorem cellsFrom_inj : ∀ (names : List (Str × NameKind)) (k : Nat) (acc : List (Str × Addr)), (∀ n c, (n, c) ∈ acc → c < k) → (∀ n n' c, (n, c) ∈ acc → (n', c) ∈ acc → n = n') → ∀ n n' c, (n, c) ∈ cellsFrom k names acc → (n', c) ∈ cellsFrom k names acc → n = n'
  | [], _, _, _, hi, n, n', c, h, h' => hi n n' c h h'
  | (x, q) :: r, k, acc, hl, hi, n, n', c, h, h' => by
    unfold cellsFrom at h h'
    by_cases hq : (q == NameKind.cell) = true
    · rw [if_pos hq] at h h'
      refine cellsFrom_inj r (k + 1) ((x, k) :: acc) (fun m d hm => ?_) (fun m m' d hm hm' => ?_) n n' c h h'
      · rcases List.mem_cons.mp hm with e | hm
        · cases e; exact Nat.lt_succ_self _
        · exact Nat.lt_succ_of_lt (hl m d hm)
      · rcases List.mem_cons.mp hm with e | hm
        · rcases List.mem_cons.mp hm' with e' | hm'
          · cases e; cases e'; rfl
          · cases e; exact absurd (hl m' _ hm') (Nat.lt_irrefl _)
        · rcases List.mem_cons.mp hm' with e' | hm'
          · cases e'; exact absurd (hl m _ hm) (Nat.lt_irrefl _)
          · exact hi m m' d hm hm'
    · rw [if_neg hq] at h h'
      exact cellsFrom_inj r k acc hl hi n n' c h h'
private theorem pushCells_cell {n : Str} {c : Addr} : ∀ (names : List (Str × NameKind)) (h : Heap) (acc : List (Str × Addr)), (n, c) ∈ cellsFrom h.objs.size names acc → (n, c) ∈ acc ∨ (pushCells h names).IsCell c none
  | [], _, _, q => .inl q
  | (x, k) :: r, h, acc, q => by
    unfold cellsFrom at q
    unfold pushCells
    by_cases hk : (k == NameKind.cell) = true
    · rw [if_pos hk] at q ⊢
      have := pushCells_cell r (h.push { cls := .type "cell", data := .cell none }) ((x, h.objs.size) :: acc) (by (first | exact ((Heap.size_push).trans (q)) | (rw [Heap.size_push]; exact q)))
      rcases this with z | z
      · rcases List.mem_cons.mp z with e | z
        · cases e
          exact .inr ⟨_, pushCells_keeps r _ _ _ (Heap.get?_push_size _ rfl), rfl⟩
        · exact .inl z
      · exact .inr z
    · rw [if_neg hk] at q ⊢
      exact pushCells_cell r h acc q
private theorem wpAny_newBlockEnv {M : Model} {A : Around} {E : Value → Shared → Prop} {s : Shared} {scope : Scope} {globals : Addr} {cl : List (Str × Addr)} {qual : Str} {env : Env} {Q : Env → Shared → Prop}
    (h : Q { scope, locals := s.heap.objs.size, globals, cells := cellsFrom (s.heap.objs.size + 1) scope.names cl, qual, func := none, code := env.code, frame := env.frame, builtins := env.builtins }
      { s with heap := pushCells (s.heap.push { cls := .type "dict", data := .dict #[] }) scope.names }) :
    wpAny M A (newFunctionEnv scope globals cl [] qual none .none (some env)) Q E s := by
  simp only [newFunctionEnv, Option.isSome_some, if_true]
  refine wpAny_bind (wpAny_alloc ?_)
  refine wpAny_bind (wpAny_layCells _ (fun name kind cells => by cases hkc : kind == NameKind.cell <;> simp [hkc]) _ _ _ _ ?_)
  rw [show ({ s with heap := s.heap.push { cls := .type "dict", data := .dict #[] } } : Shared).heap.objs.size = s.heap.objs.size + 1 from Heap.size_push ..]
  rw [List.forIn_nil]
  exact wpAny_bind (wpAny_pure (wpAny_pure h))
noncomputable def cpCx (X : Cx) (N : List Str) (scope : Scope) (s : Shared) (H : Hp) (fp : List Addr) (xe : Value → Shared → Prop) : Cx where
  prog := X.prog
  w := X.w
  K := X.K
  mg := X.mg
  base := X.base
  A := X.A
  N := N
  s0 := s
  H0 := H
  env := { scope := relabel scope X.env, locals := s.heap.objs.size, globals := X.env.globals, cells := cellsFrom (s.heap.objs.size + 1) scope.names (closeL X.env scope.names []), qual := X.env.qual, func := none, code := X.env.code, frame := X.env.frame, builtins := X.env.builtins }
  outer := X.stack
  stack := X.stack
  ex := fp
  fn := fun x => scope.names.lookup x == some .local || scope.names.lookup x == some .cell
  calm := X.calm
  pn := []
  xe := xe
structure CpScope (X : Cx) (scope : Scope) : Prop where
  kind : scope.kind = .function
  nd : (scope.names.map (·.1)).Nodup
  free : ∀ y ∈ scope.names, y.2 = .free → X.env.kindOf y.1 = some .cell ∨ X.env.kindOf y.1 = some .free
private theorem lookup_mem_nodup {α : Type} {x : Str} {k : α} : ∀ {l : List (Str × α)}, (l.map (·.1)).Nodup → (x, k) ∈ l → l.lookup x = some k
  | (y, q) :: r, nd, h => by
    rw [List.map_cons, List.nodup_cons] at nd
    rw [List.lookup_cons]
    rcases List.mem_cons.mp h with e | h
    · cases e; simp
    · have ne : (x == y) = false := by
        rw [beq_eq_false_iff_ne]
        intro e
        apply nd.1
        rw [← e]
        exact List.mem_map_of_mem (f := (·.1)) h
      rw [ne]
      exact lookup_mem_nodup nd.2 h
private theorem relabel_lookup {scope : Scope} {env : Env} {x : Str} {k : NameKind} (h : (relabel scope env).names.lookup x = some k) : scope.names.lookup x = some k ∨ (k = .cell ∧ scope.names.lookup x = some .free ∧ env.kindOf x = some .cell) := by
  unfold relabel at h
  dsimp only at h
  generalize scope.names = names at h ⊢
  induction names with
  | nil => cases h
  | cons y r ih =>
    obtain ⟨n, q⟩ := y
    rw [List.map_cons] at h
    have split : (if (q == NameKind.free && env.scope.kind == .function && env.kindOf n == some .cell) = true then (n, NameKind.cell) else (n, q)).1 = n := by split <;> rfl
    rw [List.lookup_cons] at h ⊢
    dsimp only at h
    rw [split] at h
    revert h; cases hx : x == n with
    | false => intro h; exact ih h
    | true =>
      intro h
      have e : x = n := beq_iff_eq.mp hx
      subst e
      by_cases hc : (q == NameKind.free && env.scope.kind == .function && env.kindOf x == some .cell) = true
      · rw [if_pos hc] at h
        simp only [Bool.and_eq_true, beq_iff_eq] at hc
        cases h
        right
        exact ⟨rfl, by rw [hc.1.1], hc.2⟩
      · rw [if_neg hc] at h
        left
        exact h
section
variable {X : Cx} {pins : List (Addr × Obj)} {σ : St} {H : Hp} {s : Shared} {scope : Scope}
private theorem Inv.capt (I : Inv X pins σ H s) (S : CpScope X scope) {x : Str} (h : (x, NameKind.free) ∈ scope.names) : ∃ c, X.env.cells.lookup x = some c := I.ok.has x (S.free _ h rfl)
private theorem cp_cells (I : Inv X pins σ H s) (S : CpScope X scope) {x : Str} {c : Addr} (h : (x, c) ∈ cellsFrom (s.heap.objs.size + 1) scope.names (closeL X.env scope.names [])) :
    ((x, NameKind.free) ∈ scope.names ∧ X.env.cells.lookup x = some c ∧ c < s.heap.objs.size) ∨ ((x, NameKind.cell) ∈ scope.names ∧ s.heap.objs.size < c ∧ ∀ h0 : Heap, h0.objs.size = s.heap.objs.size + 1 → (pushCells h0 scope.names).IsCell c none) := by
  rcases cellsFrom_mem _ _ _ h with h1 | ⟨h1, h2⟩
  · left
    rcases closeL_mem _ _ h1 with z | ⟨z, e⟩
    · cases z
    · obtain ⟨c', hc⟩ := I.capt S z
      rw [hc] at e
      have e' : c = c' := e
      subst e'
      obtain ⟨v, q⟩ := I.cell x c hc
      exact ⟨z, hc, q.lt⟩
  · right
    refine ⟨h2, h1, fun h0 e0 => ?_⟩
    have h' := h
    rw [← e0] at h'
    rcases pushCells_cell _ h0 _ h' with z | z
    · exfalso
      rcases closeL_mem _ _ z with z | ⟨z, e⟩
      · cases z
      · obtain ⟨c', hc⟩ := I.capt S z
        rw [hc] at e
        have e' : c = c' := e
        subst e'
        obtain ⟨v, q⟩ := I.cell x c hc
        exact Nat.lt_irrefl _ (Nat.lt_of_lt_of_le (Nat.lt_succ_of_lt q.lt) h1)
    · exact z
private theorem cp_start {N : List Str} {fp : List Addr} {xe : Value → Shared → Prop} {σ' : St} (I : Inv X pins σ H s) (S : CpScope X scope) (hf : ∀ b ∈ fp, FpOk X pins H b) (hfl : ∀ b ∈ fp, b < s.heap.objs.size) (hl : σ'.length = N.length)
    (hs : ∀ (j : Nat) (x : Str) (v : V), N[j]? = some x → σ'[j]? = some (some v) → (x, NameKind.free) ∈ scope.names ∧ ∃ i : Nat, X.N[i]? = some x ∧ σ[i]? = some (some v)) :
    Inv (cpCx X N scope s H fp xe) [] σ' H { s with heap := pushCells (s.heap.push { cls := .type "dict", data := .dict #[] }) scope.names } := by
  have hk : ∀ b o, s.heap.get? b = some o → (pushCells (s.heap.push { cls := .type "dict", data := .dict #[] }) scope.names).get? b = some o := fun b o e => pushCells_keeps _ _ _ _ (Heap.get?_push_of_some _ e)
  have hsz : (s.heap.push { cls := .type "dict", data := .dict #[] }).objs.size = s.heap.objs.size + 1 := Heap.size_push ..
  have lkm : ∀ {x : Str} {c : Addr}, (cpCx X N scope s H fp xe).env.cells.lookup x = some c → (x, c) ∈ cellsFrom (s.heap.objs.size + 1) scope.names (closeL X.env scope.names []) := fun h => PySem.mem_of_lookup h
  have lkc : ∀ {x : Str}, ((cpCx X N scope s H fp xe).env.kindOf x = some .cell ∨ (cpCx X N scope s H fp xe).env.kindOf x = some .free) → ∃ c, (cpCx X N scope s H fp xe).env.cells.lookup x = some c := fun {x} h => by
    refine Option.isSome_iff_exists.mp (PySem.W.cellsFrom_some _ _ _ ?_)
    have two : scope.names.lookup x = some .cell ∨ scope.names.lookup x = some .free := by
      rcases h with h | h
      · rcases relabel_lookup h with z | ⟨_, z, _⟩
        · exact .inl z
        · exact .inr z
      · rcases relabel_lookup h with z | ⟨z, _⟩
        · exact .inr z
        · cases z
    rcases two with z | z
    · exact .inl z
    · exact .inr (closeL_has _ _ (.inl (PySem.mem_of_lookup z)))
  have exP : ∀ b ∈ fp, ∀ x c, (cpCx X N scope s H fp xe).env.cells.lookup x = some c → c ≠ b := fun b hb x c e => by
    rcases cp_cells I S (lkm e) with ⟨_, q, _⟩ | ⟨_, q, _⟩
    · exact (hf b hb).2.2.2.2.1 x c q
    · intro z; subst z; exact Nat.lt_irrefl _ (Nat.lt_trans q (hfl _ hb))
  refine ⟨⟨I.ok.mod, S.kind, I.ok.glob, I.ok.blt, Nat.le_refl _, fun x y c h1 h2 => ?_, fun x h => lkc h, fun x c hx h => ?_, I.ok.hd, I.ok.frames, .inl rfl, fun b hb => ⟨?_, exP b hb⟩, I.bs, Nat.le_trans I.ok.bsz I.sz, fun b o e hb => ?_, fun b hb z => ?_, I.stack, I.stkFree⟩,
    rfl, I.bare, Un.kept hk, ⟨fun _ => none, ?_, fun j x v h1 h2 h3 => ?_⟩, fun x c e => ?_, I.fresh, fun x c e => ?_, fun p hp => ?_, I.hok.kept hk, hl⟩
  · refine cellsFrom_inj _ _ _ (fun n c h => ?_) (fun n n' c h h' => ?_) x y c (lkm h1) (lkm h2)
    · rcases closeL_mem _ _ h with z | ⟨z, e⟩
      · cases z
      · obtain ⟨c', hc⟩ := I.capt S z
        rw [hc] at e
        have e' : c = c' := e
        subst e'
        obtain ⟨v, q⟩ := I.cell n c hc
        exact Nat.lt_succ_of_lt q.lt
    · rcases closeL_mem _ _ h with z | ⟨z, e⟩
      · cases z
      · rcases closeL_mem _ _ h' with z' | ⟨z', e'⟩
        · cases z'
        · obtain ⟨d, hd⟩ := I.capt S z
          obtain ⟨d', hd'⟩ := I.capt S z'
          rw [hd] at e
          rw [hd'] at e'
          have e1 : c = d := e
          have e2 : c = d' := e'
          subst e1
          subst e2
          exact I.ok.inj _ _ _ hd hd'
  · rcases cp_cells I S (lkm h) with ⟨z, _, _⟩ | ⟨_, z, _⟩
    · exfalso
      have e1 := lookup_mem_nodup S.nd z
      have hx' : (scope.names.lookup x == some .local || scope.names.lookup x == some .cell) = true := hx
      (first | exact PyNso (e1) hx' | exact PyNso hx' (e1) | cases PySos (e1) hx' | (rw [e1] at hx'; cases hx'))
    · exact Nat.le_of_lt z
  · exact Nat.ne_of_lt (hfl b hb)
  · obtain ⟨_, _, _, h4, _⟩ := hf b hb
    rcases h4 with h4 | h4
    · exact I.ok.noex b o e h4
    · exact absurd (Nat.lt_of_lt_of_le (Heap.lt_size e) (Nat.le_trans I.ok.bsz h4)) (Nat.lt_irrefl _)
  · obtain ⟨_, h2, h3, _⟩ := hf b hb
    rcases List.mem_cons.mp (I.stkSub b z) with e | e
    · exact h2 e
    · exact h3 e
  · exact (Heap.Ns.new s.heap (.type "dict")).keeps (pushCells_keeps _ _)
  · obtain ⟨hx, i, e1, e2⟩ := hs j x v h1 h2
    obtain ⟨m, hn, hl'⟩ := I.loc
    have vis : Vis X.env.scope x := .inr (S.free _ hx rfl)
    obtain ⟨u, r, lk⟩ := hl' i x v e1 e2 vis
    refine ⟨u, r, .inr ?_⟩
    have hkf : (cpCx X N scope s H fp xe).env.kindOf x = some .cell ∨ (cpCx X N scope s H fp xe).env.kindOf x = some .free := by
      rcases h3 with z | z | z
      · exfalso
        rcases relabel_lookup z with z' | ⟨z', _⟩
        · (first | exact PyNso (lookup_mem_nodup S.nd hx) z' | exact PyNso z' (lookup_mem_nodup S.nd hx) | cases PySos (lookup_mem_nodup S.nd hx) z' | (rw [lookup_mem_nodup S.nd hx] at z'; cases z'))
        · cases z'
      · exact .inl z
      · exact .inr z
    refine ⟨hkf, ?_⟩
    obtain ⟨c, hc⟩ := lkc hkf
    refine ⟨c, hc, ?_⟩
    rcases cp_cells I S (lkm hc) with ⟨_, q, _⟩ | ⟨q, _, _⟩
    · rcases lk with ⟨z, _⟩ | ⟨_, c', hc', cell⟩
      · exfalso
        rcases S.free _ hx rfl with k | k <;> ((first | exact PyNso (k) z | exact PyNso z (k) | cases PySos (k) z | (rw [k] at z; cases z)))
      · (first | exact PyNso (q) hc' | exact PyNso hc' (q) | cases PySos (q) hc' | (rw [q] at hc'; cases hc'))
        exact cell.keeps hk
    · exfalso
      have a1 := lookup_mem_nodup S.nd hx
      have a2 := lookup_mem_nodup S.nd q
      (first | exact PyNso (a1) a2 | exact PyNso a2 (a1) | cases PySos (a1) a2 | (rw [a1] at a2; cases a2))
  · rcases cp_cells I S (lkm e) with ⟨_, q, _⟩ | ⟨_, _, q⟩
    · obtain ⟨v, z⟩ := I.cell x c q
      exact ⟨v, z.keeps hk⟩
    · exact ⟨_, q _ hsz⟩
  · rcases cp_cells I S (lkm e) with ⟨_, q, _⟩ | ⟨_, q, _⟩
    · exact I.freeC x c q
    · exact I.hok.fresh (Nat.le_of_lt q)
  · have hp' : p ∈ ([] : List (Addr × Obj)) := hp
    cases hp'
end
noncomputable abbrev TEm := Addr → St → Hp → (St → Hp → Prop) → Prop
noncomputable def cpIn (elt : Expr) (gens : List Comprehension) (sc : Scope) (pos : Pos) (d : Nat) (acc : Value) (env : Env) (k : Sem Fin) : Sem Fin :=
  match gens[d + 1]? with
  | some g' => do
    let x ← eval g'.iter env
    standAt g'.iter.pos
    let x ← foldedSetIterable g'.iter env x
    let _ ← runOwn (.compStart (.ListComp elt gens sc pos) (d + 1) (← holding [x] (pyIter x)) acc env) env
    k
  | none => do
    (do let _ ← call (.builtin "list.append") [acc, ← eval elt env])
    k
private theorem cp_turn {elt tg iter : Expr} {ifs : List Expr} {gens : List Comprehension} {sc : Scope} {pos : Pos} {d : Nat} {it acc : Value} {env : Env} (hg : gens[d]? = some ⟨tg, iter, ifs, 0⟩) (ha : ∀ g', gens[d + 1]? = some g' → g'.is_async = 0) :
    compTurn (.ListComp elt gens sc pos) d it acc env = (do
      standAt iter.pos
      match ← pyNext it with
      | none => pure (.done .next)
      | some v =>
        letOwnedTupleGo tg it v
        assign tg env v
        let mut ok := true
        for c in ifs do
          if ok then ok ← isTrue c env (eval c env)
        if ok then cpIn elt gens sc pos d acc env (again (.compLoop (.ListComp elt gens sc pos) d it acc env))
        else again (.compLoop (.ListComp elt gens sc pos) d it acc env)) := by
  unfold compTurn cpIn
  dsimp only
  rw [hg]
  cases hn : gens[d + 1]? with
  | none => rfl
  | some g' =>
    obtain ⟨t', i', f', a'⟩ := g'
    have e : a' = 0 := ha _ hn
    subst e
    rfl
noncomputable def PIfs (X : Cx) (ifs : List Expr) (t : TT) : Prop :=
  ∀ (pins : List (Addr × Obj)) (s : Shared) (σ : St) (H : Hp) (Q : Bool → Hp → Prop), Inv X pins σ H s → t σ H Q →
    wpAny (model X.prog X.w) X.A (forIn ifs true fun c r => if r = true then do let ok ← isTrue c X.env (eval c X.env); pure (ForInStep.yield ok) else pure (ForInStep.yield r)) (TP X pins σ Q) X.xe s
noncomputable def tTrue : TT := fun _ H Q => Q true H
private theorem pifs_nil {X : Cx} : PIfs X [] tTrue := fun pins s σ H Q I h => wpAny_tests_nil ⟨H, I, h⟩
private theorem pifs_one {X : Cx} {c : Expr} {t : TT} (h : PT X c t) : PIfs X [c] t := fun pins s σ H Q I hw => wpAny_tests_one (h pins s σ H Q I hw)
noncomputable def PEm (X : Cx) (elt : Expr) (gens : List Comprehension) (sc : Scope) (pos : Pos) (d : Nat) (t : TEm) : Prop :=
  ∀ (pins : List (Addr × Obj)) (s : Shared) (σ : St) (H : Hp) (D : Addr) (Q : St → Hp → Prop) (k : Sem Fin) (Q' : Fin → Shared → Prop) (E : Value → Shared → Prop), Inv X pins σ H s → t D σ H Q →
    (∀ s' σ' H', Inv X pins σ' H' s' → Q σ' H' → wpAny (model X.prog X.w) X.A k Q' E s') → wpAny (model X.prog X.w) X.A (cpIn elt gens sc pos d (.ref D) X.env k) Q' E s
noncomputable def tEmit (te : TE) : TEm := fun D σ H Q => te σ H fun y H1 => ∃ ys, H1 D = some (.lst ys) ∧ ys.length < sizeLine ∧ Q σ (upd H1 D (.lst (ys ++ [y])))
noncomputable def tLoop (J : It) (g : TG) (ti : TT) (tm : TEm) : TEm := fun D σ H Q => ∃ W : Nat → Nat → St → Hp → Prop, (∃ m, W 0 m σ H) ∧ ∀ i m σ H, W i m σ H →
  (J.stop i H ∧ Q σ H) ∨ (J.go i H ∧ ∃ N : St → Hp → Prop, (∀ σ' H', N σ' H' → ∃ m', m' < m ∧ W (i + 1) m' σ' H') ∧ ∀ x H', J.yld i H x H' → g x σ H' fun σ1 H1 => ti σ1 H1 fun b Hb => if b = true then tm D σ1 Hb N else N σ1 Hb)
section
variable {X : Cx} {elt tg iter : Expr} {ifs : List Expr} {gens : List Comprehension} {sc : Scope} {pos : Pos} {d : Nat}
private theorem nox_of (hx : ∀ e s, X.xe e s → False) {α : Type} {t : Sem α} {Q' : α → Shared → Prop} {E : Value → Shared → Prop} {s' : Shared} (hh : wpAny (model X.prog X.w) X.A t Q' X.xe s') : wpAny (model X.prog X.w) X.A t Q' E s' :=
  wpAny_mono hh (fun _ _ z => z) fun e s' z => (hx e s' z).elim
private theorem pem_emit {te : TE} (hx : ∀ e s, X.xe e s → False) (he : PE X elt te) (hg : gens[d + 1]? = none) : PEm X elt gens sc pos d (tEmit te) := by
  intro pins s σ H D Q k Q' E I h hk
  unfold cpIn
  rw [hg]
  refine wpAny_bind (wpAny_bind (nox_of hx (thn (he pins s σ H _ I h) fun u s1 ⟨y, H1, I1, r1, ys, e1, z1, q1⟩ => ?_)))
  refine wpAny_bind (nox_of hx (thn (mt_append pins s1 σ H1 (.ref D) [y] (.ref D) [u] (fun _ H' => Q σ H') I1 rfl (.cons r1 .nil) ⟨D, ys, y, rfl, rfl, e1, z1, q1⟩) fun _ s2 ⟨_, H2, I2, _, q2⟩ => ?_))
  exact wpAny_pure (hk s2 σ H2 I2 q2)
private theorem cp_loop {g : TG} {ti : TT} {tm : TEm} (hx : ∀ e s, X.xe e s → False) (hc : X.calm = true) (hg : gens[d]? = some ⟨tg, iter, ifs, 0⟩) (ha : ∀ g', gens[d + 1]? = some g' → g'.is_async = 0) (hgt : PG X tg g) (hi : PIfs X ifs ti) (hm : PEm X elt gens sc pos d tm)
    {pins : List (Addr × Obj)} {σ : St} {H : Hp} {s : Shared} {D : Addr} {Q : St → Hp → Prop} {J : It} {it : Addr} {fp : List Addr} {tn : Nat → Heap → Prop} (T : Turn X.prog X.w X.K tg J fp it tn) (I : Inv X pins σ H s) (st : tn 0 s.heap) (hf : ∀ b ∈ fp, FpOk X pins H b)
    (h : tLoop J g ti tm D σ H Q) {R : Result → Shared → Prop} (hR : ∀ s' σ' H', Inv X pins σ' H' s' → Q σ' H' → R (.ok .next) s') :
    codeAny (model X.prog X.w) X.A (.compLoop (.ListComp elt gens sc pos) d (.ref it) (.ref D) X.env) R s := by
  obtain ⟨W, ⟨m0, w0⟩, turn⟩ := h
  have stat : ∀ {H' : Hp}, (∀ b ∈ fp, H' b = none) → ∀ b ∈ fp, FpOk X pins H' b := fun hn b hb => ⟨hn b hb, (hf b hb).2⟩
  refine codeAny_loop rfl (fun n s' => ∃ i σ' H', Inv X pins σ' H' s' ∧ tn i s'.heap ∧ (∀ b ∈ fp, H' b = none) ∧ W i n σ' H') (fun n s3 hI => ?_) m0 ⟨0, σ, H, I, st, fun b hb => (hf b hb).1, w0⟩
  show wpAny _ X.A ((compTurn (.ListComp elt gens sc pos) d (.ref it) (.ref D) X.env).onRaise (fun x => do noteFrame x X.env; theTreesLotGoes x)) _ _ s3
  refine wpAny_noted ?_
  rw [cp_turn hg ha]
  refine wpAny_bind (wpAny_standAt ?_)
  obtain ⟨i, σ3, H3, I3, st3, fr3, w3⟩ := hI
  rcases turn i n σ3 H3 w3 with ⟨stop, qn⟩ | ⟨go, N, hN, step⟩
  · refine wpAny_bind (thn (T.done X rfl rfl rfl hc i pins s3 σ3 H3 _ I3 (stat fr3) st3 stop) fun r s4 ⟨hr, I4⟩ => ?_)
    subst hr
    exact wpAny_pure (hR s4 σ3 H3 I4 qn)
  · refine wpAny_bind (thn (T.item X rfl rfl rfl hc i pins s3 σ3 H3 _ I3 (stat fr3) st3 go) fun r s4 ⟨u, hr, h4⟩ => ?_)
    subst hr
    refine wpAny_bind (thn h4 fun _ s5 ⟨x, H5, I5, r5, y5, st5, fr5⟩ => ?_)
    have I5' := I5.pinned (stat fr5) (T.obj _ _ st5)
    have back : ∀ {σ7 : St} {H7 : Hp} {s7 : Shared}, Inv X (pins ++ pinsAt fp s5.heap) σ7 H7 s7 → N σ7 H7 → ∃ m, m < n ∧ ∃ i σ' H', Inv X pins σ' H' s7 ∧ tn i s7.heap ∧ (∀ b ∈ fp, H' b = none) ∧ W i m σ' H' := fun {σ7 H7 s7} I7 n7 => by
      obtain ⟨m', hm, w7⟩ := hN σ7 H7 n7
      refine ⟨m', hm, i + 1, σ7, H7, I7.unpinned, T.keep _ _ _ st5 fun b hb o e => (I7.pin (b, o) (List.mem_append_right _ (List.mem_append_right _ (mem_pinsAt hb e)))).1, fun b hb => ?_, w7⟩
      obtain ⟨o, e, d⟩ := T.obj _ _ st5 b hb
      exact (I7.pin (b, o) (List.mem_append_right _ (List.mem_append_right _ (mem_pinsAt hb e)))).2.1
    refine wpAny_bind (nox_of hx (thn (hgt _ s5 σ3 H5 x u _ I5' r5 (step x H5 y5)) fun _ s6 ⟨σ6, H6, I6, q6⟩ => ?_))
    refine wpAny_bind (nox_of hx (thn (hi _ s6 σ6 H6 _ I6 q6) fun ok s7 ⟨H7, I7, q7⟩ => ?_))
    cases ok with
    | false => exact wpAny_pure ⟨rfl, back I7 q7⟩
    | true =>
      rw [if_pos rfl] at q7
      exact hm _ s7 σ6 H7 D _ _ _ _ I7 q7 fun s8 σ8 H8 I8 q8 => wpAny_pure ⟨rfl, back I8 q8⟩
private theorem cp_go {g : TG} {ti : TT} {tm : TEm} (hx : ∀ e s, X.xe e s → False) (hc : X.calm = true) (hg : gens[d]? = some ⟨tg, iter, ifs, 0⟩) (ha : ∀ g', gens[d + 1]? = some g' → g'.is_async = 0) (hgt : PG X tg g) (hi : PIfs X ifs ti) (hm : PEm X elt gens sc pos d tm)
    {pins : List (Addr × Obj)} {σ : St} {H : Hp} {s : Shared} {D : Addr} {Q : St → Hp → Prop} {J : It} {it : Addr} {fp : List Addr} {tn : Nat → Heap → Prop} (T : Turn X.prog X.w X.K tg J fp it tn) (I : Inv X pins σ H s) (st : tn 0 s.heap) (hf : ∀ b ∈ fp, FpOk X pins H b)
    (h : tLoop J g ti tm D σ H Q) {R : Result → Shared → Prop} (hR : ∀ s' σ' H', Inv X pins σ' H' s' → Q σ' H' → R (.ok .next) s') :
    codeAny (model X.prog X.w) X.A (.compStart (.ListComp elt gens sc pos) d (.ref it) (.ref D) X.env) R s := by
  have loop := cp_loop hx hc hg ha hgt hi hm T I st hf h hR
  refine codeAny_of_tree ?_
  show wpAny _ _ ((compStart (.ListComp elt gens sc pos) d (.ref it) (.ref D) X.env).onRaise (fun x => do noteFrame x X.env; standAt theWindowsPlace)) _ _ s
  refine wpAny_notedAt ?_
  unfold compStart
  have hcl : (clausesOf (.ListComp elt gens sc pos))[d]? = some ⟨tg, iter, ifs, 0⟩ := hg
  rw [hcl]
  show wpAny _ _ (ask >>= _) _ _ s
  refine wpAny_bind (wpAny_askSetting (wpAny_ite ?_))
  split
  · first
      | exact wpAny_bind (wpAny_pure (wpAny_pure (And.intro rfl loop)))
      | exact wpAny_pure (And.intro rfl loop)
  · first
      | exact wpAny_bind (wpAny_rule (wpAny_bind (wpAny_standAt (wpAny_bind (T.self _ 0 s _ _ st (wpAny_pure (And.intro rfl loop)))))))
      | (refine wpAny_bind (wpAny_rule ?_); show wpAny _ _ (standAt iter.pos >>= _) _ _ s; exact wpAny_bind (wpAny_standAt (wpAny_bind (T.self _ 0 s _ _ st (wpAny_pure (And.intro rfl loop))))))
end
noncomputable def ncap (nl : Nat) (cap : List Nat) (σ : St) : St := List.replicate nl none ++ cap.map fun i => (σ[i]?).join
noncomputable def capOk (M N : List Str) (scope : Scope) (nl : Nat) (cap : List Nat) : Bool :=
  N.length == nl + cap.length && (List.range cap.length).all fun k => match N[nl + k]?, M[cap.getD k 0]? with
    | some x, some y => x == y && scope.names.any fun z => z.1 == x && z.2 == NameKind.free
    | _, _ => false
private theorem capOk_of {M N : List Str} {scope : Scope} {nl : Nat} {cap : List Nat} (h : capOk M N scope nl cap = true) {σ : St} : (ncap nl cap σ).length = N.length ∧
    ∀ (j : Nat) (x : Str) (v : V), N[j]? = some x → (ncap nl cap σ)[j]? = some (some v) → (x, NameKind.free) ∈ scope.names ∧ ∃ i : Nat, M[i]? = some x ∧ σ[i]? = some (some v) := by
  unfold capOk at h
  rw [Bool.and_eq_true, beq_iff_eq] at h
  obtain ⟨h1, h2⟩ := h
  refine ⟨by unfold ncap; simp [h1], fun j x v e1 e2 => ?_⟩
  unfold ncap at e2
  by_cases hj : j < nl
  · rw [List.getElem?_append_left (by simpa using hj), List.getElem?_replicate] at e2
    split at e2 <;> cases e2
  · rw [List.getElem?_append_right (by simpa using hj), List.length_replicate, List.getElem?_map] at e2
    revert e2; cases hc : cap[j - nl]? with
    | none => intro e2; cases e2
    | some i =>
      intro e2
      have e2' : (σ[i]?).join = some v := Option.some.inj e2
      have hk : j - nl < cap.length := (List.getElem?_eq_some_iff.mp hc).1
      have h3 := List.all_eq_true.mp h2 (j - nl) (List.mem_range.mpr hk)
      have ej : nl + (j - nl) = j := by omega
      rw [ej, e1] at h3
      have ec : cap.getD (j - nl) 0 = i := by rw [List.getD_eq_getElem?_getD, hc]; rfl
      rw [ec] at h3
      revert h3; cases hm : M[i]? with
      | none => intro h3; cases h3
      | some y =>
        intro h3
        rw [Bool.and_eq_true, beq_iff_eq] at h3
        obtain ⟨h4, h5⟩ := h3
        subst h4
        obtain ⟨z, hz, hz2⟩ := List.any_eq_true.mp h5
        rw [Bool.and_eq_true, beq_iff_eq, beq_iff_eq] at hz2
        refine ⟨?_, i, hm, ?_⟩
        · obtain ⟨z1, z2⟩ := z
          obtain ⟨a1, a2⟩ := hz2
          cases a1; cases a2
          exact hz
        · revert e2'; cases hs : σ[i]? with
          | none => intro e2'; cases e2'
          | some o => intro e2'; cases o with
            | none => cases e2'
            | some w => cases e2'; rfl
noncomputable abbrev noxe : Value → Shared → Prop := fun _ _ => False
noncomputable def tComp (K : PySem.W.Frag) (wi : TI) (g : TG) (ti : TT) (tm : TEm) (nl : Nat) (cap : List Nat) : TE := fun σ H Q => wi σ H fun J H2 => ∀ D, H2 D = none → K.lookup D = none → tLoop J g ti tm D (ncap nl cap σ) (upd H2 D (.lst [])) fun _ H' => Q (.ref D) H'
section
variable {X : Cx} {elt tg iter : Expr} {ifs : List Expr} {gs : List Comprehension} {sc : Scope} {pos p : Pos} {wi : TI} {g : TG} {ti : TT} {tm : TEm} {N : List Str} {nl : Nat} {cap : List Nat}
private theorem cp_core (hc : X.calm = true) (S : CpScope X sc) (hcap : capOk X.N N sc nl cap = true) (ha : ∀ g', gs[0]? = some g' → g'.is_async = 0) (hw : PI X tg iter wi)
    {pins : List (Addr × Obj)} {σ : St}
    (hin : ∀ s H fp, Inv X pins σ H s → (∀ b ∈ fp, FpOk X pins H b) → PG (cpCx X N sc s H fp noxe) tg g ∧ PIfs (cpCx X N sc s H fp noxe) ifs ti ∧ PEm (cpCx X N sc s H fp noxe) elt (⟨tg, iter, ifs, 0⟩ :: gs) sc pos 0 tm)
    {H : Hp} {s : Shared} {Q : VK} (I : Inv X pins σ H s) (h : tComp X.K wi g ti tm nl cap σ H Q)
    {use : Option (Value → Sem Unit)} {Q' : Value → Shared → Prop}
    (hend : ∀ (D C : Addr) (s' : Shared) (H' : Hp) (m : Str → Option Value), Inv X pins σ H' s' → Q (.ref D) H' → s'.heap.Ns C m → H' C = none → C ≠ X.env.locals → X.s0.heap.objs.size ≤ C → (∀ x c, X.env.cells.lookup x = some c → c ≠ C) → (∀ q ∈ X.pn ++ pins, q.1 ≠ C) →
      compPost (model X.prog X.w) X.A X.xe use Q' (.ref D) C (.ok .next) s')
    (hs : autoParam (∀ x, foldedSetIterable iter X.env x = pure x) PyProof.Rows.Assign_ListComp_rowsP._auto_1) :
    wpAny (model X.prog X.w) X.A (comprehension (.ListComp elt (⟨tg, iter, ifs, 0⟩ :: gs) sc pos) sc X.env p (newList []) false (eval iter X.env) use) Q' X.xe s := by
  have hfree : ∀ y ∈ sc.names, y.2 = .free → ∃ c, X.env.cells.lookup y.1 = some c := fun y hy e => I.ok.has _ (S.free y hy e)
  refine wpAny_comprehension_free (use := use) rfl hs (closure_ok hfree) S.kind (fun y hy e => by
    obtain ⟨y1, y2⟩ := y
    have e' : y2 = .local := e
    subst e'
    exact lookup_mem_nodup S.nd hy) ?_
  refine thn (hw pins s σ H _ I h) fun v s1 h1 => thn h1 fun itv s2 h2 => ?_
  obtain ⟨it, fp, tn, J, H2, e, I2, T, st2, f2, q2⟩ := h2
  subst e
  refine wpAny_newObj_type ?_
  have hD : H2 s2.heap.objs.size = none := I2.fresh
  have hKD : X.K.lookup s2.heap.objs.size = none := by
    cases ek : X.K.lookup s2.heap.objs.size with
    | none => rfl
    | some o => exact absurd (Heap.lt_size (I2.kIn _ _ ek)) (Nat.lt_irrefl _)
  have q3 := q2 _ hD hKD
  generalize hs3 : ({ s2 with heap := s2.heap.push { cls := .type "list", data := .seq ([] : List Value).toArray } } : Shared) = s3
  have hs3' : s3 = { s2 with heap := s2.heap.push { cls := .type "list", data := .seq ([] : List Value).toArray } } := hs3.symm
  have I3 : Inv X pins σ (upd H2 s2.heap.objs.size (.lst [])) s3 := by
    rw [hs3']
    exact I2.laid (t' := s2.toks) (fun b u e => Heap.get?_push_of_some _ e) (Nat.le_refl _) ⟨by simp, [], 0, .nil, Heap.get?_push_size _ rfl⟩
  have fpo : ∀ b ∈ fp, ∃ o, s2.heap.get? b = some o := fun b hb => let ⟨o, e, _⟩ := T.obj 0 _ st2 b hb; ⟨o, e⟩
  have sz3 : s3.heap.objs.size = s2.heap.objs.size + 1 := by (first | exact ((hs3').trans (Heap.size_push ..)) | (rw [hs3']; exact Heap.size_push ..))
  have st3 : tn 0 s3.heap := T.keep _ _ _ st2 fun b hb o e => by rw [hs3']; exact Heap.get?_push_of_some _ e
  have fl3 : ∀ b ∈ fp, b < s3.heap.objs.size := fun b hb => by
    obtain ⟨o, e⟩ := fpo b hb
    (first | exact ((sz3).trans (Nat.lt_succ_of_lt (Heap.lt_size e))) | (rw [sz3]; exact Nat.lt_succ_of_lt (Heap.lt_size e)))
  have f3 : ∀ b ∈ fp, FpOk X pins (upd H2 s2.heap.objs.size (.lst [])) b := fun b hb => by
    obtain ⟨o, e⟩ := fpo b hb
    refine ⟨?_, (f2 b hb).2⟩
    rw [upd_ne (Nat.ne_of_lt (Heap.lt_size e))]
    exact (f2 b hb).1
  generalize upd H2 s2.heap.objs.size (.lst []) = H3 at I3 f3 q3
  generalize s2.heap.objs.size = D at q3 ⊢
  refine wpAny_newBlockEnv ?_
  obtain ⟨cl, cs⟩ := capOk_of hcap (σ := σ)
  have I4 := cp_start (xe := noxe) I3 S f3 fl3 cl cs
  obtain ⟨hgt, hi, hm⟩ := hin s3 H3 fp I3 f3
  refine cp_go (X := cpCx X N sc s3 H3 fp noxe) (gens := ⟨tg, iter, ifs, 0⟩ :: gs) (d := 0) (fun _ _ z => z) hc rfl ha hgt hi hm T I4 (T.keep _ _ _ st3 fun b hb o e => pushCells_keeps _ _ _ _ (Heap.get?_push_of_some _ e)) (fun b hb => ?_) q3 fun s' σ' H' I' q' => ?_
  · obtain ⟨g1, g2, g3, g4, g5, g6⟩ := f3 b hb
    refine ⟨g1, Nat.ne_of_lt (fl3 b hb), fun z => ?_, .inl hb, (I4.ok.exf b hb).2, fun p hp => absurd (show p ∈ ([] : List (Addr × Obj)) from hp) (by simp)⟩
    rcases List.mem_cons.mp (I3.stkSub b z) with e | e
    · exact g2 e
    · exact g3 e
  · have I5 : Inv X pins σ H' s' := I3.call' I'.os I'.base I'.hok I'.bare fun b hb => by
      obtain ⟨g1, g2, g3, g4, g5, g6⟩ := f3 b hb
      exact ⟨g4, g2, g5, g6⟩
    obtain ⟨m, hn, _⟩ := I'.loc
    refine hend D _ s' H' m I5 q' hn I'.free (Nat.ne_of_gt I3.lt) I3.sz (fun x c e z => ?_) fun q hq z => ?_
    · obtain ⟨v, w⟩ := I3.cell x c e
      exact Nat.lt_irrefl _ (Nat.lt_of_lt_of_le w.lt (by (first | exact ((z).trans (Nat.le_refl _)) | (rw [z]; exact Nat.le_refl _))))
    · exact Nat.lt_irrefl _ (Nat.lt_of_lt_of_le (Heap.lt_size (I3.pin q hq).1) (by (first | exact ((z).trans (Nat.le_refl _)) | (rw [z]; exact Nat.le_refl _))))
private theorem pe_comp (hc : X.calm = true) (S : CpScope X sc) (hcap : capOk X.N N sc nl cap = true) (ha : ∀ g', gs[0]? = some g' → g'.is_async = 0) (hw : PI X tg iter wi)
    (hin : ∀ s H fp, PG (cpCx X N sc s H fp noxe) tg g ∧ PIfs (cpCx X N sc s H fp noxe) ifs ti ∧ PEm (cpCx X N sc s H fp noxe) elt (⟨tg, iter, ifs, 0⟩ :: gs) sc pos 0 tm)
    (hs : autoParam (∀ x, foldedSetIterable iter X.env x = pure x) PyProof.Rows.Assign_ListComp_rowsP._auto_1) : PE X (.ListComp elt (⟨tg, iter, ifs, 0⟩ :: gs) sc pos) (tComp X.K wi g ti tm nl cap) := by
  intro pins s σ H Q I h
  rw [eval_ListComp]
  refine cp_core (use := none) hc S hcap ha hw (fun s H fp _ _ => hin s H fp) I h (fun D C s' H' m I' q hn h1 h2 h3 h4 h5 => ?_) hs
  exact ⟨m, hn, fun h' sb => ⟨.ref D, H', I'.turned (t' := s'.toks) (fun b o hb e => (sb.2 b hb).trans e) h1 h2 (.inr h3) h4 h5, rfl, q⟩⟩
end
end L2
namespace Mi
open PySem PySem.Spec PyProof.Rows L2
inductive W where
  | non | bl (b : Bool) | int (i : Int) | str (x : Str) | tup (xs : List W) | ref (n : Nat)
  | clo (k : Nat) (xs : List W) (P : Obj → Addr → Obj → List V → Prop)
  | xc (x : Str)
inductive O where
  | lst (xs : List W) | ro (xs : List W) | dct (kvs : List (Key × W))
  | tab (q : Str) (P : Addr)
noncomputable def O.mut : O → Bool
  | .ro _ => false
  | _ => true
noncomputable abbrev Hx := List O
noncomputable abbrev En := List (Option W)
inductive R (α : Type) where
  | ok (a : α) (A : Hx) | exc (x : Str) (A : Hx) | bad
noncomputable def R.bind {α β : Type} (r : R α) (f : α → Hx → R β) : R β := match r with
  | .ok a A => f a A
  | .exc x A => .exc x A
  | .bad => .bad
noncomputable def R.post {α : Type} (r : R α) (P : α → Hx → Prop) (E : Str → Hx → Prop) : Prop := match r with
  | .ok a A => P a A
  | .exc x A => E x A
  | .bad => False
noncomputable def R.nox {α : Type} (r : R α) : R α := match r with
  | .ok a A => .ok a A
  | .exc _ _ => .bad
  | .bad => .bad
section
variable {α β : Type} {r : R α} {f : α → Hx → R β} {P Q : α → Hx → Prop} {P' : β → Hx → Prop} {E F : Str → Hx → Prop}
private theorem bind_ok {a : α} {A : Hx} : (R.ok a A).bind f = f a A := rfl
private theorem bind_exc {x : Str} {A : Hx} : (R.exc x A : R α).bind f = .exc x A := rfl
private theorem post_bind : (r.bind f).post P' E ↔ r.post (fun a A => (f a A).post P' E) E := by cases r <;> exact Iff.rfl
private theorem post_mono (h : r.post P E) (hP : ∀ a A, P a A → Q a A) (hE : ∀ x A, E x A → F x A) : r.post Q F := by
  cases r with
  | ok a A => exact hP _ _ h
  | exc x A => exact hE _ _ h
  | bad => exact h
end
noncomputable abbrev Ev := En → Hx → R W
inductive TupR (K : PySem.W.Frag) (H : Hp) (R : List V → Prop) (v : V) : Prop
  | mk (a : Addr) (vs : List V) (e : v = .ref a) (h : SqT K H a vs) (r : R vs)
inductive CloR (H : Hp) (P : Obj → Addr → Obj → List V → Prop) (R : List V → Prop) (v : V) : Prop
  | mk (a : Addr) (ob : Obj) (u : HO) (c : Addr) (oc : Obj) (uc : HO) (vs : List V) (e : v = .ref a) (h1 : H a = some (.frz ob u)) (h2 : H c = some (.frz oc uc)) (p : P ob c oc vs) (r : R vs)
inductive ConR (R : V → Prop) (Rs : List V → Prop) (vs : List V) : Prop
  | mk (v : V) (r : List V) (e : vs = v :: r) (h : R v) (t : Rs r)
mutual
noncomputable def RV (K : PySem.W.Frag) (φ : List Addr) (H : Hp) : W → V → Prop
  | .non, v => v = .non
  | .bl b, v => v = .bl b
  | .int i, v => v = .int i
  | .str x, v => v = .str x
  | .tup ws, v => TupR K H (RVs K φ H ws) v
  | .ref n, v => ∃ a, v = .ref a ∧ φ[n]? = some a
  | .clo _ ws P, v => CloR H P (RVs K φ H ws) v
  | .xc x, v => ∃ a oe u C, v = .ref a ∧ H a = some (.frz oe u) ∧ oe.cls = .ref C ∧ PySem.W.nsIn K mainGlobals x = some (some (.ref C))
noncomputable def RVs (K : PySem.W.Frag) (φ : List Addr) (H : Hp) : List W → List V → Prop
  | [], vs => vs = []
  | w :: ws, vs => ConR (RV K φ H w) (RVs K φ H ws) vs
end
structure Le (K : PySem.W.Frag) (φ : List Addr) (H : Hp) (φ' : List Addr) (H' : Hp) : Prop where
  ex : ∀ (n : Nat) (a : Addr), φ[n]? = some a → φ'[n]? = some a
  tp : ∀ a vs, SqT K H a vs → SqT K H' a vs
  fr : ∀ a o, H a = some o → (∀ n : Nat, φ[n]? ≠ some a) → H' a = some o
  nw : ∀ (n : Nat) (a : Addr), φ'[n]? = some a → φ[n]? = some a ∨ H a = none
  st : ∀ a, H' a = none → H a = none
  fz : ∀ a o u, H a = some (.frz o u) → H' a = some (.frz o u)
private theorem Le.refl {K φ H} : Le K φ H φ H := ⟨fun _ _ h => h, fun _ _ h => h, fun _ _ h _ => h, fun _ _ h => .inl h, fun _ h => h, fun _ _ _ h => h⟩
private theorem Le.trans {K φ H φ1 H1 φ2 H2} (a : Le K φ H φ1 H1) (b : Le K φ1 H1 φ2 H2) : Le K φ H φ2 H2 where
  ex := fun n x h => b.ex n x (a.ex n x h)
  tp := fun n x h => b.tp n x (a.tp n x h)
  fr := fun c o h n => b.fr c o (a.fr c o h n) fun k e => by
    rcases a.nw k c e with e | e
    · exact n k e
    · (first | exact PyNso (h) e | exact PyNso e (h) | cases PySos (h) e | (rw [h] at e; cases e))
  nw := fun n c e => by
    rcases b.nw n c e with e | e
    · exact a.nw n c e
    · exact .inr (a.st c e)
  st := fun c e => a.st c (b.st c e)
  fz := fun c o u h => b.fz c o u (a.fz c o u h)
private theorem Le.off {K φ H φ' H'} (l : Le K φ H φ' H') {D : Addr} {o : HO} (h : H D = some o) (n : ∀ k : Nat, φ[k]? ≠ some D) : H' D = some o ∧ ∀ k : Nat, φ'[k]? ≠ some D :=
  ⟨l.fr D o h n, fun k e => by
    rcases l.nw k D e with e | e
    · exact n k e
    · (first | exact PyNso (h) e | exact PyNso e (h) | cases PySos (h) e | (rw [h] at e; cases e))⟩
section
variable {K : PySem.W.Frag} {φ φ' : List Addr} {H H' : Hp}
structure LeW (K : PySem.W.Frag) (φ : List Addr) (H : Hp) (φ' : List Addr) (H' : Hp) : Prop where
  ex : ∀ (n : Nat) (a : Addr), φ[n]? = some a → φ'[n]? = some a
  tp : ∀ a vs, SqT K H a vs → SqT K H' a vs
  fz : ∀ a o u, H a = some (.frz o u) → H' a = some (.frz o u)
mutual
private theorem RV.monoW (l : LeW K φ H φ' H') : ∀ {w : W} {v : V}, RV K φ H w v → RV K φ' H' w v
  | .non, _, h => h
  | .bl _, _, h => h
  | .int _, _, h => h
  | .str _, _, h => h
  | .tup ws, _, ⟨a, vs, e, t, r⟩ => ⟨a, vs, e, l.tp _ _ t, RVs.monoW l r⟩
  | .ref n, _, ⟨a, e, f⟩ => ⟨a, e, l.ex _ _ f⟩
  | .clo _ ws P, _, ⟨a, ob, u, c, oc, uc, vs, e, h1, h2, h3, r⟩ => ⟨a, ob, u, c, oc, uc, vs, e, l.fz _ _ _ h1, l.fz _ _ _ h2, h3, RVs.monoW l r⟩
  | .xc x, _, ⟨a, oe, u, C, e, h1, h2⟩ => ⟨a, oe, u, C, e, l.fz _ _ _ h1, h2⟩
private theorem RVs.monoW (l : LeW K φ H φ' H') : ∀ {ws : List W} {vs : List V}, RVs K φ H ws vs → RVs K φ' H' ws vs
  | [], _, h => h
  | w :: ws, _, ⟨v, r, e, h, t⟩ => ⟨v, r, e, RV.monoW l h, RVs.monoW l t⟩
end
private theorem RV.mono {w : W} {v : V} (h : RV K φ H w v) (l : Le K φ H φ' H') : RV K φ' H' w v := RV.monoW ⟨l.ex, l.tp, l.fz⟩ h
private theorem RVs.mono {w : List W} {v : List V} (h : RVs K φ H w v) (l : Le K φ H φ' H') : RVs K φ' H' w v := RVs.monoW ⟨l.ex, l.tp, l.fz⟩ h
structure LeD (K : PySem.W.Frag) (D : Addr) (φ : List Addr) (H : Hp) (φ' : List Addr) (H' : Hp) : Prop where
  ex : ∀ (n : Nat) (a : Addr), φ[n]? = some a → φ'[n]? = some a
  tp : ∀ a vs, SqT K H a vs → SqT K H' a vs
  fr : ∀ a o, a ≠ D → H a = some o → (∀ n : Nat, φ[n]? ≠ some a) → H' a = some o
  nw : ∀ (n : Nat) (a : Addr), φ'[n]? = some a → φ[n]? = some a ∨ H a = none
  st : ∀ a, H' a = none → H a = none
  fz : ∀ a o u, H a = some (.frz o u) → H' a = some (.frz o u)
private theorem LeD.refl {D} : LeD K D φ H φ H := ⟨fun _ _ h => h, fun _ _ h => h, fun _ _ _ h _ => h, fun _ _ h => .inl h, fun _ h => h, fun _ _ _ h => h⟩
private theorem Le.toD {D} (l : Le K φ H φ' H') : LeD K D φ H φ' H' := ⟨l.ex, l.tp, fun a o _ h n => l.fr a o h n, l.nw, l.st, l.fz⟩
private theorem LeD.trans {D φ1 H1 φ2 H2} (a : LeD K D φ H φ1 H1) (b : LeD K D φ1 H1 φ2 H2) : LeD K D φ H φ2 H2 where
  ex := fun n x h => b.ex n x (a.ex n x h)
  tp := fun n x h => b.tp n x (a.tp n x h)
  fr := fun c o ne h n => b.fr c o ne (a.fr c o ne h n) fun k e => by
    rcases a.nw k c e with e | e
    · exact n k e
    · (first | exact PyNso (h) e | exact PyNso e (h) | cases PySos (h) e | (rw [h] at e; cases e))
  nw := fun n c e => by
    rcases b.nw n c e with e | e
    · exact a.nw n c e
    · exact .inr (a.st c e)
  st := fun c e => a.st c (b.st c e)
  fz := fun c o u h => b.fz c o u (a.fz c o u h)
private theorem RV.monoD {D} {w : W} {v : V} (h : RV K φ H w v) (l : LeD K D φ H φ' H') : RV K φ' H' w v := RV.monoW ⟨l.ex, l.tp, l.fz⟩ h
private theorem RVs.monoD {D} {w : List W} {v : List V} (h : RVs K φ H w v) (l : LeD K D φ H φ' H') : RVs K φ' H' w v := RVs.monoW ⟨l.ex, l.tp, l.fz⟩ h
private theorem RVs.length : ∀ {ws : List W} {vs : List V}, RVs K φ H ws vs → ws.length = vs.length
  | [], _, h => by cases h; rfl
  | w :: ws, _, ⟨v, r, e, _, t⟩ => by subst e; simp [RVs.length t]
private theorem RVs.get : ∀ {ws : List W} {vs : List V} {i : Nat} {w : W}, RVs K φ H ws vs → ws[i]? = some w → ∃ v, vs[i]? = some v ∧ RV K φ H w v
  | [], _, _, _, _, e => by simp at e
  | w :: ws, _, 0, _, ⟨v, r, e, h, t⟩, q => by subst e; simp at q; subst q; exact ⟨v, by simp, h⟩
  | w :: ws, _, i + 1, x, ⟨v, r, e, h, t⟩, q => by
    subst e
    obtain ⟨y, h1, h2⟩ := RVs.get (i := i) (w := x) t (by simpa using q)
    exact ⟨y, by simpa using h1, h2⟩
private theorem RVs.append : ∀ {ws us : List W} {vs xs : List V}, RVs K φ H ws vs → RVs K φ H us xs → RVs K φ H (ws ++ us) (vs ++ xs)
  | [], _, _, _, h, t => by cases h; exact t
  | w :: ws, _, _, _, ⟨v, r, e, h, t⟩, t2 => by subst e; exact ⟨v, r ++ _, rfl, h, RVs.append t t2⟩
private theorem RVs.one {w : W} {v : V} (h : RV K φ H w v) : RVs K φ H [w] [v] := ⟨v, [], rfl, h, rfl⟩
private theorem RVs.nil : RVs K φ H [] [] := rfl
private theorem RVs.cons {w : W} {v : V} {ws : List W} {vs : List V} (h : RV K φ H w v) (t : RVs K φ H ws vs) : RVs K φ H (w :: ws) (v :: vs) := ⟨v, vs, rfl, h, t⟩
private theorem RVs.set {w : W} {v : V} (q : RV K φ H w v) : ∀ {ws : List W} {vs : List V} (i : Nat), RVs K φ H ws vs → RVs K φ H (ws.set i w) (vs.set i v)
  | [], _, _, h => by cases h; exact rfl
  | _ :: _, _, 0, ⟨v', r, e, h, t⟩ => by subst e; exact ⟨v, r, rfl, q, t⟩
  | _ :: _, _, i + 1, ⟨v', r, e, h, t⟩ => by subst e; exact ⟨v', _, rfl, h, RVs.set q i t⟩
private theorem RVs.ints : ∀ {ns : List Int} {vs : List V}, RVs K φ H (ns.map W.int) vs ↔ vs = ns.map V.int
  | [], vs => Iff.rfl
  | n :: ns, vs => by
    constructor
    · rintro ⟨v, r, e, h, t⟩
      rw [e, (show v = V.int n from h), RVs.ints.mp t]; rfl
    · intro e
      exact ⟨V.int n, ns.map V.int, e, rfl, RVs.ints.mpr rfl⟩
noncomputable def SqR (K : PySem.W.Frag) (H : Hp) (a : Addr) (xs : List V) : Prop :=
  (∃ ob, H a = some (.frz ob (.lst xs))) ∨
    ∃ (o : Obj) (its : Array Value) (n : Nat), K.lookup a = some o ∧ o.cls = .type "list" ∧ o.dict = none ∧ o.data = .seq its n ∧ its.size ≤ sizeLine ∧ Vals xs its.toList
private theorem SqR.sq {a : Addr} {xs : List V} (h : SqR K H a xs) : SqL K H a xs := by
  rcases h with h | h
  · exact .inl (.inr h)
  · exact .inr h
inductive TabAt (H : Hp) (q : Str) (cv : Value) : Prop
  | mk (c : Addr) (oc : Obj) (u : HO) (vs : Array Value) (t : Tok) (e : cv = .ref c) (h : H c = some (.frz oc u)) (d : oc.data = .fields vs ∧ vs[1]? = some (.str q t))
noncomputable def TabG (H : Hp) (q : Str) (ps : Array Value) : Prop := TriplesOk ps.toList ∧ ∀ pos cv, codeAmong pos ps.toList = some cv → TabAt H q cv
private theorem TabG.mono {q : Str} {ps : Array Value} (h : TabG H q ps) (l : ∀ a o u, H a = some (.frz o u) → H' a = some (.frz o u)) : TabG H' q ps :=
  ⟨h.1, fun pos cv e => by obtain ⟨c, oc, u, vs, t, h1, h2, h3⟩ := h.2 pos cv e; exact ⟨c, oc, u, vs, t, h1, l _ _ _ h2, h3⟩⟩
noncomputable def OR (K : PySem.W.Frag) (φ : List Addr) (H : Hp) (a : Addr) : O → Prop
  | .lst ws => ∃ vs, H a = some (.lst vs) ∧ RVs K φ H ws vs
  | .ro ws => ∃ vs, SqR K H a vs ∧ RVs K φ H ws vs
  | .dct kvs => ∃ us, H a = some (.dK us) ∧ us.map (·.1) = kvs.map (·.1) ∧ RVs K φ H (kvs.map (·.2)) (us.map (·.2))
  | .tab q P => a = P ∧ ∃ ps, H a = some (.tbl ps) ∧ TabG H q ps
structure Sim (K : PySem.W.Frag) (φ : List Addr) (A : Hx) (H : Hp) : Prop where
  len : φ.length = A.length
  inj : ∀ (i j : Nat) (a : Addr) (o o' : O), φ[i]? = some a → φ[j]? = some a → A[i]? = some o → A[j]? = some o' → o.mut = true → o'.mut = true → i = j
  ob : ∀ (n : Nat) (o : O), A[n]? = some o → ∃ a, φ[n]? = some a ∧ OR K φ H a o
variable {A A' : Hx}
private theorem OR.there {a : Addr} {o : O} (h : OR K φ H a o) (m : o.mut = true) : ∃ u, H a = some u ∧ (∀ xs, u ≠ .tup xs) ∧ (∀ ob v, u ≠ .frz ob v) := by
  cases o with
  | lst ws => obtain ⟨vs, e, _⟩ := h; exact ⟨_, e, fun _ z => (by cases z), fun _ _ z => (by cases z)⟩
  | ro ws => cases m
  | dct kvs => obtain ⟨vs, e, _⟩ := h; exact ⟨_, e, fun _ z => (by cases z), fun _ _ z => (by cases z)⟩
  | tab q P => obtain ⟨_, vs, e, _⟩ := h; exact ⟨_, e, fun _ z => (by cases z), fun _ _ z => (by cases z)⟩
private theorem Sqt_upd {a b : Addr} {o : HO} {vs : List V} (h : SqT K H a vs) (n : ∀ xs, H b ≠ some (.tup xs)) (nf : ∀ ob u, H b ≠ some (.frz ob u)) : SqT K (upd H b o) a vs := by
  rcases h with (h | ⟨ob, h⟩) | h
  · exact .inl (.inl (by (first | exact ((upd_ne).trans (h)) | (rw [upd_ne]; exact h)); intro e; subst e; exact n _ h))
  · exact .inl (.inr ⟨ob, by (first | exact ((upd_ne).trans (h)) | (rw [upd_ne]; exact h)); intro e; subst e; exact nf _ _ h⟩)
  · exact .inr h
private theorem Le.upd {b : Addr} {o : HO} {k : Nat} (hb : φ[k]? = some b) (n : ∀ xs, H b ≠ some (.tup xs)) (nf : ∀ ob u, H b ≠ some (.frz ob u)) : Le K φ H φ (upd H b o) where
  ex := fun _ _ h => h
  tp := fun _ _ h => Sqt_upd h n nf
  fr := fun a u h z => by
    (first | exact ((upd_ne).trans (h)) | (rw [upd_ne]; exact h))
    intro e; subst e; exact z k hb
  nw := fun _ _ h => .inl h
  st := fun a h => by
    by_cases e : a = b
    · subst e; (first | exact PyNso (upd_same) h | exact PyNso h (upd_same) | cases PySos (upd_same) h | (rw [upd_same] at h; cases h))
    · rw [upd_ne e] at h; exact h
  fz := fun a ob u h => by
    (first | exact ((upd_ne).trans (h)) | (rw [upd_ne]; exact h))
    intro e; subst e; exact nf _ _ h
private theorem Le.new {p : Addr} {o : HO} (hp : H p = none) : Le K φ H φ (L2.upd H p o) where
  ex := fun _ _ h => h
  tp := fun _ _ h => Sqt_upd h (fun xs z => by (first | exact PyNso (hp) z | exact PyNso z (hp) | cases PySos (hp) z | (rw [hp] at z; cases z))) (fun _ _ z => by (first | exact PyNso (hp) z | exact PyNso z (hp) | cases PySos (hp) z | (rw [hp] at z; cases z)))
  fr := fun a u h z => by
    (first | exact ((upd_ne).trans (h)) | (rw [upd_ne]; exact h))
    intro e; subst e; (first | exact PyNso (hp) h | exact PyNso h (hp) | cases PySos (hp) h | (rw [hp] at h; cases h))
  nw := fun _ _ h => .inl h
  st := fun a h => by
    by_cases e : a = p
    · subst e; (first | exact PyNso (upd_same) h | exact PyNso h (upd_same) | cases PySos (upd_same) h | (rw [upd_same] at h; cases h))
    · rw [upd_ne e] at h; exact h
  fz := fun a ob u h => by
    (first | exact ((upd_ne).trans (h)) | (rw [upd_ne]; exact h))
    intro e; subst e; (first | exact PyNso (hp) h | exact PyNso h (hp) | cases PySos (hp) h | (rw [hp] at h; cases h))
private theorem Le.alloc {p : Addr} {o : HO} (hp : H p = none) : Le K φ H (φ ++ [p]) (L2.upd H p o) where
  ex := fun n a h => by
    have := (List.getElem?_eq_some_iff.mp h).1
    (first | exact ((List.getElem?_append_left this).trans (h)) | (rw [List.getElem?_append_left this]; exact h))
  tp := (Le.new (φ := φ) hp).tp
  fr := (Le.new (K := K) (φ := φ) hp).fr
  nw := fun n a h => by
    by_cases hn : n < φ.length
    · rw [List.getElem?_append_left hn] at h; exact .inl h
    · rw [List.getElem?_append_right (by omega)] at h
      have e : a = p := by
        have := List.mem_of_getElem? h
        simpa using this
      subst e; exact .inr hp
  st := (Le.new (K := K) (φ := φ) hp).st
  fz := (Le.new (K := K) (φ := φ) hp).fz
private theorem Le.ofD {D : Addr} {o : HO} (hD : H D = none) (l : LeD K D φ (L2.upd H D o) φ' H') : Le K φ H φ' H' where
  ex := l.ex
  tp := fun a vs h => l.tp a vs ((Le.new (K := K) (φ := φ) hD).tp a vs h)
  fr := fun a u h n => by
    have ne : a ≠ D := by rintro rfl; (first | exact PyNso (hD) h | exact PyNso h (hD) | cases PySos (hD) h | (rw [hD] at h; cases h))
    exact l.fr a u ne (by (first | exact ((upd_ne ne).trans (h)) | (rw [upd_ne ne]; exact h))) n
  nw := fun n a e => by
    rcases l.nw n a e with e | e
    · exact .inl e
    · by_cases h : a = D
      · subst h; (first | exact PyNso (upd_same) e | exact PyNso e (upd_same) | cases PySos (upd_same) e | (rw [upd_same] at e; cases e))
      · rw [upd_ne h] at e; exact .inr e
  st := fun a e => by
    have e' := l.st a e
    by_cases h : a = D
    · subst h; (first | exact PyNso (upd_same) e' | exact PyNso e' (upd_same) | cases PySos (upd_same) e' | (rw [upd_same] at e'; cases e'))
    · rw [upd_ne h] at e'; exact e'
  fz := fun a ob u h => l.fz a ob u (by (first | exact ((upd_ne).trans (h)) | (rw [upd_ne]; exact h)); rintro rfl; (first | exact PyNso (hD) h | exact PyNso h (hD) | cases PySos (hD) h | (rw [hD] at h; cases h)))
private theorem LeD.upd {D : Addr} {o : HO} {xs : List V} (hD : H D = some (.lst xs)) : LeD K D φ H φ (L2.upd H D o) where
  ex := fun _ _ h => h
  tp := fun a vs h => Sqt_upd h (fun xs z => by (first | exact PyNso (hD) z | exact PyNso z (hD) | cases PySos (hD) z | (rw [hD] at z; cases z))) (fun _ _ z => by (first | exact PyNso (hD) z | exact PyNso z (hD) | cases PySos (hD) z | (rw [hD] at z; cases z)))
  fr := fun a u ne h n => by (first | exact ((upd_ne ne).trans (h)) | (rw [upd_ne ne]; exact h))
  nw := fun _ _ h => .inl h
  st := fun a e => by
    by_cases h : a = D
    · subst h; (first | exact PyNso (upd_same) e | exact PyNso e (upd_same) | cases PySos (upd_same) e | (rw [upd_same] at e; cases e))
    · rw [upd_ne h] at e; exact e
  fz := fun a ob u h => by
    (first | exact ((upd_ne).trans (h)) | (rw [upd_ne]; exact h))
    intro e; subst e; (first | exact PyNso (hD) h | exact PyNso h (hD) | cases PySos (hD) h | (rw [hD] at h; cases h))
private theorem OR.keep {a : Addr} {o : O} (h : OR K φ H a o) (l : Le K φ H φ' H') (e : ∀ u, H a = some u → H' a = some u) : OR K φ' H' a o := by
  cases o with
  | lst ws => obtain ⟨vs, q, r⟩ := h; exact ⟨vs, e _ q, r.mono l⟩
  | dct kvs => obtain ⟨vs, q, k, r⟩ := h; exact ⟨vs, e _ q, k, r.mono l⟩
  | tab q P => obtain ⟨k, ps, q, r⟩ := h; exact ⟨k, ps, e _ q, r.mono l.fz⟩
  | ro ws =>
    obtain ⟨vs, q, r⟩ := h
    refine ⟨vs, ?_, r.mono l⟩
    rcases q with ⟨ob, q⟩ | q
    · exact .inl ⟨ob, e _ q⟩
    · exact .inr q
private theorem Sim.alloc {p : Addr} {u : HO} {o : O} (S : Sim K φ A H) (hp : H p = none) (new : OR K (φ ++ [p]) (L2.upd H p u) p o) : Le K φ H (φ ++ [p]) (L2.upd H p u) ∧ Sim K (φ ++ [p]) (A ++ [o]) (L2.upd H p u) := by
  have l : Le K φ H (φ ++ [p]) (L2.upd H p u) := Le.alloc hp
  have old : ∀ (i : Nat) a, (φ ++ [p])[i]? = some a → i < A.length → φ[i]? = some a := fun i a e hi => by
    rw [List.getElem?_append_left (by (first | exact ((S.len).trans (hi)) | (rw [S.len]; exact hi)))] at e; exact e
  refine ⟨l, by simp [S.len], fun i j a o1 o2 h1 h2 h3 h4 m1 m2 => ?_, fun n o' e => ?_⟩
  · by_cases hi : i < A.length
    · by_cases hj : j < A.length
      · rw [List.getElem?_append_left hi] at h3
        rw [List.getElem?_append_left hj] at h4
        exact S.inj i j a o1 o2 (old i a h1 hi) (old j a h2 hj) h3 h4 m1 m2
      · exfalso
        rw [List.getElem?_append_left hi] at h3
        have hj' : j = A.length := by have := (List.getElem?_eq_some_iff.mp h4).1; simp at this; omega
        subst hj'
        rw [List.getElem?_append_right (by (first | exact ((S.len).trans (Nat.le_refl _)) | (rw [S.len]; exact Nat.le_refl _))), S.len] at h2
        simp at h2
        obtain ⟨a', e1, q⟩ := S.ob i o1 h3
        (first | exact PyNso (old i a h1 hi) e1 | exact PyNso e1 (old i a h1 hi) | cases PySos (old i a h1 hi) e1 | (rw [old i a h1 hi] at e1; cases e1))
        obtain ⟨z, hz, _⟩ := q.there m1
        rw [← h2, hp] at hz; cases hz
    · have hi' : i = A.length := by have := (List.getElem?_eq_some_iff.mp h3).1; simp at this; omega
      by_cases hj : j < A.length
      · exfalso
        rw [List.getElem?_append_left hj] at h4
        subst hi'
        rw [List.getElem?_append_right (by (first | exact ((S.len).trans (Nat.le_refl _)) | (rw [S.len]; exact Nat.le_refl _))), S.len] at h1
        simp at h1
        obtain ⟨a', e1, q⟩ := S.ob j o2 h4
        (first | exact PyNso (old j a h2 hj) e1 | exact PyNso e1 (old j a h2 hj) | cases PySos (old j a h2 hj) e1 | (rw [old j a h2 hj] at e1; cases e1))
        obtain ⟨z, hz, _⟩ := q.there m2
        rw [← h1, hp] at hz; cases hz
      · have := (List.getElem?_eq_some_iff.mp h4).1; simp at this; omega
  · by_cases hn : n < A.length
    · rw [List.getElem?_append_left hn] at e
      obtain ⟨a, e1, q⟩ := S.ob n o' e
      refine ⟨a, l.ex _ _ e1, q.keep l fun z hz => ?_⟩
      (first | exact ((upd_ne).trans (hz)) | (rw [upd_ne]; exact hz))
      intro e2; subst e2; (first | exact PyNso (hp) hz | exact PyNso hz (hp) | cases PySos (hp) hz | (rw [hp] at hz; cases hz))
    · have hn' : n = A.length := by have := (List.getElem?_eq_some_iff.mp e).1; simp at this; omega
      subst hn'
      rw [List.getElem?_append_right (Nat.le_refl _)] at e
      simp at e
      subst e
      exact ⟨p, by rw [List.getElem?_append_right (by (first | exact ((S.len).trans (Nat.le_refl _)) | (rw [S.len]; exact Nat.le_refl _))), S.len]; simp, new⟩
private theorem Sim.write {n : Nat} {p : Addr} {u : HO} {o o' : O} (S : Sim K φ A H) (hn : A[n]? = some o) (m : o.mut = true) (m' : o'.mut = true) (hp : φ[n]? = some p) (new : OR K φ (L2.upd H p u) p o') :
    Le K φ H φ (L2.upd H p u) ∧ Sim K φ (A.set n o') (L2.upd H p u) := by
  obtain ⟨p', e, q⟩ := S.ob n o hn
  (first | exact PyNso (hp) e | exact PyNso e (hp) | cases PySos (hp) e | (rw [hp] at e; cases e))
  obtain ⟨z, hz, nt, nf⟩ := q.there m
  have l : Le K φ H φ (L2.upd H p u) := Le.upd hp (fun xs e => by rw [hz] at e; exact nt xs (Option.some.inj e)) fun ob v e => by rw [hz] at e; exact nf ob v (Option.some.inj e)
  have mt : ∀ (i : Nat) (w : O), (A.set n o')[i]? = some w → w.mut = true → ∃ w', A[i]? = some w' ∧ w'.mut = true := fun i w e mw => by
    by_cases hi : i = n
    · subst hi; exact ⟨o, hn, m⟩
    · rw [List.getElem?_set_ne (Ne.symm hi)] at e; exact ⟨w, e, mw⟩
  refine ⟨l, by simp [S.len], fun i j a o1 o2 h1 h2 h3 h4 m1 m2 => ?_, fun i w e => ?_⟩
  · obtain ⟨w1, e1, k1⟩ := mt i o1 h3 m1
    obtain ⟨w2, e2, k2⟩ := mt j o2 h4 m2
    exact S.inj i j a w1 w2 h1 h2 e1 e2 k1 k2
  · by_cases hi : i = n
    · subst hi
      have : i < A.length := (List.getElem?_eq_some_iff.mp hn).1
      (first | exact PyNso (List.getElem?_set_self this) e | exact PyNso e (List.getElem?_set_self this) | cases PySos (List.getElem?_set_self this) e | (rw [List.getElem?_set_self this] at e; cases e))
      exact ⟨p, hp, new⟩
    · rw [List.getElem?_set_ne (Ne.symm hi)] at e
      obtain ⟨a, e1, r⟩ := S.ob i w e
      refine ⟨a, e1, ?_⟩
      by_cases hm : w.mut = true
      · have ne : a ≠ p := fun z => hi (S.inj i n a w o e1 (by (first | exact ((z).trans (hp)) | (rw [z]; exact hp))) e hn hm m)
        exact r.keep l fun z hz => by (first | exact ((upd_ne ne).trans (hz)) | (rw [upd_ne ne]; exact hz))
      · cases w with
        | lst _ => exact absurd rfl hm
        | dct _ => exact absurd rfl hm
        | tab _ _ => exact absurd rfl hm
        | ro ws =>
          obtain ⟨vs, r1, r2⟩ := r
          refine ⟨vs, ?_, r2.mono l⟩
          rcases r1 with ⟨ob, r1⟩ | r1
          · refine .inl ⟨ob, ?_⟩
            (first | exact ((upd_ne).trans (r1)) | (rw [upd_ne]; exact r1))
            intro z; subst z; rw [hz] at r1; exact nf _ _ (Option.some.inj r1)
          · exact .inr r1
private theorem Sim.lay {p : Addr} {u : HO} (S : Sim K φ A H) (hp : H p = none) : Sim K φ A (L2.upd H p u) :=
  ⟨S.len, S.inj, fun n o e => by
    obtain ⟨a, e1, q⟩ := S.ob n o e
    refine ⟨a, e1, q.keep (Le.new hp) fun z hz => ?_⟩
    (first | exact ((upd_ne).trans (hz)) | (rw [upd_ne]; exact hz))
    intro e2; subst e2; (first | exact PyNso (hp) hz | exact PyNso hz (hp) | cases PySos (hp) hz | (rw [hp] at hz; cases hz))⟩
private theorem Sim.off {D : Addr} {o : HO} {xs : List V} (S : Sim K φ A H) (hD : H D = some (.lst xs)) (n : ∀ k : Nat, φ[k]? ≠ some D) : Sim K φ A (L2.upd H D o) :=
  ⟨S.len, S.inj, fun k u e => by
    obtain ⟨a, e1, q⟩ := S.ob k u e
    have ne : a ≠ D := fun z => n k (by rw [← z]; exact e1)
    have l : LeD K D φ H φ (L2.upd H D o) := LeD.upd hD
    refine ⟨a, e1, ?_⟩
    cases u with
    | lst ws => obtain ⟨vs, q, r⟩ := q; exact ⟨vs, by (first | exact ((upd_ne ne).trans (q)) | (rw [upd_ne ne]; exact q)), r.monoD l⟩
    | dct kvs => obtain ⟨vs, q, k, r⟩ := q; exact ⟨vs, by (first | exact ((upd_ne ne).trans (q)) | (rw [upd_ne ne]; exact q)), k, r.monoD l⟩
    | tab _ _ => obtain ⟨k, vs, q, r⟩ := q; exact ⟨k, vs, by (first | exact ((upd_ne ne).trans (q)) | (rw [upd_ne ne]; exact q)), r.mono l.fz⟩
    | ro ws =>
      obtain ⟨vs, q, r⟩ := q
      refine ⟨vs, ?_, r.monoD l⟩
      rcases q with ⟨ob, q⟩ | q
      · exact .inl ⟨ob, by (first | exact ((upd_ne ne).trans (q)) | (rw [upd_ne ne]; exact q))⟩
      · exact .inr q⟩
private theorem Sim.notin {D : Addr} (S : Sim K φ A H) (hD : H D = none) (hK : K.lookup D = none) : ∀ k : Nat, φ[k]? ≠ some D := fun k e => by
  have hk : k < A.length := by rw [← S.len]; exact (List.getElem?_eq_some_iff.mp e).1
  obtain ⟨a, e1, q⟩ := S.ob k A[k] (by simp [hk])
  (first | exact PyNso (e) e1 | exact PyNso e1 (e) | cases PySos (e) e1 | (rw [e] at e1; cases e1))
  revert q; cases ho : A[k] with
  | lst ws => intro q; obtain ⟨vs, z, _⟩ := q; (first | exact PyNso (hD) z | exact PyNso z (hD) | cases PySos (hD) z | (rw [hD] at z; cases z))
  | dct ws => intro q; obtain ⟨vs, z, _⟩ := q; (first | exact PyNso (hD) z | exact PyNso z (hD) | cases PySos (hD) z | (rw [hD] at z; cases z))
  | tab _ _ => intro q; obtain ⟨_, vs, z, _⟩ := q; (first | exact PyNso (hD) z | exact PyNso z (hD) | cases PySos (hD) z | (rw [hD] at z; cases z))
  | ro ws =>
    intro q
    obtain ⟨vs, z, _⟩ := q
    rcases z with ⟨ob, z⟩ | ⟨o, its, n, z, _⟩
    · (first | exact PyNso (hD) z | exact PyNso z (hD) | cases PySos (hD) z | (rw [hD] at z; cases z))
    · (first | exact PyNso (hK) z | exact PyNso z (hK) | cases PySos (hK) z | (rw [hK] at z; cases z))
private theorem Sim.track {D : Addr} {u : HO} {o : O} (S : Sim K φ A H) (hD : H D = some u) (n : ∀ k : Nat, φ[k]? ≠ some D) (new : OR K (φ ++ [D]) H D o) : Sim K (φ ++ [D]) (A ++ [o]) H := by
  have l : LeW K φ H (φ ++ [D]) H := ⟨fun n a h => by
    have := (List.getElem?_eq_some_iff.mp h).1
    (first | exact ((List.getElem?_append_left this).trans (h)) | (rw [List.getElem?_append_left this]; exact h)), fun _ _ h => h, fun _ _ _ h => h⟩
  have old : ∀ (i : Nat) a, (φ ++ [D])[i]? = some a → i < A.length → φ[i]? = some a := fun i a e hi => by
    rw [List.getElem?_append_left (by (first | exact ((S.len).trans (hi)) | (rw [S.len]; exact hi)))] at e; exact e
  have last : ∀ a, (φ ++ [D])[A.length]? = some a → a = D := fun a e => by
    rw [List.getElem?_append_right (by (first | exact ((S.len).trans (Nat.le_refl _)) | (rw [S.len]; exact Nat.le_refl _))), S.len] at e
    simpa using e.symm
  refine ⟨by simp [S.len], fun i j a o1 o2 h1 h2 h3 h4 m1 m2 => ?_, fun k o' e => ?_⟩
  · by_cases hi : i < A.length
    · by_cases hj : j < A.length
      · rw [List.getElem?_append_left hi] at h3
        rw [List.getElem?_append_left hj] at h4
        exact S.inj i j a o1 o2 (old i a h1 hi) (old j a h2 hj) h3 h4 m1 m2
      · exfalso
        have hj' : j = A.length := by have := (List.getElem?_eq_some_iff.mp h4).1; simp at this; omega
        subst hj'
        exact n i (by rw [← last a h2]; exact old i a h1 hi)
    · have hi' : i = A.length := by have := (List.getElem?_eq_some_iff.mp h3).1; simp at this; omega
      by_cases hj : j < A.length
      · exfalso
        subst hi'
        exact n j (by rw [← last a h1]; exact old j a h2 hj)
      · have := (List.getElem?_eq_some_iff.mp h4).1; simp at this; omega
  · by_cases hn : k < A.length
    · rw [List.getElem?_append_left hn] at e
      obtain ⟨a, e1, q⟩ := S.ob k o' e
      refine ⟨a, l.ex _ _ e1, ?_⟩
      cases o' with
      | lst ws => obtain ⟨vs, z, r⟩ := q; exact ⟨vs, z, r.monoW l⟩
      | dct ws => obtain ⟨vs, z, z2, r⟩ := q; exact ⟨vs, z, z2, r.monoW l⟩
      | tab _ _ => exact q
      | ro ws => obtain ⟨vs, z, r⟩ := q; exact ⟨vs, z, r.monoW l⟩
    · have hn' : k = A.length := by have := (List.getElem?_eq_some_iff.mp e).1; simp at this; omega
      subst hn'
      rw [List.getElem?_append_right (Nat.le_refl _)] at e
      simp at e
      subst e
      exact ⟨D, by rw [List.getElem?_append_right (by (first | exact ((S.len).trans (Nat.le_refl _)) | (rw [S.len]; exact Nat.le_refl _))), S.len]; simp, new⟩
private theorem Le.track {D : Addr} {φ0 : List Addr} {H0 : Hp} (l : Le K φ0 H0 φ H) (h0 : H0 D = none) : Le K φ0 H0 (φ ++ [D]) H where
  ex := fun n a h => by
    have h' := l.ex n a h
    have := (List.getElem?_eq_some_iff.mp h').1
    (first | exact ((List.getElem?_append_left this).trans (h')) | (rw [List.getElem?_append_left this]; exact h'))
  tp := l.tp
  fr := l.fr
  nw := fun n a e => by
    by_cases hn : n < φ.length
    · rw [List.getElem?_append_left hn] at e; exact l.nw n a e
    · rw [List.getElem?_append_right (by omega)] at e
      have e' : a = D := by
        have := List.mem_of_getElem? e
        simpa using this
      subst e'; exact .inr h0
  st := l.st
  fz := l.fz
end
end Mi
namespace Mi
open PySem PySem.Spec PyProof.Rows L2
noncomputable abbrev St := L2.St
noncomputable abbrev XR := Str → Hp → Prop
noncomputable def PB (K : PySem.W.Frag) (φ : List Addr) (H : Hp) (Q : VK) : W → Hx → Prop := fun w A => ∀ φ' H' v, Le K φ H φ' H' → Sim K φ' A H' → RV K φ' H' w v → Q v H'
noncomputable def PBs (K : PySem.W.Frag) (φ : List Addr) (H : Hp) (Q : List V → Hp → Prop) : List W → Hx → Prop := fun w A => ∀ φ' H' v, Le K φ H φ' H' → Sim K φ' A H' → RVs K φ' H' w v → Q v H'
noncomputable def EB (K : PySem.W.Frag) (φ : List Addr) (H : Hp) (xr : XR) : Str → Hx → Prop := fun x A => ∀ φ' H', Le K φ H φ' H' → Sim K φ' A H' → xr x H'
structure RE (K : PySem.W.Frag) (φ : List Addr) (H : Hp) (ρ : En) (σ : St) : Prop where
  len : σ.length = ρ.length
  get : ∀ (i : Nat) (w : W), ρ[i]? = some (some w) → ∃ v, σ[i]? = some (some v) ∧ RV K φ H w v
section
variable {K : PySem.W.Frag} {φ φ1 φ' : List Addr} {H H1 H' : Hp} {A A1 : Hx} {ρ : En} {σ : St} {xr : XR}
private theorem RE.mono (r : RE K φ H ρ σ) (l : Le K φ H φ' H') : RE K φ' H' ρ σ := ⟨r.len, fun i w e => let ⟨v, h1, h2⟩ := r.get i w e; ⟨v, h1, h2.mono l⟩⟩
private theorem PB.mono {Q : VK} {w : W} (h : PB K φ H Q w A) (l : Le K φ H φ1 H1) : PB K φ1 H1 Q w A := fun φ' H' v l' => h φ' H' v (l.trans l')
private theorem EB.mono {x : Str} (h : EB K φ H xr x A) (l : Le K φ H φ1 H1) : EB K φ1 H1 xr x A := fun φ' H' l' => h φ' H' (l.trans l')
private theorem RE.set {i : Nat} {w : W} {v : V} (r : RE K φ H ρ σ) (q : RV K φ H w v) : RE K φ H (ρ.set i (some w)) (σ.set i (some v)) :=
  ⟨by simp [r.len], fun j u e => by
    by_cases h : i = j
    · subst h
      have hi : i < ρ.length := by
        have := (List.getElem?_eq_some_iff.mp e).1
        simpa using this
      (first | exact PyNso (List.getElem?_set_self hi) e | exact PyNso e (List.getElem?_set_self hi) | cases PySos (List.getElem?_set_self hi) e | (rw [List.getElem?_set_self hi] at e; cases e))
      exact ⟨v, by rw [List.getElem?_set_self (by (first | exact ((r.len).trans (hi)) | (rw [r.len]; exact hi)))], q⟩
    · rw [List.getElem?_set_ne h] at e
      obtain ⟨x, h1, h2⟩ := r.get j u e
      exact ⟨x, by (first | exact ((List.getElem?_set_ne h).trans (h1)) | (rw [List.getElem?_set_ne h]; exact h1)), h2⟩⟩
end
inductive MM (K : PySem.W.Frag) (xr : XR) (m : Ev) (σ : St) (H : Hp) (Q : VK) : Prop
  | mk (φ : List Addr) (A : Hx) (ρ : En) (S : Sim K φ A H) (re : RE K φ H ρ σ) (h : (m ρ A).post (PB K φ H Q) (EB K φ H xr))
noncomputable def tM (K : PySem.W.Frag) (xr : XR) (m : Ev) : TE := fun σ H Q => MM K xr m σ H Q
inductive MT (K : PySem.W.Frag) (xr : XR) (m : Ev) (σ : St) (H : Hp) (Q : Bool → Hp → Prop) : Prop
  | mk (φ : List Addr) (A : Hx) (ρ : En) (S : Sim K φ A H) (re : RE K φ H ρ σ) (h : (m ρ A).post (fun w A' => ∃ b, w = .bl b ∧ ∀ φ' H', Le K φ H φ' H' → Sim K φ' A' H' → Q b H') (EB K φ H xr))
noncomputable def tT (K : PySem.W.Frag) (xr : XR) (m : Ev) : TT := fun σ H Q => MT K xr m σ H Q
noncomputable abbrev Ea := En → Hx → R (List W)
inductive MA (K : PySem.W.Frag) (xr : XR) (m : Ea) (σ : St) (H : Hp) (Q : List V → Hp → Prop) : Prop
  | mk (φ : List Addr) (A : Hx) (ρ : En) (S : Sim K φ A H) (re : RE K φ H ρ σ) (h : (m ρ A).post (PBs K φ H Q) (EB K φ H xr))
noncomputable def tAr (K : PySem.W.Frag) (xr : XR) (m : Ea) : TA := fun σ H Q => MA K xr m σ H Q
noncomputable def SE (X : Cx) (xr : XR) (e : Expr) (m : Ev) : Prop := PE X e (tM X.K xr m)
noncomputable def ST (X : Cx) (xr : XR) (e : Expr) (m : Ev) : Prop := PT X e (tT X.K xr m)
noncomputable def SW (X : Cx) (xr : XR) (e : Expr) (m : Ev) : Prop := PW X e (tT X.K xr m)
noncomputable def SA (X : Cx) (xr : XR) (es : List Expr) (m : Ea) : Prop := PA X es (tAr X.K xr m)
section
variable {X : Cx} {xr : XR} {e a b : Expr} {es : List Expr} {m ma mb mc : Ev} {pos : Pos}
private theorem PE.imp {t t' : TE} (h : PE X e t) (i : ∀ σ H Q, t' σ H Q → t σ H Q) : PE X e t' := fun pins s σ H Q I hw => h pins s σ H Q I (i σ H Q hw)
private theorem PT.imp {t t' : TT} (h : PT X e t) (i : ∀ σ H Q, t' σ H Q → t σ H Q) : PT X e t' := fun pins s σ H Q I hw => h pins s σ H Q I (i σ H Q hw)
private theorem PA.imp {t t' : TA} (h : PA X es t) (i : ∀ σ H Q, t' σ H Q → t σ H Q) : PA X es t' := fun p pins s σ H Q I hw => h p pins s σ H Q I (i σ H Q hw)
private theorem tM.go {K : PySem.W.Frag} {φ : List Addr} {A : Hx} {H : Hp} {ρ : En} {σ : St} {Q : VK} {G : W → Hx → Prop} (S : Sim K φ A H) (r : RE K φ H ρ σ) (h : (m ρ A).post G (EB K φ H xr))
    (k : ∀ w A1 φ1 H1 v, G w A1 → Le K φ H φ1 H1 → Sim K φ1 A1 H1 → RV K φ1 H1 w v → Q v H1) : tM K xr m σ H Q :=
  ⟨φ, A, ρ, S, r, post_mono h (fun w A1 g φ1 H1 v l s q => k w A1 φ1 H1 v g l s q) fun _ _ z => z⟩
private theorem tAr.go {K : PySem.W.Frag} {φ : List Addr} {A : Hx} {H : Hp} {ρ : En} {σ : St} {m : Ea} {Q : List V → Hp → Prop} {G : List W → Hx → Prop} (S : Sim K φ A H) (r : RE K φ H ρ σ) (h : (m ρ A).post G (EB K φ H xr))
    (k : ∀ w A1 φ1 H1 v, G w A1 → Le K φ H φ1 H1 → Sim K φ1 A1 H1 → RVs K φ1 H1 w v → Q v H1) : tAr K xr m σ H Q :=
  ⟨φ, A, ρ, S, r, post_mono h (fun w A1 g φ1 H1 v l s q => k w A1 φ1 H1 v g l s q) fun _ _ z => z⟩
private theorem tT.go {K : PySem.W.Frag} {φ : List Addr} {A : Hx} {H : Hp} {ρ : En} {σ : St} {Q : Bool → Hp → Prop} {G : W → Hx → Prop} (S : Sim K φ A H) (r : RE K φ H ρ σ) (h : (m ρ A).post G (EB K φ H xr))
    (k : ∀ w A1, G w A1 → ∃ b, w = .bl b ∧ ∀ φ1 H1, Le K φ H φ1 H1 → Sim K φ1 A1 H1 → Q b H1) : tT K xr m σ H Q :=
  ⟨φ, A, ρ, S, r, post_mono h (fun w A1 g => k w A1 g) fun _ _ z => z⟩
noncomputable def mVar (i : Nat) : Ev := fun ρ A => match ρ[i]? with
  | some (some w) => .ok w A
  | _ => .bad
noncomputable def mLit (w : W) : Ev := fun _ A => .ok w A
private theorem se_var (i : Nat) {x : Str} (hN : autoParam (X.N[i]? = some x) PyProof.Rows.call_M_of_MD._auto_3) (hv : Vis X.env.scope x) (hd : autoParam ((x == ("__debug__" : Str)) = false) PyProof.Rows.glB_def._auto_7)
    (hcd : autoParam ((x == ("__classdict__" : Str)) = false) PyProof.Rows.glB_def._auto_7) : SE X xr (.Name x pos) (mVar i) := PE.imp (pe_var hN hv hd hcd) fun σ H Q ⟨φ, A, ρ, S, r, h⟩ => by
  unfold mVar at h
  cases e : ρ[i]? with
  | none => (first | exact PyNso (e) h | exact PyNso h (e) | cases PySos (e) h | (rw [e] at h; cases h))
  | some o => cases o with
    | none => (first | exact PyNso (e) h | exact PyNso h (e) | cases PySos (e) h | (rw [e] at h; cases h))
    | some w =>
      rw [e] at h
      obtain ⟨v, h1, h2⟩ := r.get i w e
      exact ⟨v, h1, h φ H v .refl S h2⟩
private theorem se_int {i j} : SE X xr (.Constant (.int i) j pos) (mLit (.int i)) := PE.imp pe_int fun σ H Q ⟨φ, A, ρ, S, r, h⟩ => h φ H _ .refl S rfl
private theorem se_bl {i j} : SE X xr (.Constant (.bool i) j pos) (mLit (.bl i)) := PE.imp pe_bl fun σ H Q ⟨φ, A, ρ, S, r, h⟩ => h φ H _ .refl S rfl
private theorem se_non {j} : SE X xr (.Constant .none j pos) (mLit .non) := PE.imp pe_non fun σ H Q ⟨φ, A, ρ, S, r, h⟩ => h φ H _ .refl S rfl
private theorem se_str {x j} : SE X xr (.Constant (.str x) j pos) (mLit (.str x)) := PE.imp pe_str fun σ H Q ⟨φ, A, ρ, S, r, h⟩ => h φ H _ .refl S rfl
private theorem se_glob {x : Str} {i : Int} {t : Tok} (hg : Gl X x) (hm : X.mg x = some (.int i t)) (hd : autoParam ((x == ("__debug__" : Str)) = false) PyProof.Rows.glB_def._auto_7) : SE X xr (.Name x pos) (mLit (.int i)) :=
  PE.imp (pe_glob hg hm (v := .int i) ⟨t, rfl⟩ hd) fun σ H Q ⟨φ, A, ρ, S, r, h⟩ => h φ H _ .refl S rfl
noncomputable def mBin (g : W → W → Hx → R W) (a b : Ev) : Ev := fun ρ A => (a ρ A).bind fun x A1 => (b ρ A1).bind fun y A2 => g x y A2
noncomputable def mUn (g : W → Hx → R W) (a : Ev) : Ev := fun ρ A => (a ρ A).bind fun x A1 => g x A1
noncomputable abbrev noX : Str → Hx → Prop := fun _ _ => False
noncomputable def Op2 (K : PySem.W.Frag) (r : R2) (g : W → W → Hx → R W) : Prop := ∀ φ A H x y u v Q, Sim K φ A H → RV K φ H u x → RV K φ H v y → (g u v A).post (PB K φ H Q) noX → r x y H Q
noncomputable def Op1 (K : PySem.W.Frag) (r : V → Hp → VK → Prop) (g : W → Hx → R W) : Prop := ∀ φ A H x u Q, Sim K φ A H → RV K φ H u x → (g u A).post (PB K φ H Q) noX → r x H Q
noncomputable def NoExc {α : Type} (r : R α) : Prop := ∀ x A, r ≠ .exc x A
private theorem post_noX {α : Type} {r : R α} {P : α → Hx → Prop} {E : Str → Hx → Prop} (n : NoExc r) (h : r.post P E) : r.post P noX := by
  cases r with
  | ok a A => exact h
  | exc x A => exact absurd rfl (n x A)
  | bad => exact h
private theorem mBin.read {g : W → W → Hx → R W} {r : R2} (hn : ∀ x y A, NoExc (g x y A)) (hg : Op2 X.K r g) : ∀ σ H Q, tM X.K xr (mBin g ma mb) σ H Q → tOp r (tM X.K xr ma) (tM X.K xr mb) σ H Q := by
  rintro σ H Q ⟨φ, A, ρ, S, re, h⟩
  refine tM.go S re (post_bind.mp h) fun w A1 φ1 H1 v h1 l1 S1 q1 => ?_
  refine tM.go S1 (re.mono l1) (post_mono (post_bind.mp h1) (fun _ _ z => z) fun _ _ z => z.mono l1) fun w2 A2 φ2 H2 v2 h2 l2 S2 q2 => ?_
  exact hg φ2 A2 H2 v v2 w w2 Q S2 (q1.mono l2) q2 (post_mono (post_noX (hn _ _ _) h2) (fun _ _ z => z.mono (l1.trans l2)) fun _ _ z => z)
private theorem mUn.read {g : W → Hx → R W} {r : V → Hp → VK → Prop} (hn : ∀ x A, NoExc (g x A)) (hg : Op1 X.K r g) : ∀ σ H Q, tM X.K xr (mUn g ma) σ H Q → tUn r (tM X.K xr ma) σ H Q := by
  rintro σ H Q ⟨φ, A, ρ, S, re, h⟩
  refine tM.go S re (post_bind.mp h) fun w A1 φ1 H1 v h1 l1 S1 q1 => ?_
  exact hg φ1 A1 H1 v w Q S1 q1 (post_mono (post_noX (hn _ _) h1) (fun _ _ z => z.mono l1) fun _ _ z => z)
private theorem se_bin {op : Operator} {r : R2} {g : W → W → Hx → R W} (ho : OpR X (binaryOp op) r) (hn : ∀ x y A, NoExc (g x y A)) (hg : Op2 X.K r g) (ha : SE X xr a ma) (hb : SE X xr b mb) : SE X xr (.BinOp a op b pos) (mBin g ma mb) :=
  PE.imp (pe_op ho ha hb) (mBin.read hn hg)
private theorem se_un {op : UnaryOp} {r : V → Hp → VK → Prop} {g : W → Hx → R W} (ho : UnR X (unaryOp op) r) (hn : ∀ x A, NoExc (g x A)) (hg : Op1 X.K r g) (ha : SE X xr a ma) : SE X xr (.UnaryOp op a pos) (mUn g ma) :=
  PE.imp (pe_un ho ha) (mUn.read hn hg)
private theorem se_cmp {op : CmpOp} {r : R2} {g : W → W → Hx → R W} (ho : OpR X (compareOp op) r) (hn : ∀ x y A, NoExc (g x y A)) (hg : Op2 X.K r g) (ha : SE X xr a ma) (hb : SE X xr b mb) (hm : behindInMarks op b = false) : SE X xr (.Compare a [op] [b] pos) (mBin g ma mb) :=
  PE.imp (pe_cmpR ho ha hb hm) (mBin.read hn hg)
private theorem tT.toM {K : PySem.W.Frag} {σ : St} {H : Hp} {Q : Bool → Hp → Prop} (h : tT K xr m σ H Q) : tM K xr m σ H fun x H' => ∃ k, x = .bl k ∧ Q k H' := by
  obtain ⟨φ, A, ρ, S, re, h⟩ := h
  refine tM.go S re h fun w A1 φ1 H1 v ⟨b, e, q⟩ l1 S1 q1 => ?_
  subst e
  exact ⟨b, q1, q φ1 H1 l1 S1⟩
private theorem st_cmp {op : CmpOp} {r : R2} {g : W → W → Hx → R W} (ho : OpR X (compareOp op) r) (hn : ∀ x y A, NoExc (g x y A)) (hg : Op2 X.K r g) (ha : SE X xr a ma) (hb : SE X xr b mb) (hm : behindInMarks op b = false) : ST X xr (.Compare a [op] [b] pos) (mBin g ma mb) :=
  PT.imp (pt_cmpR ho ha hb hm) fun σ H Q h => mBin.read hn hg σ H _ h.toM
noncomputable def mChain (g g' : W → W → Hx → R W) (a b c : Ev) : Ev := fun ρ A => (a ρ A).bind fun x A1 => (b ρ A1).bind fun y A2 => (g x y A2).bind fun z A3 => match z with
  | .bl true => (c ρ A3).bind fun w A4 => g' y w A4
  | .bl false => .ok (.bl false) A3
  | _ => .bad
private theorem mChain.read {g g' : W → W → Hx → R W} {r r' : R2} (hn : ∀ x y A, NoExc (g x y A)) (hg : Op2 X.K r g) (hn' : ∀ x y A, NoExc (g' x y A)) (hg' : Op2 X.K r' g') :
    ∀ σ H Q, tM X.K xr (mChain g g' ma mb mc) σ H Q → tChain r r' (tM X.K xr ma) (tM X.K xr mb) (tM X.K xr mc) σ H Q := by
  rintro σ H Q ⟨φ, A, ρ, S, re, h⟩
  refine tM.go S re (post_bind.mp h) fun w A1 φ1 H1 v h1 l1 S1 q1 => ?_
  refine tM.go S1 (re.mono l1) (post_mono (post_bind.mp h1) (fun _ _ z => z) fun _ _ z => z.mono l1) fun w2 A2 φ2 H2 v2 h2 l2 S2 q2 => ?_
  have l02 := l1.trans l2
  have h2' := post_bind.mp h2
  have h3 : (g w w2 A2).post (PB X.K φ2 H2 fun z H3 => ∃ k, z = .bl k ∧ if k = true then tM X.K xr mc σ H3 fun w' H4 => r' v2 w' H4 Q else Q (.bl false) H3) noX := by
    refine post_mono (post_noX (hn _ _ _) h2') (fun z A3 h3 φ3 H3 zv l3 S3 q3 => ?_) fun _ _ z => z
    have l03 := l02.trans l3
    cases z with
    | bl k =>
      refine ⟨k, q3, ?_⟩
      cases k with
      | true =>
        rw [if_pos rfl]
        refine tM.go S3 (re.mono l03) (post_mono (post_bind.mp h3) (fun _ _ z => z) fun _ _ z => z.mono l03) fun w4 A4 φ4 H4 v4 h4 l4 S4 q4 => ?_
        exact hg' φ4 A4 H4 v2 v4 w2 w4 Q S4 ((q2.mono l3).mono l4) q4 (post_mono (post_noX (hn' _ _ _) h4) (fun _ _ z => z.mono (l03.trans l4)) fun _ _ z => z)
      | false =>
        rw [if_neg Bool.false_ne_true]
        exact h3 φ3 H3 _ l03 S3 rfl
    | non => cases h3
    | int _ => cases h3
    | str _ => cases h3
    | tup _ => cases h3
    | ref _ => cases h3
    | clo _ _ _ => cases h3
    | xc _ => cases h3
  exact hg φ2 A2 H2 v v2 w w2 _ S2 (q1.mono l2) q2 h3
private theorem se_chain {c : Expr} {op op' : CmpOp} {r r' : R2} {g g' : W → W → Hx → R W} (ho : OpR X (compareOp op) r) (hn : ∀ x y A, NoExc (g x y A)) (hg : Op2 X.K r g) (ho' : OpR X (compareOp op') r') (hn' : ∀ x y A, NoExc (g' x y A)) (hg' : Op2 X.K r' g')
    (ha : SE X xr a ma) (hb : SE X xr b mb) (hc : SE X xr c mc) (hm : autoParam (lastMarks [op, op'] [b, c] = false) PyProof.Rows.slice_list._auto_1) : SE X xr (.Compare a [op, op'] [b, c] pos) (mChain g g' ma mb mc) :=
  PE.imp (pe_chain ho ho' ha hb hc hm) (mChain.read hn hg hn' hg')
noncomputable def mAnd (a b : Ev) : Ev := fun ρ A => (a ρ A).bind fun x A1 => match x with
  | .bl true => b ρ A1
  | .bl false => .ok (.bl false) A1
  | _ => .bad
noncomputable def mNot (a : Ev) : Ev := fun ρ A => (a ρ A).bind fun x A1 => match x with
  | .bl k => .ok (.bl (!k)) A1
  | _ => .bad
noncomputable def mIf (c a b : Ev) : Ev := fun ρ A => (c ρ A).bind fun x A1 => match x with
  | .bl true => a ρ A1
  | .bl false => b ρ A1
  | _ => .bad
private theorem se_one {op} (h : SE X xr a ma) : SE X xr (.BoolOp op [a] pos) ma := pe_one h
private theorem se_and {rest : List Expr} (ha : SE X xr a ma) (hb : SE X xr (.BoolOp .And (b :: rest) pos) mb) : SE X xr (.BoolOp .And (a :: b :: rest) pos) (mAnd ma mb) :=
  PE.imp (pe_and ha hb) fun σ H Q ⟨φ, A, ρ, S, re, h⟩ => by
    refine tM.go S re (post_bind.mp h) fun w A1 φ1 H1 v h1 l1 S1 q1 => ?_
    cases w with
    | bl k =>
      refine ⟨k, q1, ?_⟩
      cases k with
      | true => rw [if_pos rfl]; exact ⟨φ1, A1, ρ, S1, re.mono l1, post_mono h1 (fun _ _ z => z.mono l1) fun _ _ z => z.mono l1⟩
      | false => (first | exact ((if_neg Bool.false_ne_true).trans (h1 φ1 H1 _ l1 S1 rfl)) | (rw [if_neg Bool.false_ne_true]; exact h1 φ1 H1 _ l1 S1 rfl))
    | non => cases h1
    | int _ => cases h1
    | str _ => cases h1
    | tup _ => cases h1
    | ref _ => cases h1
    | clo _ _ _ => cases h1
    | xc _ => cases h1
private theorem se_not (ha : SE X xr a ma) : SE X xr (.UnaryOp .Not a pos) (mNot ma) :=
  PE.imp (pe_not ha) fun σ H Q ⟨φ, A, ρ, S, re, h⟩ => by
    refine tM.go S re (post_bind.mp h) fun w A1 φ1 H1 v h1 l1 S1 q1 => ?_
    cases w with
    | bl k => exact ⟨k, q1, h1 φ1 H1 _ l1 S1 rfl⟩
    | non => cases h1
    | int _ => cases h1
    | str _ => cases h1
    | tup _ => cases h1
    | ref _ => cases h1
    | clo _ _ _ => cases h1
    | xc _ => cases h1
private theorem st_val (h : SE X xr e m) (he : autoParam (∀ whole, isTrue e X.env whole = (do let v ← whole; standAt e.pos; holding [v] (truthy v))) PyProof.Rows.Assign_ListComp_rowsP._auto_1) : ST X xr e m :=
  PT.imp (pt_val h he) fun σ H Q h => h.toM
private theorem st_not (ha : ST X xr a ma) : ST X xr (.UnaryOp .Not a pos) (mNot ma) :=
  PT.imp (pt_not ha) fun σ H Q ⟨φ, A, ρ, S, re, h⟩ => by
    refine tT.go S re (post_bind.mp h) fun w A1 h1 => ?_
    cases w with
    | bl k => obtain ⟨b, e, q⟩ := h1; cases e; exact ⟨k, rfl, fun φ1 H1 l1 S1 => q φ1 H1 l1 S1⟩
    | non => cases h1
    | int _ => cases h1
    | str _ => cases h1
    | tup _ => cases h1
    | ref _ => cases h1
    | clo _ _ _ => cases h1
    | xc _ => cases h1
private theorem se_if {c : Expr} (hc : ST X xr c mc) (ha : SE X xr a ma) (hb : SE X xr b mb) : SE X xr (.IfExp c a b pos) (mIf mc ma mb) :=
  PE.imp (pe_ifExp hc ha hb) fun σ H Q ⟨φ, A, ρ, S, re, h⟩ => by
    refine tT.go S re (post_bind.mp h) fun w A1 h1 => ?_
    cases w with
    | bl k =>
      refine ⟨k, rfl, fun φ1 H1 l1 S1 => ?_⟩
      cases k with
      | true => rw [if_pos rfl]; exact ⟨φ1, A1, ρ, S1, re.mono l1, post_mono h1 (fun _ _ z => z.mono l1) fun _ _ z => z.mono l1⟩
      | false => rw [if_neg Bool.false_ne_true]; exact ⟨φ1, A1, ρ, S1, re.mono l1, post_mono h1 (fun _ _ z => z.mono l1) fun _ _ z => z.mono l1⟩
    | non => cases h1
    | int _ => cases h1
    | str _ => cases h1
    | tup _ => cases h1
    | ref _ => cases h1
    | clo _ _ _ => cases h1
    | xc _ => cases h1
noncomputable def aNil : Ea := fun _ A => .ok [] A
noncomputable def aCons (a : Ev) (r : Ea) : Ea := fun ρ A => (a ρ A).bind fun x A1 => (r ρ A1).bind fun xs A2 => .ok (x :: xs) A2
private theorem sa_nil : SA X xr [] aNil := PA.imp pa_nil fun σ H Q ⟨φ, A, ρ, S, re, h⟩ => h φ H [] .refl S .nil
private theorem sa_cons {mr : Ea} (ha : SE X xr e ma) (hr : SA X xr es mr) (hs : autoParam (starEach (e :: es) X.env = (false, eval e X.env) :: starEach es X.env) PyProof.Rows.call_M_of_MD._auto_3) : SA X xr (e :: es) (aCons ma mr) :=
  PA.imp (pa_cons ha hr hs) fun σ H Q ⟨φ, A, ρ, S, re, h⟩ => by
    refine tM.go S re (post_bind.mp h) fun w A1 φ1 H1 v h1 l1 S1 q1 => ?_
    refine tAr.go S1 (re.mono l1) (post_mono (post_bind.mp h1) (fun _ _ z => z) fun _ _ z => z.mono l1) fun w2 A2 φ2 H2 v2 h2 l2 S2 q2 => ?_
    exact h2 φ2 H2 _ (l1.trans l2) S2 (.cons (q1.mono l2) q2)
noncomputable def mTup (a : Ea) : Ev := fun ρ A => (a ρ A).bind fun xs A1 => .ok (.tup xs) A1
noncomputable def mLst (a : Ea) : Ev := fun ρ A => (a ρ A).bind fun xs A1 => .ok (.ref A1.length) (A1 ++ [.lst xs])
private theorem tupNew {K : PySem.W.Frag} {φ : List Addr} {A : Hx} {H : Hp} {p : Addr} {ws : List W} {vs : List V} (S : Sim K φ A H) (hp : H p = none) (r : RVs K φ H ws vs) :
    Le K φ H φ (upd H p (.tup vs)) ∧ Sim K φ A (upd H p (.tup vs)) ∧ RV K φ (upd H p (.tup vs)) (.tup ws) (.ref p) :=
  ⟨Le.new hp, S.lay hp, p, vs, rfl, SqT.of upd_same, r.mono (Le.new hp)⟩
private theorem lstNew {K : PySem.W.Frag} {φ : List Addr} {A : Hx} {H : Hp} {p : Addr} {ws : List W} {vs : List V} (S : Sim K φ A H) (hp : H p = none) (r : RVs K φ H ws vs) :
    Le K φ H (φ ++ [p]) (upd H p (.lst vs)) ∧ Sim K (φ ++ [p]) (A ++ [.lst ws]) (upd H p (.lst vs)) ∧ RV K (φ ++ [p]) (upd H p (.lst vs)) (.ref A.length) (.ref p) := by
  have l : Le K φ H (φ ++ [p]) (upd H p (.lst vs)) := Le.alloc hp
  obtain ⟨h1, h2⟩ := S.alloc (o := .lst ws) hp ⟨vs, upd_same, r.mono l⟩
  exact ⟨h1, h2, p, rfl, by rw [← S.len]; simp⟩
private theorem se_lst {mr : Ea} (h : SA X xr es mr) (hl : ∀ ρ A ws A', mr ρ A = .ok ws A' → ws.length ≤ sizeLine) : SE X xr (.List es pos) (mLst mr) :=
  PE.imp (pe_lst h) fun σ H Q ⟨φ, A, ρ, S, re, h⟩ => by
    have h' := post_bind.mp h
    revert h'; cases e : mr ρ A with
    | ok ws A' =>
      intro h'
      refine ⟨φ, A, ρ, S, re, ?_⟩
      rw [e]
      intro φ1 H1 vs l1 S1 q1
      refine ⟨by rw [← q1.length]; exact hl ρ A ws A' e, fun p hp => ?_⟩
      obtain ⟨a1, a2, a3⟩ := lstNew S1 hp q1
      exact h' _ _ _ (l1.trans a1) a2 a3
    | exc x A' => intro h'; refine ⟨φ, A, ρ, S, re, ?_⟩; (first | exact ((e).trans (h')) | (rw [e]; exact h'))
    | bad => intro h'; exact h'.elim
end
end Mi
namespace Mi
open PySem PySem.Spec PyProof.Rows L2
inductive Fl where
  | nx (ρ : En) | rt (w : W) | bk (ρ : En) | ct (ρ : En)
noncomputable abbrev Ex := En → Hx → R Fl
noncomputable def FB (K : PySem.W.Frag) (φ : List Addr) (H : Hp) (D : Ends) : Fl → Hx → Prop
  | .nx ρ, A => ∀ φ' H' σ', Le K φ H φ' H' → Sim K φ' A H' → RE K φ' H' ρ σ' → D.nx σ' H'
  | .rt w, A => ∀ φ' H' v, Le K φ H φ' H' → Sim K φ' A H' → RV K φ' H' w v → D.rt v H'
  | .bk ρ, A => ∀ φ' H' σ', Le K φ H φ' H' → Sim K φ' A H' → RE K φ' H' ρ σ' → D.bk σ' H'
  | .ct ρ, A => ∀ φ' H' σ', Le K φ H φ' H' → Sim K φ' A H' → RE K φ' H' ρ σ' → D.ct σ' H'
private theorem FB.mono {K : PySem.W.Frag} {φ φ1 : List Addr} {H H1 : Hp} {D : Ends} {fl : Fl} {A : Hx} (h : FB K φ H D fl A) (l : Le K φ H φ1 H1) : FB K φ1 H1 D fl A := by
  cases fl with
  | nx ρ => exact fun φ' H' v l' => h φ' H' v (l.trans l')
  | rt ρ => exact fun φ' H' v l' => h φ' H' v (l.trans l')
  | bk ρ => exact fun φ' H' v l' => h φ' H' v (l.trans l')
  | ct ρ => exact fun φ' H' v l' => h φ' H' v (l.trans l')
inductive MS (K : PySem.W.Frag) (xr : XR) (m : Ex) (D : Ends) (σ : St) (H : Hp) : Prop
  | mk (φ : List Addr) (A : Hx) (ρ : En) (S : Sim K φ A H) (re : RE K φ H ρ σ) (h : (m ρ A).post (FB K φ H D) (EB K φ H xr))
noncomputable def tS (K : PySem.W.Frag) (xr : XR) (m : Ex) : TS := fun D σ H => MS K xr m D σ H
noncomputable def SS (X : Cx) (xr : XR) (st : Stmt) (m : Ex) : Prop := PS X st (tS X.K xr m)
noncomputable def SSs (X : Cx) (xr : XR) (st : List Stmt) (m : Ex) : Prop := PSs X st (tS X.K xr m)
section
variable {X : Cx} {xr : XR} {e a b c : Expr} {st : Stmt} {rest : List Stmt} {m ma mb mc : Ev} {m1 m2 : Ex} {pos : Pos}
private theorem PS.imp {t t' : TS} (h : PS X st t) (i : ∀ D σ H, t' D σ H → t D σ H) : PS X st t' := fun pins s σ H D I hw => h pins s σ H D I (i D σ H hw)
private theorem PSs.imp {t t' : TS} (h : PSs X rest t) (i : ∀ D σ H, t' D σ H → t D σ H) : PSs X rest t' := fun pins s σ H D I hw => h pins s σ H D I (i D σ H hw)
noncomputable def xNil : Ex := fun ρ A => .ok (.nx ρ) A
noncomputable def xSeq (m1 m2 : Ex) : Ex := fun ρ A => (m1 ρ A).bind fun fl A1 => match fl with
  | .nx ρ1 => m2 ρ1 A1
  | f => .ok f A1
private theorem ss_nil : SSs X xr [] xNil := PSs.imp pss_nil fun D σ H ⟨φ, A, ρ, S, re, h⟩ => h φ H σ .refl S re
private theorem ss_cons (h1 : SS X xr st m1) (h2 : SSs X xr rest m2) : SSs X xr (st :: rest) (xSeq m1 m2) :=
  PSs.imp (pss_cons h1 h2) fun D σ H ⟨φ, A, ρ, S, re, h⟩ => by
    refine ⟨φ, A, ρ, S, re, post_mono (post_bind.mp h) (fun fl A1 h1 => ?_) fun _ _ z => z⟩
    cases fl with
    | nx ρ1 => exact fun φ' H' σ' l S' r' => ⟨φ', A1, ρ1, S', r', post_mono h1 (fun _ _ z => z.mono l) fun _ _ z => z.mono l⟩
    | rt w => exact h1
    | bk ρ1 => exact h1
    | ct ρ1 => exact h1
noncomputable def xDo (m : Ev) : Ex := fun ρ A => (m ρ A).bind fun _ A1 => .ok (.nx ρ) A1
private theorem ss_expr (he : SE X xr e m) (hs : autoParam (swapsWith e none pos.line X.env = pure false) PyProof.Rows.call_M_of_MD._auto_3) : SS X xr (.Expr e pos) (xDo m) :=
  PS.imp (ps_expr he hs) fun D σ H ⟨φ, A, ρ, S, re, h⟩ => tM.go S re (post_bind.mp h) fun w A1 φ1 H1 v h1 l1 S1 q1 => h1 φ1 H1 σ l1 S1 (re.mono l1)
noncomputable def xRet (m : Ev) : Ex := fun ρ A => (m ρ A).bind fun w A1 => .ok (.rt w) A1
private theorem ss_ret (he : SE X xr e m) : SS X xr (.Return (some e) pos) (xRet m) :=
  PS.imp (ps_ret he) fun D σ H ⟨φ, A, ρ, S, re, h⟩ => tM.go S re (post_bind.mp h) fun w A1 φ1 H1 v h1 l1 S1 q1 => h1 φ1 H1 v l1 S1 q1
noncomputable def xIf (c : Ev) (a b : Ex) : Ex := fun ρ A => (c ρ A).bind fun x A1 => match x with
  | .bl true => a ρ A1
  | .bl false => b ρ A1
  | _ => .bad
private theorem ss_if {sa sb : List Stmt} (hc : ST X xr c mc) (ha : SSs X xr sa m1) (hb : SSs X xr sb m2) : SS X xr (.If c sa sb pos) (xIf mc m1 m2) :=
  PS.imp (ps_if hc ha hb) fun D σ H ⟨φ, A, ρ, S, re, h⟩ => by
    refine tT.go S re (post_bind.mp h) fun w A1 h1 => ?_
    cases w with
    | bl k =>
      refine ⟨k, rfl, fun φ1 H1 l1 S1 => ?_⟩
      cases k with
      | true => rw [if_pos rfl]; exact ⟨φ1, A1, ρ, S1, re.mono l1, post_mono h1 (fun _ _ z => z.mono l1) fun _ _ z => z.mono l1⟩
      | false => rw [if_neg Bool.false_ne_true]; exact ⟨φ1, A1, ρ, S1, re.mono l1, post_mono h1 (fun _ _ z => z.mono l1) fun _ _ z => z.mono l1⟩
    | non => cases h1
    | int _ => cases h1
    | str _ => cases h1
    | tup _ => cases h1
    | ref _ => cases h1
    | clo _ _ _ => cases h1
    | xc _ => cases h1
noncomputable def xSet (i : Nat) (m : Ev) : Ex := fun ρ A => (m ρ A).bind fun w A1 => .ok (.nx (ρ.set i (some w))) A1
private theorem xSet.read {i : Nat} : ∀ D σ H, tS X.K xr (xSet i m) D σ H → tAsg (tM X.K xr m) (gName i) D σ H := by
  rintro D σ H ⟨φ, A, ρ, S, re, h⟩
  exact tM.go S re (post_bind.mp h) fun w A1 φ1 H1 v h1 l1 S1 q1 => h1 φ1 H1 _ l1 S1 ((re.mono l1).set q1)
private theorem ss_set (i : Nat) {x : Str} {pos' : Pos} (hN : X.N.Nodup) (he : SE X xr e m) (hi : autoParam (X.N[i]? = some x) PyProof.Rows.call_M_of_MD._auto_3) (hx : Loc X.env.scope x) (hs : autoParam (swapsWith e (some (.Name x pos')) pos.line X.env = pure false) PyProof.Rows.call_M_of_MD._auto_3)
    (hf : X.fn x = true ∨ X.env.scope.names.lookup x = some .local) : SS X xr (.Assign [.Name x pos'] e pos) (xSet i m) :=
  PS.imp (ps_set hN hi hx he hs hf) xSet.read
noncomputable def xStore (g : W → W → W → Hx → R Unit) (me mo mi : Ev) : Ex := fun ρ A => (me ρ A).bind fun v A1 => (mo ρ A1).bind fun o A2 => (mi ρ A2).bind fun i A3 => (g o i v A3).bind fun _ A4 => .ok (.nx ρ) A4
noncomputable def SetOk (K : PySem.W.Frag) (t : TSet) (g : W → W → W → Hx → R Unit) : Prop := ∀ φ A H o i v wo wi wv Q, Sim K φ A H → RV K φ H wo o → RV K φ H wi i → RV K φ H wv v →
  (g wo wi wv A).post (fun _ A' => ∀ φ' H', Le K φ H φ' H' → Sim K φ' A' H' → Q H') noX → t o i v H Q
private theorem ss_store {o i : Expr} {mo mi : Ev} {t : TSet} {g : W → W → W → Hx → R Unit} {tpos : Pos} (ht : PSet X t) (hn : ∀ o i v A, NoExc (g o i v A)) (hg : SetOk X.K t g) (he : SE X xr e m) (ho : SE X xr o mo) (hi : SE X xr i mi)
    (hs : autoParam (swapsWithSole [.Subscript o i tpos] e pos.line X.env = pure false) PyProof.Rows.call_M_of_MD._auto_3) (hw : autoParam (swappedStores [.Subscript o i tpos] e X.env = pure none) PyProof.Rows.call_M_of_MD._auto_3)
    (h1 : autoParam ((assignEach [.Subscript o i tpos] X.env).map (·.2) = [assign (.Subscript o i tpos) X.env]) PyProof.Rows.call_M_of_MD._auto_3)
    (ha : autoParam (∀ v, assign (.Subscript o i tpos) X.env v = (do
      let ov ← holding [v] (eval o X.env)
      let iv ← holding [v, ov] (eval i X.env)
      standAt tpos
      holding [v, ov, iv] (setItem ov iv v)
      release [v, ov, iv] [])) PyProof.Rows.Assign_ListComp_rowsP._auto_1) : SS X xr (.Assign [.Subscript o i tpos] e pos) (xStore g m mo mi) :=
  PS.imp (ps_asg he (pg_sub ho hi ht ha) hs hw h1) fun D σ H ⟨φ, A, ρ, S, re, h⟩ => by
    refine tM.go S re (post_bind.mp h) fun w1 A1 φ1 H1 v1 h1 l1 S1 q1 => ?_
    refine tM.go S1 (re.mono l1) (post_mono (post_bind.mp h1) (fun _ _ z => z) fun _ _ z => z.mono l1) fun w2 A2 φ2 H2 v2 h2 l2 S2 q2 => ?_
    have l02 := l1.trans l2
    refine tM.go S2 (re.mono l02) (post_mono (post_bind.mp h2) (fun _ _ z => z) fun _ _ z => z.mono l02) fun w3 A3 φ3 H3 v3 h3 l3 S3 q3 => ?_
    have l03 := l02.trans l3
    refine hg φ3 A3 H3 v2 v3 v1 w2 w3 w1 _ S3 (q2.mono l3) q3 (q1.mono (l2.trans l3)) ?_
    cases hr : g w2 w3 w1 A3 with
    | ok u A4 =>
      rw [hr] at h3
      exact fun φ4 H4 l4 S4 => h3 φ4 H4 σ (l03.trans l4) S4 (re.mono (l03.trans l4))
    | exc x A4 => exact absurd hr (hn _ _ _ _ x A4)
    | bad => rw [hr] at h3; exact h3.elim
structure Itx where
  at_ : Hx → Nat → Option (Option W)
  len : Nat
noncomputable def ItR (K : PySem.W.Frag) (φ : List Addr) (H : Hp) (j : Itx) (J : It) : Prop := ∀ i φ' H' A', LeW K φ H φ' H' → Sim K φ' A' H' →
  (∀ w, j.at_ A' i = some (some w) → J.go i H' ∧ ∀ x H1, J.yld i H' x H1 → Le K φ' H' φ' H1 ∧ Sim K φ' A' H1 ∧ RV K φ' H1 w x) ∧ (j.at_ A' i = some none → J.stop i H')
noncomputable abbrev Ei := En → Hx → R Itx
inductive MI (K : PySem.W.Frag) (xr : XR) (mi : Ei) (σ : St) (H : Hp) (Rr : It → Hp → Prop) : Prop
  | mk (φ : List Addr) (A : Hx) (ρ : En) (S : Sim K φ A H) (re : RE K φ H ρ σ) (h : (mi ρ A).post (fun j A1 => ∀ φ1 H1 J, Le K φ H φ1 H1 → Sim K φ1 A1 H1 → ItR K φ1 H1 j J → Rr J H1) (EB K φ H xr))
noncomputable def tI (K : PySem.W.Frag) (xr : XR) (mi : Ei) : TI := fun σ H Rr => MI K xr mi σ H Rr
noncomputable def SI (X : Cx) (xr : XR) (tg iter : Expr) (mi : Ei) : Prop := PI X tg iter (tI X.K xr mi)
private theorem PI.imp {tg : Expr} {t t' : TI} (h : PI X tg e t) (i : ∀ σ H Q, t' σ H Q → t σ H Q) : PI X tg e t' := fun pins s σ H Q I hw => h pins s σ H Q I (i σ H Q hw)
noncomputable abbrev Tg := W → En → Option En
inductive MG (K : PySem.W.Frag) (tw : Tg) (v : V) (σ : St) (H : Hp) (Q : St → Hp → Prop) : Prop
  | mk (φ : List Addr) (A : Hx) (ρ : En) (w : W) (ρ' : En) (S : Sim K φ A H) (re : RE K φ H ρ σ) (rv : RV K φ H w v) (t : tw w ρ = some ρ') (q : ∀ σ', RE K φ H ρ' σ' → Q σ' H)
noncomputable def tG (K : PySem.W.Frag) (tw : Tg) : TG := fun v σ H Q => MG K tw v σ H Q
noncomputable def SG (X : Cx) (tg : Expr) (tw : Tg) : Prop := PG X tg (tG X.K tw)
private theorem PG.imp {tg : Expr} {t t' : TG} (h : PG X tg t) (i : ∀ v σ H Q, t' v σ H Q → t v σ H Q) : PG X tg t' := fun pins s σ H v u Q I r hw => h pins s σ H v u Q I r (i v σ H Q hw)
noncomputable def gVar (i : Nat) : Tg := fun w ρ => some (ρ.set i (some w))
private theorem sg_var (i : Nat) {x : Str} (hN : X.N.Nodup) (hi : autoParam (X.N[i]? = some x) PyProof.Rows.call_M_of_MD._auto_3) (hx : Loc X.env.scope x) (hf : X.fn x = true ∨ X.env.scope.names.lookup x = some .local) : SG X (.Name x pos) (gVar i) :=
  PG.imp (pg_name hN hi hx hf) fun v σ H Q ⟨φ, A, ρ, w, ρ', S, re, q, e, k⟩ => by
    have e' : ρ.set i (some w) = ρ' := Option.some.inj e
    subst e'
    exact k _ (re.set q)
noncomputable def gPair (i j : Nat) : Tg := fun w ρ => match w with
  | .tup [x, y] => some ((ρ.set i (some x)).set j (some y))
  | _ => none
private theorem sg_pair (i j : Nat) {x y : Str} {p q : Pos} {k : Nat} (hc : X.calm = true) (hN : X.N.Nodup) (hi : autoParam (X.N[i]? = some x) PyProof.Rows.call_M_of_MD._auto_3) (hx : Loc X.env.scope x) (hf : X.fn x = true ∨ X.env.scope.names.lookup x = some .local)
    (hj : autoParam (X.N[j]? = some y) PyProof.Rows.call_M_of_MD._auto_3) (hy : Loc X.env.scope y) (hg : X.fn y = true ∨ X.env.scope.names.lookup y = some .local) : SG X (.Tuple [.Name x p, .Name y q] k pos) (gPair i j) :=
  PG.imp (pg_tup hc (pgs_cons (pg_name hN hi hx hf) (pgs_cons (pg_name hN hj hy hg) pgs_nil))) fun v σ H Q ⟨φ, A, ρ, w, ρ', S, re, qq, e, kk⟩ => by
    unfold gPair at e
    split at e
    · rename_i x1 y1
      have e' := Option.some.inj e
      subst e'
      obtain ⟨a, vs, rfl, hs, rs⟩ := qq
      obtain ⟨v1, r1, rfl, h1, v2, r2, rfl, h2, rfl⟩ := rs
      exact ⟨a, [v1, v2], rfl, hs, rfl, v1, [v2], rfl, v2, [], rfl, rfl, kk _ ((re.set h1).set h2)⟩
    · cases e
noncomputable def forGo (j : Itx) (st : W → Ex) : Nat → Nat → Ex
  | 0, i, ρ, A => match j.at_ A i with
    | some none => .ok (.nx ρ) A
    | _ => .bad
  | f + 1, i, ρ, A => match j.at_ A i with
    | some none => .ok (.nx ρ) A
    | some (some w) => (st w ρ A).bind fun fl A1 => match fl with
      | .nx ρ1 => forGo j st f (i + 1) ρ1 A1
      | .ct ρ1 => forGo j st f (i + 1) ρ1 A1
      | .bk ρ1 => .ok (.nx ρ1) A1
      | .rt w => .ok (.rt w) A1
    | none => .bad
noncomputable def turn (tw : Tg) (body : Ex) (w : W) : Ex := fun ρ A => match tw w ρ with
  | some ρ1 => body ρ1 A
  | none => .bad
noncomputable def xFor (mi : Ei) (tw : Tg) (body : Ex) : Ex := fun ρ A => (mi ρ A).bind fun j A1 => forGo j (turn tw body) j.len 0 ρ A1
inductive FoW (K : PySem.W.Frag) (xr : XR) (j : Itx) (t : W → Ex) (D : Ends) (φ1 : List Addr) (H1 : Hp) (f i : Nat) (σ' : St) (H' : Hp) : Prop
  | mk (φ2 : List Addr) (A2 : Hx) (ρ2 : En) (l : Le K φ1 H1 φ2 H') (S : Sim K φ2 A2 H') (re : RE K φ2 H' ρ2 σ') (h : (forGo j t f i ρ2 A2).post (FB K φ2 H' D) (EB K φ2 H' xr))
private theorem ss_for {tg iter : Expr} {body : List Stmt} {mi : Ei} {tw : Tg} (hp : PassesOwn (model X.prog X.w) X.A X.env X.xe) (hc : X.calm = true) (hi : SI X xr tg iter mi) (hg : SG X tg tw) (hb : SSs X xr body m1)
    (hs : autoParam (∀ x, foldedSetIterable iter X.env x = pure x) PyProof.Rows.Assign_ListComp_rowsP._auto_1) : SS X xr (.For tg iter body [] pos) (xFor mi tw m1) :=
  PS.imp (ps_for hp hc hi hg hb hs) fun D σ H ⟨φ, A, ρ, S, re, h⟩ => by
    refine ⟨φ, A, ρ, S, re, post_mono (post_bind.mp h) (fun j A1 h1 φ1 H1 J l1 S1 jr => ?_) fun _ _ z => z⟩
    refine ⟨fun i f σ' H' => FoW X.K xr j (turn tw m1) D φ1 H1 f i σ' H',
      ⟨j.len, φ1, A1, ρ, .refl, S1, re.mono l1, post_mono h1 (fun _ _ z => z.mono l1) fun _ _ z => z.mono l1⟩, ?_⟩
    rintro i f σ2 H2 ⟨φ2, A2, ρ2, l2, S2, re2, h2⟩
    obtain ⟨j1, j2⟩ := jr i φ2 H2 A2 ⟨l2.ex, l2.tp, l2.fz⟩ S2
    cases ej : j.at_ A2 i with
    | none => cases f <;> (unfold forGo at h2; rw [ej] at h2; exact h2.elim)
    | some o =>
      cases o with
      | none =>
        left
        refine ⟨j2 ej, ?_⟩
        cases f <;> (unfold forGo at h2; rw [ej] at h2; exact h2 φ2 H2 σ2 .refl S2 re2)
      | some w =>
        right
        obtain ⟨go, yl⟩ := j1 w ej
        cases f with
        | zero => unfold forGo at h2; rw [ej] at h2; exact h2.elim
        | succ f =>
          unfold forGo at h2
          rw [ej] at h2
          refine ⟨go, fun σ' H' => FoW X.K xr j (turn tw m1) D φ1 H1 f (i + 1) σ' H', fun σ' H' z => ⟨f, Nat.lt_succ_self _, z⟩, fun x H3 y => ?_⟩
          obtain ⟨l3, S3, q3⟩ := yl x H3 y
          have h3 := post_bind.mp h2
          unfold turn at h3
          revert h3; cases et : tw w ρ2 with
          | none => intro h3; exact h3.elim
          | some ρ3 =>
            intro h3
            refine ⟨φ2, A2, ρ2, w, ρ3, S3, re2.mono l3, q3, et, fun σ3 re3 => ?_⟩
            refine ⟨φ2, A2, ρ3, S3, re3, post_mono h3 (fun fl A4 h4 => ?_) fun _ _ z => z.mono l3⟩
            cases fl with
            | nx ρ4 => exact fun φ4 H4 σ4 l4 S4 re4 => ⟨φ4, A4, ρ4, (l2.trans l3).trans l4, S4, re4, post_mono h4 (fun _ _ z => z.mono (l3.trans l4)) fun _ _ z => z.mono (l3.trans l4)⟩
            | ct ρ4 => exact fun φ4 H4 σ4 l4 S4 re4 => ⟨φ4, A4, ρ4, (l2.trans l3).trans l4, S4, re4, post_mono h4 (fun _ _ z => z.mono (l3.trans l4)) fun _ _ z => z.mono (l3.trans l4)⟩
            | bk ρ4 => exact fun φ4 H4 σ4 l4 S4 re4 => h4 φ4 H4 σ4 (l3.trans l4) S4 re4
            | rt w4 => exact fun φ4 H4 v4 l4 S4 q4 => h4 φ4 H4 v4 (l3.trans l4) S4 q4
noncomputable def ncapE (nl : Nat) (cap : List Nat) (ρ : En) : En := List.replicate nl none ++ cap.map fun i => (ρ[i]?).join
private theorem RE.ncap {K : PySem.W.Frag} {φ : List Addr} {H : Hp} {ρ : En} {σ : St} {nl : Nat} {cap : List Nat} (r : RE K φ H ρ σ) : RE K φ H (ncapE nl cap ρ) (L2.ncap nl cap σ) := by
  refine ⟨by simp [ncapE, L2.ncap], fun i w e => ?_⟩
  unfold ncapE at e
  unfold L2.ncap
  by_cases hi : i < nl
  · rw [List.getElem?_append_left (by simpa using hi), List.getElem?_replicate] at e
    split at e <;> cases e
  · rw [List.getElem?_append_right (by simpa using hi), List.length_replicate, List.getElem?_map] at e
    rw [List.getElem?_append_right (by simpa using hi), List.length_replicate, List.getElem?_map]
    revert e; cases hc : cap[i - nl]? with
    | none => intro e; cases e
    | some k =>
      intro e
      have e2 : (ρ[k]?).join = some w := Option.some.inj e
      cases hk : ρ[k]? with
      | none => (first | exact PyNso (hk) e2 | exact PyNso e2 (hk) | cases PySos (hk) e2 | (rw [hk] at e2; cases e2))
      | some o => cases o with
        | none => (first | exact PyNso (hk) e2 | exact PyNso e2 (hk) | cases PySos (hk) e2 | (rw [hk] at e2; cases e2))
        | some w' =>
          (first | exact PyNso (hk) e2 | exact PyNso e2 (hk) | cases PySos (hk) e2 | (rw [hk] at e2; cases e2))
          obtain ⟨v, h1, h2⟩ := r.get k w hk
          exact ⟨v, by simp [h1], h2⟩
noncomputable abbrev Em := En → List W → Hx → R (En × List W)
noncomputable def cpMost : Nat := 100000
noncomputable def emElt (elt : Ev) : Em := fun ρ acc A => (elt ρ A).bind fun y A1 => if acc.length < cpMost then .ok (ρ, acc ++ [y]) A1 else .bad
noncomputable def emGo (j : Itx) (tw : Tg) (ifs : Ev) (em : Em) : Nat → Nat → Em
  | 0, i, ρ, acc, A => match j.at_ A i with
    | some none => .ok (ρ, acc) A
    | _ => .bad
  | f + 1, i, ρ, acc, A => match j.at_ A i with
    | some none => .ok (ρ, acc) A
    | some (some w) => match tw w ρ with
      | some ρ1 => (ifs ρ1 A).bind fun c A1 => match c with
        | .bl true => (em ρ1 acc A1).bind fun p A2 => emGo j tw ifs em f (i + 1) p.1 p.2 A2
        | .bl false => emGo j tw ifs em f (i + 1) ρ1 acc A1
        | _ => .bad
      | none => .bad
    | none => .bad
noncomputable abbrev Eq' := En → Hx → R (List W)
noncomputable def cItems (nl : Nat) (cap : List Nat) (mi : Ei) (tw : Tg) (ifs : Ev) (em : Em) : Eq' := fun ρ A => (mi ρ A).bind fun j A1 => (emGo j tw ifs em j.len 0 (ncapE nl cap ρ) [] A1).nox.bind fun p A2 => .ok p.2 A2
noncomputable def EmP (K : PySem.W.Frag) (D : Addr) (φ : List Addr) (H : Hp) (Q : St → Hp → Prop) (p : En × List W) (A1 : Hx) : Prop := ∀ φ1 H1 σ1 zs, LeD K D φ H φ1 H1 → (∀ k : Nat, φ1[k]? ≠ some D) → Sim K φ1 A1 H1 → RE K φ1 H1 p.1 σ1 → H1 D = some (.lst zs) → RVs K φ1 H1 p.2 zs → Q σ1 H1
inductive ME (K : PySem.W.Frag) (em : Em) (D : Addr) (σ : St) (H : Hp) (Q : St → Hp → Prop) : Prop
  | mk (φ : List Addr) (A : Hx) (ρ : En) (acc : List W) (ys : List V) (S : Sim K φ A H) (re : RE K φ H ρ σ) (hD : H D = some (.lst ys)) (nD : ∀ k : Nat, φ[k]? ≠ some D) (rv : RVs K φ H acc ys)
    (h : (em ρ acc A).post (EmP K D φ H Q) noX)
noncomputable def tE (K : PySem.W.Frag) (em : Em) : TEm := fun D σ H Q => ME K em D σ H Q
noncomputable abbrev xr0 : XR := fun _ _ => False
noncomputable def SM (X : Cx) (elt : Expr) (gens : List Comprehension) (sc : Scope) (cpos : Pos) (d : Nat) (em : Em) : Prop := PEm X elt gens sc cpos d (tE X.K em)
private theorem PEm.imp {elt : Expr} {gens : List Comprehension} {sc : Scope} {d : Nat} {t t' : TEm} (h : PEm X elt gens sc pos d t) (i : ∀ D σ H Q, t' D σ H Q → t D σ H Q) : PEm X elt gens sc pos d t' :=
  fun pins s σ H D Q k Q' E I hw hk => h pins s σ H D Q k Q' E I (i D σ H Q hw) hk
private theorem post_xr0 {α : Type} {K : PySem.W.Frag} {φ : List Addr} {H : Hp} {r : R α} {P : α → Hx → Prop} (h : r.post P noX) : r.post P (EB K φ H xr0) := post_mono h (fun _ _ z => z) fun _ _ z => z.elim
private theorem sm_elt {elt : Expr} {gens : List Comprehension} {sc : Scope} {d : Nat} {me : Ev} (hx : ∀ e s, X.xe e s → False) (he : SE X xr0 elt me) (hg : gens[d + 1]? = none) : SM X elt gens sc pos d (emElt me) :=
  PEm.imp (pem_emit hx he hg) fun D σ H Q ⟨φ, A, ρ, acc, ys, S, re, hD, nD, ra, h⟩ => by
    refine tM.go S re (post_xr0 (post_bind.mp h)) fun w A1 φ1 H1 v h1 l1 S1 q1 => ?_
    obtain ⟨d1, n1⟩ := l1.off hD nD
    by_cases hz : acc.length < cpMost
    · rw [if_pos hz] at h1
      have hl := ra.length
      refine ⟨ys, d1, ?_, ?_⟩
      · rw [← hl]
        have : sizeLine = 16777216 := sizeLine_eq
        unfold cpMost at hz
        omega
      · exact h1 φ1 _ σ _ (l1.toD.trans (LeD.upd d1)) n1 (S1.off d1 n1) ⟨re.len, fun i w e => let ⟨v, a, b⟩ := re.get i w e; ⟨v, a, (b.mono l1).monoD (LeD.upd d1)⟩⟩ upd_same
          (((ra.mono l1).monoD (LeD.upd d1)).append (.one (q1.monoD (LeD.upd d1))))
    · rw [if_neg hz] at h1; exact h1.elim
noncomputable def STs (X : Cx) (ifs : List Expr) (m : Ev) : Prop := PIfs X ifs (tT X.K xr0 m)
private theorem sts_nil : STs X [] (mLit (.bl true)) := fun pins s σ H Q I ⟨φ, A, ρ, S, re, h⟩ => pifs_nil pins s σ H Q I (by
  obtain ⟨b, e, q⟩ := h
  cases e
  exact q φ H .refl S)
private theorem sts_one (h : ST X xr0 c mc) : STs X [c] mc := pifs_one h
inductive EmW (tw : Tg) (ifs : Ev) (em : Em) (j : Itx) (K : PySem.W.Frag) (D : Addr) (φ : List Addr) (H : Hp) (Q : St → Hp → Prop) (f i : Nat) (σ' : St) (H' : Hp) : Prop
  | mk (φ2 : List Addr) (A2 : Hx) (ρ2 : En) (acc2 : List W) (ys2 : List V) (l : LeD K D φ H φ2 H') (S : Sim K φ2 A2 H') (re : RE K φ2 H' ρ2 σ') (hD : H' D = some (.lst ys2)) (nD : ∀ k : Nat, φ2[k]? ≠ some D) (ra : RVs K φ2 H' acc2 ys2) (h : (emGo j tw ifs em f i ρ2 acc2 A2).post (EmP K D φ H Q) noX)
private theorem emGo.read {tw : Tg} {ifs : Ev} {em : Em} {j : Itx} {J : It} {K : PySem.W.Frag} {D : Addr} {φ : List Addr} {A : Hx} {H : Hp} {ρ : En} {σ : St} {acc : List W} {ys : List V} {Q : St → Hp → Prop} {f : Nat}
    (jr : ItR K φ H j J)
    (S : Sim K φ A H) (re : RE K φ H ρ σ) (hD : H D = some (.lst ys)) (nD : ∀ k : Nat, φ[k]? ≠ some D) (ra : RVs K φ H acc ys)
    (h : (emGo j tw ifs em f 0 ρ acc A).post (EmP K D φ H Q) noX) :
    tLoop J (tG K tw) (tT K xr0 ifs) (tE K em) D σ H Q := by
  refine ⟨fun i f σ' H' => EmW tw ifs em j K D φ H Q f i σ' H',
    ⟨f, φ, A, ρ, acc, ys, .refl, S, re, hD, nD, ra, h⟩, ?_⟩
  rintro i f σ2 H2 ⟨φ2, A2, ρ2, acc2, ys2, l2, S2, re2, hD2, nD2, ra2, h2⟩
  obtain ⟨j1, j2⟩ := jr i φ2 H2 A2 ⟨l2.ex, l2.tp, l2.fz⟩ S2
  cases ej : j.at_ A2 i with
  | none => cases f <;> (unfold emGo at h2; rw [ej] at h2; exact h2.elim)
  | some o =>
    cases o with
    | none =>
      left
      refine ⟨j2 ej, ?_⟩
      cases f <;> (unfold emGo at h2; rw [ej] at h2; exact h2 φ2 H2 σ2 ys2 l2 nD2 S2 re2 hD2 ra2)
    | some w =>
      right
      obtain ⟨go, yl⟩ := j1 w ej
      cases f with
      | zero => unfold emGo at h2; rw [ej] at h2; exact h2.elim
      | succ f =>
        unfold emGo at h2
        rw [ej] at h2
        refine ⟨go, fun σ' H' => EmW tw ifs em j K D φ H Q f (i + 1) σ' H', fun σ' H' z => ⟨f, Nat.lt_succ_self _, z⟩, fun x H3 y => ?_⟩
        obtain ⟨l3, S3, q3⟩ := yl x H3 y
        obtain ⟨hD3, nD3⟩ := l3.off hD2 nD2
        dsimp only at h2
        revert h2; cases et : tw w ρ2 with
        | none => intro h2; exact h2.elim
        | some ρ3 =>
          intro h2
          refine ⟨φ2, A2, ρ2, w, ρ3, S3, re2.mono l3, q3, et, fun σ3 re3 => ?_⟩
          refine tT.go S3 re3 (post_xr0 (post_bind.mp h2)) fun c A4 h4 => ?_
          cases c with
          | bl k =>
            refine ⟨k, rfl, fun φ4 H4 l4 S4 => ?_⟩
            obtain ⟨hD4, nD4⟩ := l4.off hD3 nD3
            have l04 := (l2.trans (l3.trans l4).toD)
            cases k with
            | true =>
              rw [if_pos rfl]
              refine ⟨φ4, A4, ρ3, acc2, ys2, S4, re3.mono l4, hD4, nD4, ra2.mono (l3.trans l4), post_mono (post_bind.mp h4) (fun p A5 h5 φ5 H5 σ5 zs l5 n5 S5 re5 d5 r5 => ?_) fun _ _ z => z⟩
              exact ⟨φ5, A5, p.1, p.2, zs, l04.trans l5, S5, re5, d5, n5, r5, h5⟩
            | false =>
              rw [if_neg Bool.false_ne_true]
              exact ⟨φ4, A4, ρ3, acc2, ys2, l04, S4, re3.mono l4, hD4, nD4, ra2.mono (l3.trans l4), h4⟩
          | non => cases h4
          | int _ => cases h4
          | str _ => cases h4
          | tup _ => cases h4
          | ref _ => cases h4
          | clo _ _ _ => cases h4
          | xc _ => cases h4
private theorem ItR.mono {K : PySem.W.Frag} {φ φ1 : List Addr} {H H1 : Hp} {j : Itx} {J : It} (h : ItR K φ H j J) (l : LeW K φ H φ1 H1) : ItR K φ1 H1 j J :=
  fun i φ' H' A' l' => h i φ' H' A' ⟨fun n a e => l'.ex n a (l.ex n a e), fun a vs e => l'.tp a vs (l.tp a vs e), fun a o u e => l'.fz a o u (l.fz a o u e)⟩
inductive MF (K : PySem.W.Frag) (xr : XR) (mq : Eq') (σ : St) (H : Hp) (Q : VK) : Prop
  | mk (φ : List Addr) (A : Hx) (ρ : En) (S : Sim K φ A H) (re : RE K φ H ρ σ) (h : (mq ρ A).post (fun ws A1 => ∀ φ1 H1 D ys, Le K φ H φ1 H1 → Sim K φ1 A1 H1 → H D = none → H1 D = some (.lst ys) → (∀ k : Nat, φ1[k]? ≠ some D) → RVs K φ1 H1 ws ys → Q (.ref D) H1) (EB K φ H xr))
noncomputable def tF (K : PySem.W.Frag) (xr : XR) (mq : Eq') : TE := fun σ H Q => MF K xr mq σ H Q
noncomputable def SF (X : Cx) (xr : XR) (e : Expr) (mq : Eq') : Prop := PE X e (tF X.K xr mq)
private theorem cItems.read {mi : Ei} {tw : Tg} {mf : Ev} {em : Em} {nl : Nat} {cap : List Nat} : ∀ σ H Q, tF X.K xr (cItems nl cap mi tw mf em) σ H Q → tComp X.K (tI X.K xr mi) (tG X.K tw) (tT X.K xr0 mf) (tE X.K em) nl cap σ H Q := by
  rintro σ H Q ⟨φ, A, ρ, S, re, h⟩
  refine ⟨φ, A, ρ, S, re, post_mono (post_bind.mp h) (fun j A1 h1 φ1 H1 J l1 S1 jr D hD hK => ?_) fun _ _ z => z⟩
  have ln : Le X.K φ1 H1 φ1 (upd H1 D (.lst [])) := Le.new hD
  have h1' := post_bind.mp h1
  refine emGo.read (jr.mono ⟨ln.ex, ln.tp, ln.fz⟩) (S1.lay hD) ((re.mono (l1.trans ln)).ncap) upd_same (S1.notin hD hK) .nil ?_ (f := j.len) (acc := [])
  revert h1'; cases er : emGo j tw mf em j.len 0 (ncapE nl cap ρ) [] A1 with
  | ok p A2 =>
    intro h1'
    intro φ2 H2 σ2 zs l2 n2 S2 re2 d2 r2
    have l02 := l1.trans (Le.ofD hD l2)
    exact h1' φ2 H2 D zs l02 S2 (l1.st D hD) d2 n2 r2
  | exc x A2 => intro h1'; exact h1'.elim
  | bad => intro h1'; exact h1'.elim
private theorem sf_comp {elt tg iter : Expr} {ifs : List Expr} {gs : List Comprehension} {sc : Scope} {mi : Ei} {tw : Tg} {mf : Ev} {em : Em} {N : List Str} (nl : Nat) (cap : List Nat) (hc : X.calm = true) (S : CpScope X sc) (hcap : capOk X.N N sc nl cap = true) (hw : SI X xr tg iter mi)
    (hin : ∀ s H fp, SG (cpCx X N sc s H fp noxe) tg tw ∧ STs (cpCx X N sc s H fp noxe) ifs mf ∧ SM (cpCx X N sc s H fp noxe) elt (⟨tg, iter, ifs, 0⟩ :: gs) sc pos 0 em)
    (ha : ∀ g', gs[0]? = some g' → g'.is_async = 0)
    (hs : autoParam (∀ x, foldedSetIterable iter X.env x = pure x) PyProof.Rows.Assign_ListComp_rowsP._auto_1) : SF X xr (.ListComp elt (⟨tg, iter, ifs, 0⟩ :: gs) sc pos) (cItems nl cap mi tw mf em) :=
  PE.imp (pe_comp (g := tG X.K tw) (ti := tT X.K xr0 mf) (tm := tE X.K em) hc S hcap ha hw hin hs) cItems.read
noncomputable def mList (q : Eq') : Ev := fun ρ A => (q ρ A).bind fun ws A1 => .ok (.ref A1.length) (A1 ++ [.lst ws])
private theorem mList.read {q : Eq'} {K : PySem.W.Frag} : ∀ σ H Q, tM K xr (mList q) σ H Q → tF K xr q σ H Q := by
  rintro σ H Q ⟨φ, A, ρ, S, re, h⟩
  refine ⟨φ, A, ρ, S, re, post_mono (post_bind.mp h) (fun ws A1 h1 φ1 H1 D ys l1 S1 h0 hD nD r => ?_) fun _ _ z => z⟩
  have ll : Le K φ H (φ1 ++ [D]) H1 := l1.track h0
  have lw : LeW K φ1 H1 (φ1 ++ [D]) H1 := ⟨fun n a h => by
    have := (List.getElem?_eq_some_iff.mp h).1
    (first | exact ((List.getElem?_append_left this).trans (h)) | (rw [List.getElem?_append_left this]; exact h)), fun _ _ h => h, fun _ _ _ h => h⟩
  refine h1 _ _ _ ll (S1.track (o := .lst ws) hD nD ⟨ys, hD, r.monoW lw⟩) ⟨D, rfl, ?_⟩
  rw [← S1.len]; simp
private theorem se_list {q : Eq'} (h : SF X xr e q) : SE X xr e (mList q) := PE.imp h mList.read
inductive MQ (K : PySem.W.Frag) (xr : XR) (mq : Eq') (σ : St) (H : Hp) (Q : VK) : Prop
  | mk (φ : List Addr) (A : Hx) (ρ : En) (S : Sim K φ A H) (re : RE K φ H ρ σ) (h : (mq ρ A).post (fun ws A1 => ∀ φ1 H1 a ys, Le K φ H φ1 H1 → Sim K φ1 A1 H1 → (SqL K H1 a ys ∨ SqT K H1 a ys) → RVs K φ1 H1 ws ys → Q (.ref a) H1) (EB K φ H xr))
noncomputable def tQ (K : PySem.W.Frag) (xr : XR) (mq : Eq') : TE := fun σ H Q => MQ K xr mq σ H Q
noncomputable def SQ (X : Cx) (xr : XR) (e : Expr) (mq : Eq') : Prop := PE X e (tQ X.K xr mq)
private theorem sq_F {q : Eq'} (h : SF X xr e q) : SQ X xr e q := PE.imp h fun σ H Q ⟨φ, A, ρ, S, re, h⟩ =>
  ⟨φ, A, ρ, S, re, post_mono h (fun ws A1 h1 φ1 H1 D ys l1 S1 h0 hD nD r => h1 φ1 H1 D ys l1 S1 (.inl (SqL.of hD)) r) fun _ _ z => z⟩
noncomputable def seqOf (w : W) (A : Hx) : Option (List W) := match w with
  | .tup ws => some ws
  | .ref n => match A[n]? with
    | some (.lst ws) => some ws
    | some (.ro ws) => some ws
    | _ => none
  | _ => none
private theorem seqOf_read {K : PySem.W.Frag} {φ : List Addr} {A : Hx} {H : Hp} {w : W} {ws : List W} {v : V} (S : Sim K φ A H) (q : RV K φ H w v) (e : seqOf w A = some ws) : ∃ a ys, v = .ref a ∧ (SqL K H a ys ∨ SqT K H a ys) ∧ RVs K φ H ws ys := by
  unfold seqOf at e
  cases w with
  | tup xs => cases e; obtain ⟨a, ys, e1, e2, e3⟩ := q; exact ⟨a, ys, e1, .inr e2, e3⟩
  | ref n =>
    obtain ⟨a, e1, e2⟩ := q
    dsimp only at e
    revert e; cases ea : A[n]? with
    | none => intro e; cases e
    | some o =>
      intro e
      obtain ⟨a', e3, r⟩ := S.ob n o ea
      (first | exact PyNso (e2) e3 | exact PyNso e3 (e2) | cases PySos (e2) e3 | (rw [e2] at e3; cases e3))
      cases o with
      | lst xs => cases e; obtain ⟨ys, h1, h2⟩ := r; exact ⟨a, ys, e1, .inl (SqL.of h1), h2⟩
      | ro xs => cases e; obtain ⟨ys, h1, h2⟩ := r; exact ⟨a, ys, e1, .inl h1.sq, h2⟩
      | dct xs => cases e
      | tab _ _ => cases e
  | non => cases e
  | bl _ => cases e
  | clo _ _ _ => cases e
  | xc _ => cases e
  | int _ => cases e
  | str _ => cases e
noncomputable def mSeq (m : Ev) : Eq' := fun ρ A => (m ρ A).bind fun w A1 => match seqOf w A1 with
  | some ws => .ok ws A1
  | none => .bad
private theorem sq_E (h : SE X xr e m) : SQ X xr e (mSeq m) := PE.imp h fun σ H Q ⟨φ, A, ρ, S, re, h⟩ => by
  refine tM.go S re (post_bind.mp h) fun w A1 φ1 H1 v h1 l1 S1 q1 => ?_
  revert h1; cases e : seqOf w A1 with
  | none => intro h1; exact h1.elim
  | some ws =>
    intro h1
    obtain ⟨a, ys, rfl, e2, e3⟩ := seqOf_read S1 q1 e
    exact h1 φ1 H1 a ys l1 S1 e2 e3
noncomputable def itOf (w : W) (A : Hx) : Option Itx := match seqOf w A with
  | some ws => some ⟨fun A i => (seqOf w A).map fun ws => ws[i]?, ws.length⟩
  | none => none
noncomputable def mIt (m : Ev) : Ei := fun ρ A => (m ρ A).bind fun w A1 => match itOf w A1 with
  | some j => .ok j A1
  | none => .bad
noncomputable def iSeq (K : PySem.W.Frag) (tl : TE) : TI := fun σ H Rr => tl σ H fun x H1 => ∃ a, x = .ref a ∧ (((∃ xs, SqL K H1 a xs) ∧ Rr (Itl K a) H1) ∨ ((∃ xs, SqT K H1 a xs) ∧ Rr (Itt K a) H1))
private theorem pi_seq {tg l : Expr} {tl : TE} (hl : PE X l tl) : PI X tg l (iSeq X.K tl) := by
  intro pins s σ H Rr I h
  refine thn (hl pins s σ H _ I h) fun v s1 ⟨x, H1, I1, r1, q1⟩ => ?_
  obtain ⟨a, e, q⟩ := q1
  subst e
  cases r1
  have fpo : ∀ b ∈ [s1.heap.objs.size], FpOk X pins H1 b := fun b hb => by
    have e : b = s1.heap.objs.size := by simpa using hb
    subst e
    exact I1.fpOk (Nat.le_refl _) (I1.hok.fresh (Nat.le_refl _))
  rcases q with ⟨⟨xs, hq⟩, q⟩ | ⟨⟨xs, hq⟩, q⟩
  · obtain ⟨its, rv, p, hz⟩ := I1.list hq
    refine wpAny_pyIter_list p.isList ?_
    exact ⟨s1.heap.objs.size, [s1.heap.objs.size], _, _, H1, rfl, I1.kept (t' := s1.toks) fun b o e => Heap.get?_push_of_some _ e, turn_list a _, ⟨_, Heap.get?_push_size _ rfl, rfl, rfl⟩, fpo, q⟩
  · obtain ⟨its, rv, p, hz⟩ := I1.tuple hq
    refine wpAny_pyIter_tuple (show s1.heap.IsTuple a its.toArray from p) ?_
    exact ⟨s1.heap.objs.size, [s1.heap.objs.size], _, _, H1, rfl, I1.kept (t' := s1.toks) fun b o e => Heap.get?_push_of_some _ e, turn_tuple a _, ⟨_, Heap.get?_push_size _ rfl, rfl, rfl⟩, fpo, q⟩
private theorem si_E {tg : Expr} (h : SE X xr e m) : SI X xr tg e (mIt m) := PI.imp (pi_seq h) fun σ H Rr ⟨φ, A, ρ, S, re, h⟩ => by
  refine tM.go S re (post_bind.mp h) fun w A1 φ1 H1 v h1 l1 S1 q1 => ?_
  unfold itOf at h1
  revert h1; cases e : seqOf w A1 with
  | none => intro h1; exact h1.elim
  | some ws =>
    intro h1
    dsimp only at h1
    cases w with
    | tup us =>
      obtain ⟨a, ys, rfl, e2, e3⟩ := q1
      refine ⟨a, rfl, .inr ⟨⟨ys, e2⟩, h1 φ1 H1 _ l1 S1 fun i φ' H' A' lw S' => ⟨fun w' ew => ?_, fun ew => ?_⟩⟩⟩
      · have ew' : us[i]? = some w' := Option.some.inj ew
        obtain ⟨y, h3, h4⟩ := (e3.monoW lw).get ew'
        refine ⟨⟨ys, y, lw.tp _ _ e2, h3⟩, fun x H3 yl => ?_⟩
        obtain ⟨e5, e6⟩ := yl
        subst e5
        have e7 := e6 ys (lw.tp _ _ e2)
        (first | exact PyNso (h3) e7 | exact PyNso e7 (h3) | cases PySos (h3) e7 | (rw [h3] at e7; cases e7))
        exact ⟨.refl, S', h4⟩
      · have ew' : us[i]? = none := Option.some.inj ew
        refine ⟨ys, lw.tp _ _ e2, ?_⟩
        rw [← e3.length]
        exact List.getElem?_eq_none_iff.mp ew'
    | ref n =>
      obtain ⟨a, rfl, e2⟩ := q1
      have read : ∀ {φ' H' A' us}, LeW X.K φ1 H1 φ' H' → Sim X.K φ' A' H' → seqOf (.ref n) A' = some us → ∃ ys, SqL X.K H' a ys ∧ RVs X.K φ' H' us ys := fun {φ' H' A' us} lw S' es => by
        obtain ⟨a', ys, ea, z, r⟩ := seqOf_read (w := .ref n) (v := .ref a) S' ⟨a, rfl, lw.ex _ _ e2⟩ es
        cases ea
        unfold seqOf at es
        dsimp only at es
        revert es; cases ec : A'[n]? with
        | none => intro es; cases es
        | some o =>
          intro es
          obtain ⟨a', e3, r⟩ := S'.ob n o ec
          (first | exact PyNso (lw.ex _ _ e2) e3 | exact PyNso e3 (lw.ex _ _ e2) | cases PySos (lw.ex _ _ e2) e3 | (rw [lw.ex _ _ e2] at e3; cases e3))
          cases o with
          | lst xs => cases es; obtain ⟨ys, h1, h2⟩ := r; exact ⟨ys, SqL.of h1, h2⟩
          | ro xs => cases es; obtain ⟨ys, h1, h2⟩ := r; exact ⟨ys, h1.sq, h2⟩
          | dct xs => cases es
          | tab _ _ => cases es
      obtain ⟨ys0, hq0, _⟩ := read ⟨fun _ _ h => h, fun _ _ h => h, fun _ _ _ h => h⟩ S1 e
      refine ⟨a, rfl, .inl ⟨⟨ys0, hq0⟩, h1 φ1 H1 _ l1 S1 fun i φ' H' A' lw S' => ⟨fun w' ew => ?_, fun ew => ?_⟩⟩⟩
      · dsimp only at ew
        revert ew; cases es : seqOf (.ref n) A' with
        | none => intro ew; cases ew
        | some us =>
          intro ew
          have ew' : us[i]? = some w' := Option.some.inj ew
          obtain ⟨ys, hq, r⟩ := read lw S' es
          obtain ⟨y, h3, h4⟩ := r.get ew'
          refine ⟨⟨ys, y, hq, h3⟩, fun x H3 yl => ?_⟩
          obtain ⟨e5, e6⟩ := yl
          subst e5
          have e7 := e6 ys hq
          (first | exact PyNso (h3) e7 | exact PyNso e7 (h3) | cases PySos (h3) e7 | (rw [h3] at e7; cases e7))
          exact ⟨.refl, S', h4⟩
      · dsimp only at ew
        revert ew; cases es : seqOf (.ref n) A' with
        | none => intro ew; cases ew
        | some us =>
          intro ew
          have ew' : us[i]? = none := Option.some.inj ew
          obtain ⟨ys, hq, r⟩ := read lw S' es
          refine ⟨ys, hq, ?_⟩
          rw [← r.length]
          exact List.getElem?_eq_none_iff.mp ew'
    | non => cases e
    | bl _ => cases e
    | clo _ _ _ => cases e
    | xc _ => cases e
    | int _ => cases e
    | str _ => cases e
noncomputable def rngIt (lo : Int) (n : Nat) : Itx := ⟨fun _ i => if i < n then some (some (.int (lo + i))) else some none, n⟩
private theorem rng_ok {K : PySem.W.Frag} {φ : List Addr} {H : Hp} {lo : Int} {n : Nat} : ItR K φ H (rngIt lo n) (Itr lo n) := fun i φ' H' A' lw S' => by
  unfold rngIt
  dsimp only
  by_cases hi : i < n
  · rw [if_pos hi]
    refine ⟨fun w e => ?_, fun e => by cases e⟩
    cases e
    exact ⟨hi, fun x H1 ⟨e1, e2⟩ => by subst e1; exact ⟨.refl, S', e2⟩⟩
  · rw [if_neg hi]
    exact ⟨fun w e => (by cases e), fun _ => Nat.le_of_not_lt hi⟩
noncomputable def small62 (i : Int) : Bool := decide (-(2 ^ 62) ≤ i) && decide (i < 2 ^ 62)
private theorem small62_of {i : Int} (h : small62 i = true) : -(2 ^ 62) ≤ i ∧ i < 2 ^ 62 := by
  unfold small62 at h
  rw [Bool.and_eq_true, decide_eq_true_iff, decide_eq_true_iff] at h
  exact h
noncomputable def mRng1 (m : Ev) : Ei := fun ρ A => (m ρ A).bind fun w A1 => match w with
  | .int j => if small62 j then .ok (rngIt 0 j.toNat) A1 else .bad
  | _ => .bad
private theorem si_rng1 {tg : Expr} {p : Pos} (hg : Gl X "range") (hm : X.mg "range" = none) (ha : SE X xr a ma) (hs : autoParam (starEach [a] X.env = [(false, eval a X.env)]) PyProof.Rows.call_M_of_MD._auto_3) : SI X xr tg (.Call (.Name "range" p) [a] [] pos) (mRng1 ma) :=
  PI.imp (pi_range1 hg hm (pa_cons ha pa_nil (by rw [hs]; rfl)) hs) fun σ H Rr ⟨φ, A, ρ, S, re, h⟩ => by
    refine tM.go S re (post_bind.mp h) fun w A1 φ1 H1 v h1 l1 S1 q1 => ?_
    cases w with
    | int j =>
      obtain rfl := q1
      dsimp only at h1
      by_cases hj : small62 j = true
      · rw [if_pos hj] at h1
        obtain ⟨b1, b2⟩ := small62_of hj
        exact ⟨j, rfl, b1, b2, h1 φ1 H1 _ l1 S1 rng_ok⟩
      · rw [if_neg hj] at h1; exact h1.elim
    | non => exact h1.elim
    | bl _ => exact h1.elim
    | str _ => exact h1.elim
    | tup _ => exact h1.elim
    | ref _ => exact h1.elim
    | clo _ _ _ => exact h1.elim
    | xc _ => exact h1.elim
end
end Mi
namespace Mi
open PySem PySem.Spec PyProof.Rows L2
noncomputable abbrev Fn := List W → Hx → R W
noncomputable def ClsOf (K : PySem.W.Frag) (x : Str) (C : Value) : Prop := PySem.W.nsIn K mainGlobals x = some (some C)
noncomputable def XE (K : PySem.W.Frag) (E : XK) (x : Str) (H : Hp) : Prop := ∀ C d, ClsOf K x C → E C d H
inductive spM (K : PySem.W.Frag) (n : Nat) (f : Fn) (vs : List V) (H : Hp) (Q : VK) (E : XK) : Prop
  | mk (len : vs.length = n) (φ : List Addr) (A : Hx) (ws : List W) (S : Sim K φ A H) (r : RVs K φ H ws vs) (q : (f ws A).post (PB K φ H Q) (EB K φ H (XE K E)))
private theorem spM.len {K : PySem.W.Frag} {n : Nat} {f : Fn} {vs : List V} {H : Hp} {Q : VK} {E : XK} (h : spM K n f vs H Q E) : vs.length = n := by cases h; assumption
inductive FnM (P : Program) (w : World) (K : PySem.W.Frag) (mg : Str → Option Value) (base : Heap) (k : Nat) (x : Str) (n : Nat) (f : Fn) : Prop
  | mk (fa : Addr) (fd : FuncData) (ps : List Str) (F : FnOk P w K mg base CX0 k fa fd ps (spM K n f)) (at_ : mg x = some (.ref fa)) (kp : PySem.W.keepIn K (.ref fa) = true) (bi : Binds K fd ps [])
noncomputable def mCall (f : Fn) (a : Ea) : Ev := fun ρ A => (a ρ A).bind fun ws A1 => f ws A1
section
variable {X : Cx} {xr : XR} {e a b c : Expr} {es : List Expr} {m ma mb mc : Ev} {m1 m2 : Ex} {pos : Pos}
noncomputable def ALen (m : Ea) (n : Nat) : Prop := ∀ ρ A ws A', m ρ A = .ok ws A' → ws.length = n
private theorem al_nil : ALen aNil 0 := fun _ _ _ _ h => by unfold aNil at h; cases h; rfl
private theorem al_cons {mr : Ea} {n : Nat} (h : ALen mr n) : ALen (aCons ma mr) (n + 1) := fun ρ A ws A' e => by
  unfold aCons at e
  revert e; cases h1 : ma ρ A with
  | ok x A1 =>
    intro e; rw [bind_ok] at e
    revert e; cases h2 : mr ρ A1 with
    | ok xs A2 => intro e; (first | exact PyNso (bind_ok) e | exact PyNso e (bind_ok) | cases PySos (bind_ok) e | (rw [bind_ok] at e; cases e)); simp [h ρ A1 xs _ h2]
    | exc x A2 => intro e; cases e
    | bad => intro e; cases e
  | exc x A1 => intro e; cases e
  | bad => intro e; cases e
private theorem se_call {k n : Nat} {x : Str} {p : Pos} {f : Fn} {mr : Ea} (F : FnM X.prog X.w X.K X.mg X.base k x n f) (hr : Room k X.A) (ha : SA X xr0 (e :: es) mr) (hl : ALen mr n) (hg : autoParam (Gl X x) PyProof.Rows.call_M_of_MD._auto_3)
    (hdb : autoParam ((x == ("__debug__" : Str)) = false) PyProof.Rows.glB_def._auto_7) (he : autoParam (starEach (e :: es) X.env = (false, eval e X.env) :: starEach es X.env) PyProof.Rows.call_M_of_MD._auto_3) (hpl : autoParam ((backTo pos (starEach es X.env)).any (·.1) = false) PyProof.Rows.call_M_of_MD._auto_3) :
    SE X xr0 (.Call (.Name x p) (e :: es) [] pos) (mCall f mr) := by
  obtain ⟨fa, fd, ps, F, hm, hk, hb⟩ := F
  refine PE.imp (pe_call F hr hg hm hk hb .nil pass0 ha hdb he hpl) fun σ H Q ⟨φ, A, ρ, S, re, h⟩ => ?_
  have h' := post_bind.mp h
  refine ⟨φ, A, ρ, S, re, ?_⟩
  revert h'; cases er : mr ρ A with
  | ok ws A1 =>
    intro h'
    intro φ1 H1 vs l1 S1 q1
    have hv : vs.length = n := by rw [← q1.length]; exact hl ρ A ws A1 er
    rw [List.append_nil]
    exact ⟨hv, φ1, A1, ws, S1, q1, post_mono h' (fun _ _ z => z.mono l1) fun x A2 z φ2 H2 l2 S2 => (z φ2 H2 (l1.trans l2) S2).elim⟩
  | exc x A1 => intro h'; exact h'
  | bad => intro h'; exact h'
end
noncomputable def runB (n : Nat) (m : Ex) : Fn := fun ws A => (m (ws.map some ++ List.replicate (n - ws.length) none) A).nox.bind fun fl A1 => match fl with
  | .rt w => .ok w A1
  | .nx _ => .ok .non A1
  | _ => .bad
private theorem RE.start {K : PySem.W.Frag} {φ : List Addr} {H : Hp} {N : List Str} {ws : List W} {vs : List V} (h : RVs K φ H ws vs) : RE K φ H (ws.map some ++ List.replicate (N.length - ws.length) none) (L2.start N vs) := by
  unfold L2.start
  refine ⟨by simp [h.length], fun i w e => ?_⟩
  by_cases hi : i < ws.length
  · rw [List.getElem?_append_left (by simpa using hi), List.getElem?_map] at e
    revert e; cases hw : ws[i]? with
    | none => intro e; cases e
    | some w' =>
      intro e; cases e
      obtain ⟨v, h1, h2⟩ := h.get hw
      refine ⟨v, ?_, h2⟩
      rw [List.getElem?_append_left (by rw [List.length_map, ← h.length]; exact hi), List.getElem?_map, h1]; rfl
  · rw [List.getElem?_append_right (by simpa using hi), List.getElem?_replicate] at e
    split at e <;> cases e
section
variable {P : Program} {w : World} {K : PySem.W.Frag} {mg : Str → Option Value} {base : Heap}
private theorem fnM {x : Str} {st : Stmt} {f : Addr} {fd : FuncData} {N ps : List Str} {k : Nat} {m : Ex} (F : Fun K x x st f fd) (hm : mg x = some (.ref f)) (S : FnScope N ps (defScope st))
    (hb : ∀ (kV doc pm : Value) (an : Option Addr) (cdv ct : Value) (us : List Value), us.length = ps.length → bindArgs (PySem.W.fnOf x x (defArgs st) (defBody st) (defScope st) .none kV doc pm an cdv ct) ⟨us, []⟩ = pure (ps.zip us))
    (hbody : ∀ (cdv : Value) (A : Around) (outer : List Env) (s : Shared) (H : Hp) (E : XK), Room k (A.deeper (envOfC x (defScope st) s.heap.objs.size f cdv)) → SSs (cxOf CX0 P w K mg base N x (defScope st) f cdv A outer s H E).nox xr0 (defBody st) m) :
    FnM P w K mg base (k + 1) x ps.length (runB N.length m) := by
  refine ⟨f, fd, ps, ?_, hm, F.kp, F.binds hb⟩
  refine F.ok S (fun vs H Q E h => h.len) fun cdv A outer s H vs Q E hr ⟨hl, φ, A1, ws, Sm, r, h⟩ => ⟨_, hbody cdv A outer s H E hr, ?_⟩
  refine ⟨φ, A1, ws.map some ++ List.replicate (N.length - ws.length) none, Sm, RE.start r, ?_⟩
  have h' := post_bind.mp h
  show R.post _ (FB K φ H _) _
  revert h'; cases er : m (ws.map some ++ List.replicate (N.length - ws.length) none) A1 with
  | ok fl A2 =>
    intro h'
    cases fl with
    | rt w => exact h'
    | nx ρ => exact fun φ' H' σ' l S' _ => h' φ' H' .non l S' rfl
    | bk ρ => exact h'.elim
    | ct ρ => exact h'.elim
  | exc y A2 =>
    intro h'
    exact h'.elim
  | bad => intro h'; exact h'.elim
private theorem FnM.mono {j k n : Nat} {x : Str} {f : Fn} (F : FnM P w K mg base j x n f) (h : j ≤ k) : FnM P w K mg base k x n f := by cases F with | mk fa fd ps F a b c => exact ⟨fa, fd, ps, F.mono h, a, b, c⟩
private theorem FnM.imp {k n : Nat} {x : Str} {f g : Fn} (F : FnM P w K mg base k x n f) (h : ∀ ws A, ws.length = n → g ws A = .bad ∨ f ws A = g ws A) : FnM P w K mg base k x n g := by
  obtain ⟨fa, fd, ps, F, a, b, c⟩ := F
  refine ⟨fa, fd, ps, F.imp fun vs H Q E ⟨hl, φ, A, ws, S, r, q⟩ => ⟨hl, φ, A, ws, S, r, ?_⟩, a, b, c⟩
  rcases h ws A (by (first | exact ((r.length).trans (hl)) | (rw [r.length]; exact hl))) with e | e
  · rw [e] at q; exact q.elim
  · (first | exact ((e).trans (q)) | (rw [e]; exact q))
end
section
variable {X : Cx} {K : PySem.W.Frag}
private theorem ne_ok {α : Type} {a : α} {A : Hx} : NoExc (R.ok a A) := fun _ _ h => by cases h
private theorem ne_bad {α : Type} : NoExc (R.bad : R α) := fun _ _ h => by cases h
private theorem ne_ite {α : Type} {c : Prop} [Decidable c] {a b : R α} (h1 : NoExc a) (h2 : NoExc b) : NoExc (if c then a else b) := by split <;> assumption
noncomputable def gII (f : Int → Int → W) : W → W → Hx → R W
  | .int i, .int j, A => .ok (f i j) A
  | _, _, _ => .bad
private theorem ne_II {f : Int → Int → W} : ∀ x y A, NoExc (gII f x y A) := fun x y A => by
  unfold gII; split
  · exact ne_ok
  · exact ne_bad
noncomputable def gIC (c : Int → Int → Bool) (f : Int → Int → W) : W → W → Hx → R W
  | .int i, .int j, A => if c i j then .ok (f i j) A else .bad
  | _, _, _ => .bad
private theorem ne_IC {c : Int → Int → Bool} {f : Int → Int → W} : ∀ x y A, NoExc (gIC c f x y A) := fun x y A => by
  unfold gIC; split
  · exact ne_ite ne_ok ne_bad
  · exact ne_bad
private theorem op2_II {f : Int → Int → W} {g : Int → Int → V} (h : ∀ i j φ H, RV K φ H (f i j) (g i j)) : Op2 K (rI0 g) (gII f) := fun φ A H x y u v Q S q1 q2 p => by
  cases u with
  | int i => cases v with
    | int j => obtain rfl := q1; obtain rfl := q2; exact ⟨i, j, rfl, rfl, p φ H _ .refl S (h i j φ H)⟩
    | _ => exact p.elim
  | _ => exact p.elim
private theorem op2_IC {c : Int → Int → Bool} {C : Int → Int → Prop} {f : Int → Int → W} {g : Int → Int → V} (hc : ∀ i j, c i j = true → C i j) (h : ∀ i j φ H, RV K φ H (f i j) (g i j)) : Op2 K (rI C g) (gIC c f) := fun φ A H x y u v Q S q1 q2 p => by
  cases u with
  | int i => cases v with
    | int j =>
      obtain rfl := q1; obtain rfl := q2
      unfold gIC at p
      dsimp only at p
      by_cases hh : c i j = true
      · rw [if_pos hh] at p; exact ⟨i, j, rfl, rfl, hc i j hh, p φ H _ .refl S (h i j φ H)⟩
      · rw [if_neg hh] at p; exact p.elim
    | _ => exact p.elim
  | _ => exact p.elim
noncomputable def cMul (i j : Int) : Bool := (decide (-(2 ^ 64) < i) && decide (i < 2 ^ 64)) || (decide (-(2 ^ 64) < j) && decide (j < 2 ^ 64))
noncomputable def cDiv (_ j : Int) : Bool := decide (0 < j) && decide (j < 1073741824)
noncomputable def cMod (_ j : Int) : Bool := decide (0 < j)
private theorem cMul_of (i j : Int) (h : cMul i j = true) : CMul i j := by
  unfold cMul at h
  simp only [Bool.or_eq_true, Bool.and_eq_true, decide_eq_true_eq] at h
  exact h
private theorem cDiv_of (i j : Int) (h : cDiv i j = true) : CDiv i j := by
  unfold cDiv at h
  simp only [Bool.and_eq_true, decide_eq_true_eq] at h
  exact h
private theorem cMod_of (i j : Int) (h : cMod i j = true) : (fun _ j => 0 < j) i j := by
  unfold cMod at h
  simpa using h
noncomputable def gSub := gII fun i j => .int (i - j)
noncomputable def gDiv := gIC cDiv fun i j => .int (i / j)
noncomputable def gModI := gIC cMod fun i j => .int (i % j)
noncomputable def gLt := gII fun i j => .bl (decide (i < j))
noncomputable def gLe := gII fun i j => .bl (decide (i ≤ j))
noncomputable def gGe := gII fun i j => .bl (decide (j ≤ i))
noncomputable def cPow (i j : Int) : Bool := decide (0 ≤ j) && decide (j ≤ 1000000) && decide (i.natAbs < 2 ^ 64)
private theorem cPow_of (i j : Int) (h : cPow i j = true) : CPow i j := by
  unfold cPow at h
  simp only [Bool.and_eq_true, decide_eq_true_eq] at h
  exact ⟨h.1.1, h.1.2, h.2⟩
noncomputable def gPow := gIC cPow fun i j => .int (i ^ j.toNat)
variable {xr : XR} {a b c : Expr} {ma mb mc : Ev} {pos : Pos}
private theorem se_sub (ha : SE X xr a ma) (hb : SE X xr b mb) : SE X xr (.BinOp a .Sub b pos) (mBin gSub ma mb) := se_bin op_sub ne_II (op2_II fun _ _ _ _ => rfl) ha hb
private theorem se_div (ha : SE X xr a ma) (hb : SE X xr b mb) : SE X xr (.BinOp a .FloorDiv b pos) (mBin gDiv ma mb) := se_bin op_fdiv ne_IC (op2_IC cDiv_of fun _ _ _ _ => rfl) ha hb
private theorem se_mod (ha : SE X xr a ma) (hb : SE X xr b mb) : SE X xr (.BinOp a .Mod b pos) (mBin gModI ma mb) := se_bin op_mod ne_IC (op2_IC cMod_of fun _ _ _ _ => rfl) ha hb
private theorem se_pow (ha : SE X xr a ma) (hb : SE X xr b mb) : SE X xr (.BinOp a .Pow b pos) (mBin gPow ma mb) := se_bin op_pow ne_IC (op2_IC cPow_of fun _ _ _ _ => rfl) ha hb
noncomputable def gNeg : W → Hx → R W
  | .int i, A => .ok (.int (-i)) A
  | _, _ => .bad
private theorem se_neg (ha : SE X xr a ma) : SE X xr (.UnaryOp .USub a pos) (mUn gNeg ma) := se_un un_neg (fun x A => by unfold gNeg; split; exact ne_ok; exact ne_bad) (fun φ A H x u Q S q p => by
  cases u with
  | int i => obtain rfl := q; exact ⟨i, rfl, p φ H _ .refl S rfl⟩
  | _ => exact p.elim) ha
structure CmpOk (X : Cx) (op : CmpOp) (g : W → W → Hx → R W) : Prop where
  ex : ∃ r : R2, OpR X (compareOp op) r ∧ (∀ x y A, NoExc (g x y A)) ∧ Op2 X.K r g
  mks : ∀ b, op ≠ .In → op ≠ .NotIn → behindInMarks op b = false
private theorem cmp_of {op : CmpOp} {r : R2} {g : W → W → Hx → R W} (h1 : OpR X (compareOp op) r) (h2 : ∀ x y A, NoExc (g x y A)) (h3 : Op2 X.K r g) : CmpOk X op g := ⟨⟨r, h1, h2, h3⟩, fun b a1 a2 => nobehind b a1 a2⟩
private theorem c_lt : CmpOk X .Lt gLt := cmp_of op_lt ne_II (op2_II fun _ _ _ _ => rfl)
private theorem c_le : CmpOk X .LtE gLe := cmp_of op_le ne_II (op2_II fun _ _ _ _ => rfl)
private theorem c_ge : CmpOk X .GtE gGe := cmp_of op_ge ne_II (op2_II fun _ _ _ _ => rfl)
private theorem se_c {op : CmpOp} {g : W → W → Hx → R W} (h : CmpOk X op g) (ha : SE X xr a ma) (hb : SE X xr b mb) (h1 : autoParam (op ≠ .In) PyProof.Rows.glB_def._auto_7) (h2 : autoParam (op ≠ .NotIn) PyProof.Rows.glB_def._auto_7) : SE X xr (.Compare a [op] [b] pos) (mBin g ma mb) :=
  let ⟨r, a1, a2, a3⟩ := h.ex; se_cmp a1 a2 a3 ha hb (h.mks b h1 h2)
private theorem st_c {op : CmpOp} {g : W → W → Hx → R W} (h : CmpOk X op g) (ha : SE X xr a ma) (hb : SE X xr b mb) (h1 : autoParam (op ≠ .In) PyProof.Rows.glB_def._auto_7) (h2 : autoParam (op ≠ .NotIn) PyProof.Rows.glB_def._auto_7) : ST X xr (.Compare a [op] [b] pos) (mBin g ma mb) :=
  let ⟨r, a1, a2, a3⟩ := h.ex; st_cmp a1 a2 a3 ha hb (h.mks b h1 h2)
private theorem se_c2 {op op' : CmpOp} {g g' : W → W → Hx → R W} (h : CmpOk X op g) (h' : CmpOk X op' g') (ha : SE X xr a ma) (hb : SE X xr b mb) (hc : SE X xr c mc) (hm : autoParam (lastMarks [op, op'] [b, c] = false) PyProof.Rows.slice_list._auto_1) :
    SE X xr (.Compare a [op, op'] [b, c] pos) (mChain g g' ma mb mc) := let ⟨r, a1, a2, a3⟩ := h.ex; let ⟨r', b1, b2, b3⟩ := h'.ex; se_chain a1 a2 a3 b1 b2 b3 ha hb hc hm
end
end Mi
namespace Mi
open PySem PySem.Spec PyProof.Rows L2
inductive Ty where
  | non | bl | int | str | tup | lst | dct
  deriving DecidableEq
noncomputable def Ty.nm : Ty → String
  | .non => "NoneType" | .bl => "bool" | .int => "int" | .str => "str" | .tup => "tuple" | .lst => "list" | .dct => "dict"
noncomputable def tyW (w : W) (A : Hx) : Option Ty := match w with
  | .non => some .non
  | .bl _ => some .bl
  | .int _ => some .int
  | .str _ => some .str
  | .tup _ => some .tup
  | .ref n => match A[n]? with
    | some (.lst _) => some .lst
    | some (.dct _) => some .dct
    | _ => none
  | _ => none
noncomputable def subT (a b : Ty) : Bool := a == b || (a == .bl && b == .int)
private theorem kit_one {K : PySem.W.Frag} (a b : Ty) : PySem.W.kitOne K (.type a.nm) (.type b.nm) = some (subT a b) := by
  cases a <;> cases b <;> rfl
section
variable {X : Cx} {xr : XR} {K : PySem.W.Frag} {e a b c : Expr} {es : List Expr} {m ma mb mc : Ev} {pos : Pos}
noncomputable def TyR (K : PySem.W.Frag) (H : Hp) (x : V) (t : Ty) : Prop := TyOf K H x (.type t.nm) ∨ ∃ a xs, x = .ref a ∧ SqT K H a xs ∧ t = .tup
private theorem tyW_read {φ : List Addr} {A : Hx} {H : Hp} {w : W} {v : V} {t : Ty} (S : Sim K φ A H) (q : RV K φ H w v) (e : tyW w A = some t) : TyR K H v t := by
  cases w with
  | non => cases e; obtain rfl := q; exact .inl .non
  | bl k => cases e; obtain rfl := q; exact .inl (.bl k)
  | clo _ _ _ => cases e
  | xc _ => cases e
  | int k => cases e; obtain rfl := q; exact .inl (.int k)
  | str k => cases e; obtain rfl := q; exact .inl (.str k)
  | tup ws => cases e; obtain ⟨a, vs, rfl, h, _⟩ := q; exact .inr ⟨a, vs, rfl, h, rfl⟩
  | ref n =>
    obtain ⟨a, rfl, h1⟩ := q
    unfold tyW at e
    dsimp only at e
    revert e; cases eo : A[n]? with
    | none => intro e; cases e
    | some o =>
      intro e
      obtain ⟨a', h2, r⟩ := S.ob n o eo
      (first | exact PyNso (h1) h2 | exact PyNso h2 (h1) | cases PySos (h1) h2 | (rw [h1] at h2; cases h2))
      cases o with
      | lst ws => cases e; obtain ⟨vs, z, _⟩ := r; exact .inl (.lst z)
      | dct ws => cases e; obtain ⟨vs, z, _⟩ := r; exact .inl (.dK z)
      | tab _ _ => cases e
      | ro ws => cases e
private theorem TyR.kit {pins : List (Addr × Obj)} {σ : St} {H : Hp} {s : Shared} {x : V} {u : Value} {t : Ty} (I : Inv X pins σ H s) (r : RelV x u) (h : TyR X.K H x t) :
    (∀ {Q : Value → Shared → Prop} {E : Value → Shared → Prop} {A : Around} {c : Ty}, (∀ tk, Q (.bool (subT t c)) { s with toks := tk }) → wpAny (model X.prog X.w) A (call (.builtin "isinstance") [u, .type c.nm]) Q E s) := by
  intro Q E A c hq
  rcases h with h | ⟨a, xs, rfl, h, rfl⟩
  · exact isinst_ok I r h (kit_one t c) hq
  · cases (show u = Value.ref a from r)
    obtain ⟨its, _, ⟨o, h1, h2, _⟩, _⟩ := I.tuple h
    exact PySem.W.kia_one PySem.W.kitx_tuple I.kIn ⟨o, h1, h2⟩ (kit_one .tup c) (fun z => nomatch z) hq
noncomputable def rIs (K : PySem.W.Frag) : List V → Hp → VK → Prop := fun xs H Q => ∃ x t c, xs = [x, .ty (Ty.nm c)] ∧ TyR K H x t ∧ Q (.bl (subT t c)) H
private theorem call_is : CallR X (.builtin "isinstance") (rIs X.K) := by
  intro pins s σ H xs us Q I r h
  obtain ⟨x, t, c, rfl, ht, q⟩ := h
  obtain ⟨u, u', rfl, ru, ru'⟩ := vals2 r
  cases (show u' = Value.type c.nm from ru')
  exact ht.kit I ru fun tk => ⟨.bl (subT t c), H, I.tok tk, rfl, q⟩
noncomputable def mIs (t : Ty) (m : Ev) : Ev := fun ρ A => (m ρ A).bind fun w A1 => match tyW w A1 with
  | some t' => .ok (.bl (subT t' t)) A1
  | none => .bad
private theorem se_is (t : Ty) {x : Str} {p p' : Pos} (hm : X.mg "isinstance" = none) (hm' : X.mg x = none) (hx : bootBuiltins x = some (.type t.nm)) (ha : SE X xr e m) (hg : autoParam (Gl X "isinstance") PyProof.Rows.call_M_of_MD._auto_3) (hg' : autoParam (Gl X x) PyProof.Rows.call_M_of_MD._auto_3)
    (hn : autoParam (x ≠ "__name__") PyProof.Rows.glB_def._auto_7) (hd : autoParam ((x == ("__debug__" : Str)) = false) PyProof.Rows.glB_def._auto_7)
    (h1 : autoParam (starEach [e, .Name x p'] X.env = (false, eval e X.env) :: starEach [.Name x p'] X.env) PyProof.Rows.call_M_of_MD._auto_3) (h2 : autoParam ((backTo pos (starEach [.Name x p'] X.env)).any (·.1) = false) PyProof.Rows.call_M_of_MD._auto_3) :
    SE X xr (.Call (.Name "isinstance" p) [e, .Name x p'] [] pos) (mIs t m) :=
  PE.imp (pe_callB call_is hg hm (by rfl) (pa_cons ha (pa_cons (pe_bltn hg' hm' hx (v := .ty t.nm) rfl hn hd) pa_nil) h1) (by decide) (by decide) h1 h2) fun σ H Q ⟨φ, A, ρ, S, re, h⟩ => by
    refine tM.go S re (post_bind.mp h) fun w A1 φ1 H1 v h1 l1 S1 q1 => ?_
    revert h1; cases et : tyW w A1 with
    | none => intro h1; exact h1.elim
    | some t' =>
      intro h1
      exact ⟨v, t', t, rfl, tyW_read S1 q1 et, h1 φ1 H1 _ l1 S1 rfl⟩
noncomputable def gIx : W → W → Hx → R W := fun x y A => match seqOf x A, y with
  | some ws, .int i => match atI ws i with
    | some w => .ok w A
    | none => .bad
  | _, _ => .bad
private theorem ne_Ix : ∀ x y A, NoExc (gIx x y A) := fun x y A => by
  unfold gIx; split
  · split
    · exact ne_ok
    · exact ne_bad
  · exact ne_bad
private theorem atI_read {φ : List Addr} {H : Hp} {ws : List W} {ys : List V} {i : Int} {w : W} (r : RVs K φ H ws ys) (e : atI ws i = some w) : ∃ y, atI ys i = some y ∧ RV K φ H w y := by
  unfold atI at e ⊢
  rw [← r.length]
  revert e; cases h : ixN ws.length i with
  | none => intro e; cases e
  | some j =>
    intro e
    obtain ⟨y, h1, h2⟩ := r.get (i := j) e
    exact ⟨y, h1, h2⟩
private theorem op2_ix : Op2 K (rIx K) gIx := fun φ A H x y u v Q S q1 q2 p => by
  unfold gIx at p
  revert p; cases es : seqOf u A with
  | none => intro p; exact p.elim
  | some ws =>
    intro p
    cases v with
    | int i =>
      obtain rfl := q2
      dsimp only at p
      revert p; cases ei : atI ws i with
      | none => intro p; exact p.elim
      | some w =>
        intro p
        obtain ⟨a, ys, rfl, z, r⟩ := seqOf_read S q1 es
        obtain ⟨y', h1, h2⟩ := atI_read r ei
        rcases z with z | z
        · exact .inl ⟨a, ys, i, y', rfl, rfl, z, h1, p φ H _ .refl S h2⟩
        · exact .inr (.inl ⟨a, ys, i, y', rfl, rfl, z, h1, p φ H _ .refl S h2⟩)
    | non => exact p.elim
    | bl _ => exact p.elim
    | str _ => exact p.elim
    | tup _ => exact p.elim
    | ref _ => exact p.elim
    | clo _ _ _ => exact p.elim
    | xc _ => exact p.elim
private theorem se_ix (ha : SE X xr a ma) (hb : SE X xr b mb) (hs : autoParam (PlainIx b) PySem.Subscript_Name._auto_1) : SE X xr (.Subscript a b pos) (mBin gIx ma mb) := PE.imp (pe_ix ix_seq ha hb hs) (mBin.read ne_Ix op2_ix)
noncomputable def OpQ (K : PySem.W.Frag) (r : List V → Hp → VK → Prop) (g : List W → Hx → R W) : Prop := ∀ φ A H a ys ws Q, Sim K φ A H → (SqL K H a ys ∨ SqT K H a ys) → RVs K φ H ws ys → (g ws A).post (PB K φ H Q) noX → r [.ref a] H Q
noncomputable def mQ (g : List W → Hx → R W) (q : Eq') : Ev := fun ρ A => (q ρ A).bind fun ws A1 => g ws A1
private theorem mQ.read {r : List V → Hp → VK → Prop} {g : List W → Hx → R W} {q : Eq'} (hn : ∀ ws A, NoExc (g ws A)) (hq : OpQ X.K r g) : ∀ σ H Q, tM X.K xr (mQ g q) σ H Q → tCB r (tCons (tQ X.K xr q) tNil) σ H Q := by
  rintro σ H Q ⟨φ, A, ρ, S, re, h⟩
  refine ⟨φ, A, ρ, S, re, post_mono (post_bind.mp h) (fun ws A1 h1 φ1 H1 a ys l1 S1 z r => ?_) fun _ _ z => z⟩
  exact hq φ1 A1 H1 a ys ws Q S1 z r (post_mono (post_noX (hn _ _) h1) (fun _ _ z => z.mono l1) fun _ _ z => z)
private theorem se_qB {id : String} {x : Str} {p : Pos} {r : List V → Hp → VK → Prop} {g : List W → Hx → R W} {q : Eq'} (hc : CallR X (.builtin id) r) (hn : ∀ ws A, NoExc (g ws A)) (hq : OpQ X.K r g) (hm : X.mg x = none) (hv : bootBuiltins x = some (.builtin id)) (ha : SQ X xr e q) (hg : autoParam (Gl X x) PyProof.Rows.call_M_of_MD._auto_3)
    (hn' : autoParam (x ≠ "__name__") PyProof.Rows.glB_def._auto_7) (hdb : autoParam ((x == ("__debug__" : Str)) = false) PyProof.Rows.glB_def._auto_7) (he : autoParam (starEach [e] X.env = (false, eval e X.env) :: starEach [] X.env) PyProof.Rows.call_M_of_MD._auto_3) (hpl : autoParam ((backTo pos (starEach [] X.env)).any (·.1) = false) PyProof.Rows.call_M_of_MD._auto_3) :
    SE X xr (.Call (.Name x p) [e] [] pos) (mQ g q) := PE.imp (pe_callB hc hg hm hv (pa_cons ha pa_nil he) hn' hdb he hpl) (mQ.read hn hq)
noncomputable def gLen : List W → Hx → R W := fun ws A => .ok (.int ws.length) A
private theorem opQ_len : OpQ K (fun xs H Q => ∃ p ys, xs = [.ref p] ∧ (SqL K H p ys ∨ SqT K H p ys) ∧ Q (.int ys.length) H) gLen := fun φ A H a ys ws Q S z r p =>
  ⟨a, ys, rfl, z, by rw [← r.length]; exact p φ H _ .refl S rfl⟩
private theorem se_len {p : Pos} {q : Eq'} (hm : X.mg "len" = none) (ha : SQ X xr e q) (hg : autoParam (Gl X "len") PyProof.Rows.call_M_of_MD._auto_3) (he : autoParam (starEach [e] X.env = (false, eval e X.env) :: starEach [] X.env) PyProof.Rows.call_M_of_MD._auto_3) :
    SE X xr (.Call (.Name "len" p) [e] [] pos) (mQ gLen q) := se_qB call_len_seq (fun _ _ => ne_ok) opQ_len hm (by rfl) ha hg (by decide) (by decide) he (by rfl)
end
end Mi
namespace Mi
open PySem PySem.Spec PyProof.Rows L2
section
variable {X : Cx} {xr : XR} {K : PySem.W.Frag} {e a b c : Expr} {es : List Expr} {m ma mb mc : Ev} {pos : Pos}
private theorem seq_walk {pins : List (Addr × Obj)} {σ : St} {H : Hp} {s : Shared} {a : Addr} {ys : List V} (I : Inv X pins σ H s) (hc : X.calm = true) (z : SqL X.K H a ys ∨ SqT X.K H a ys) {E : Value → Shared → Prop} {Q : Value → Shared → Prop}
    (h : ∀ (its : List Value) (I' : Addr) (fp wr : List Addr) (St' : Nat → Heap → Prop) (s2 : Shared), Vals ys its → ys.length ≤ sizeLine → Walks X.prog X.w X.A.in1 I' fp wr its.length (fun i v => its[i]? = some v) St' → St' 0 s2.heap → (∀ b ∈ fp, b < s2.heap.objs.size) →
      (∀ (h' : Heap) (tk : Nat), (∀ b o, b ∉ wr → s2.heap.get? b = some o → h'.get? b = some o) → Inv X pins σ H { s2 with heap := h', toks := tk }) → Q (.ref I') s2) :
    wpAny (model X.prog X.w) X.A.in1 (pyIter (.ref a)) Q E s := by
  have hh : X.A.in1.handled = none := I.ok.hd hc
  have keep : ∀ (o : Obj) (h' : Heap) (tk : Nat), (∀ b u, b ∉ [s.heap.objs.size] → (s.heap.push o).get? b = some u → h'.get? b = some u) → Inv X pins σ H { s with heap := h', toks := tk } := fun o h' tk k => I.kept fun b u e => k b u (by
    intro hm
    have e1 : b = s.heap.objs.size := by simpa using hm
    exact absurd (e1 ▸ Heap.lt_size e) (Nat.lt_irrefl _)) (Heap.get?_push_of_some _ e)
  rcases z with z | z
  · obtain ⟨its, rv, p, hz⟩ := I.list z
    have hlt : a < s.heap.objs.size := by obtain ⟨o, n, e, _⟩ := p; exact Heap.lt_size e
    refine wpAny_pyIter_list p.isList ?_
    have W := Walks.list (prog := X.prog) (w := X.w) hh s.heap.objs.size a (Nat.ne_of_lt hlt) its.toArray
    rw [List.size_toArray] at W
    simp only [List.getElem?_toArray] at W
    refine h its s.heap.objs.size _ _ _ _ rv hz W ⟨⟨_, Heap.get?_push_size _ rfl, rfl, rfl⟩, p.isList.at fun o e => Heap.get?_push_of_some _ e⟩ (fun b hb => ?_) fun h' tk k => keep _ h' tk k
    show b < (s.heap.push _).objs.size
    rw [Heap.size_push]
    rcases List.mem_cons.mp hb with e | hb
    · (first | exact ((e).trans (Nat.lt_succ_self _)) | (rw [e]; exact Nat.lt_succ_self _))
    · have e : b = a := by simpa using hb
      (first | exact ((e).trans (Nat.lt_succ_of_lt hlt)) | (rw [e]; exact Nat.lt_succ_of_lt hlt))
  · obtain ⟨its, rv, p, hz⟩ := I.tuple z
    have hlt : a < s.heap.objs.size := p.lt
    have p' : s.heap.IsTuple a its.toArray := p
    refine wpAny_pyIter_tuple p' ?_
    have W := Walks.tuple (prog := X.prog) (w := X.w) hh s.heap.objs.size a (Nat.ne_of_lt hlt) its.toArray
    rw [List.size_toArray] at W
    simp only [List.getElem?_toArray] at W
    refine h its s.heap.objs.size _ _ _ _ rv hz W ⟨⟨_, Heap.get?_push_size _ rfl, rfl, rfl⟩, p'.at fun o e => Heap.get?_push_of_some _ e⟩ (fun b hb => ?_) fun h' tk k => keep _ h' tk k
    show b < (s.heap.push _).objs.size
    rw [Heap.size_push]
    rcases List.mem_cons.mp hb with e | hb
    · (first | exact ((e).trans (Nat.lt_succ_self _)) | (rw [e]; exact Nat.lt_succ_self _))
    · have e : b = a := by simpa using hb
      (first | exact ((e).trans (Nat.lt_succ_of_lt hlt)) | (rw [e]; exact Nat.lt_succ_of_lt hlt))
end
end Mi
namespace Mi
open PySem PySem.Spec PyProof.Rows L2
noncomputable def cpsB (outer sc : Scope) : Bool := sc.kind == .function && decide ((sc.names.map (·.1)).Nodup) && sc.names.all fun y => y.2 != .free || (outer.names.lookup y.1 == some .cell || outer.names.lookup y.1 == some .free)
private theorem cps {X : Cx} {sc : Scope} (h : cpsB X.env.scope sc = true) : CpScope X sc := by
  unfold cpsB at h
  rw [Bool.and_eq_true, Bool.and_eq_true, decide_eq_true_iff, beq_iff_eq, List.all_eq_true] at h
  refine ⟨h.1.1, h.1.2, fun y hy e => ?_⟩
  have := h.2 y hy
  rw [e] at this
  simp only [bne_self_eq_false, Bool.false_or, Bool.or_eq_true, beq_iff_eq] at this
  exact this
end Mi
namespace Mi
open PySem PySem.Spec PyProof.Rows L2
section
variable {X : Cx} {xr : XR} {K : PySem.W.Frag} {e a b c : Expr} {es : List Expr} {m ma mb mc : Ev} {pos : Pos}
private theorem Sim.lst {φ : List Addr} {A : Hx} {H : Hp} {n : Nat} {ws : List W} {v : V} (S : Sim K φ A H) (q : RV K φ H (.ref n) v) (e : A[n]? = some (.lst ws)) : ∃ p vs, v = .ref p ∧ φ[n]? = some p ∧ H p = some (.lst vs) ∧ RVs K φ H ws vs := by
  obtain ⟨p, rfl, h1⟩ := q
  obtain ⟨p', h2, vs, h3, h4⟩ := S.ob n _ e
  (first | exact PyNso (h1) h2 | exact PyNso h2 (h1) | cases PySos (h1) h2 | (rw [h1] at h2; cases h2))
  exact ⟨p, vs, rfl, h1, h3, h4⟩
private theorem cat_tup0 {prog : Program} {w : World} {A : Around} {E : Value → Shared → Prop} {s : Shared} {t b : Addr} {ws : List Value} {Q : Value → Shared → Prop} (ht : IsTup s.heap t ([] : List Value).toArray) (hb : IsTup s.heap b ws.toArray) (h0 : Q (.ref b) s) :
    wpAny (model prog w) A (binaryOp .Add (.ref t) (.ref b)) Q E s := by
  obtain ⟨⟨cls, dd, data, sl⟩, ho, hc, n, hd⟩ := id ht
  obtain ⟨⟨cls2, dd2, data2, sl2⟩, ho2, hc2, n2, hd2⟩ := id hb
  simp only at hc hd hc2 hd2
  subst hc hd hc2 hd2
  exact concat_meets ⟨_, ho, rfl⟩ ⟨_, ho2, rfl⟩ noFill_tuple_add seq_tuple_add PySem.F.slot_tuple_add PySem.F.entry_tuple_add (PySem.F.args_tuple_add_2 _ _)
      (tuple_addW0 t b ([] : List Value).toArray ws.toArray n n2 dd dd2 sl sl2 (by simp)) ⟨ho, ho2, h0⟩
noncomputable def rCatT0 (K : PySem.W.Frag) : R2 := fun x y H Q => ∃ a b ys, x = .ref a ∧ y = .ref b ∧ SqT K H a [] ∧ SqT K H b ys ∧ Q (.ref b) H
private theorem op_catT0 : OpR X (binaryOp .Add) (rCatT0 X.K) := by
  intro pins s σ H x y v u Q I rx ry h
  obtain ⟨a, b, ys, rfl, rfl, ha, hb, q⟩ := h
  cases rx
  cases ry
  obtain ⟨its, r1, p1, _⟩ := I.tuple ha
  obtain ⟨its2, r2, p2, _⟩ := I.tuple hb
  cases r1
  exact cat_tup0 p1 p2 ⟨.ref b, H, I, rfl, q⟩
noncomputable def gAdd : W → W → Hx → R W := fun x y A => match x, y with
  | .int i, .int j => .ok (.int (i + j)) A
  | .tup xs, .tup ys => if xs.length + ys.length ≤ cpMost then .ok (.tup (xs ++ ys)) A else .bad
  | .ref n, .ref k => match A[n]?, A[k]? with
    | some (.lst xs), some (.lst ys) => if xs.length + ys.length ≤ cpMost then .ok (.ref A.length) (A ++ [.lst (xs ++ ys)]) else .bad
    | _, _ => .bad
  | _, _ => .bad
private theorem ne_Add : ∀ x y A, NoExc (gAdd x y A) := fun x y A => by
  unfold gAdd
  split
  · exact ne_ok
  · exact ne_ite ne_ok ne_bad
  · split
    · exact ne_ite ne_ok ne_bad
    · exact ne_bad
  · exact ne_bad
private theorem cpMost_le {n : Nat} (h : n ≤ cpMost) : n ≤ sizeLine := by
  have : sizeLine = 16777216 := sizeLine_eq
  unfold cpMost at h
  omega
private theorem op2_add : Op2 K (fun x y H Q => rI0 (fun i j => .int (i + j)) x y H Q ∨ rCatT K x y H Q ∨ rCatT0 K x y H Q ∨ rCat x y H Q) gAdd := fun φ A H x y u v Q S q1 q2 p => by
  cases u with
  | int i => cases v with
    | int j => obtain rfl := q1; obtain rfl := q2; exact .inl ⟨i, j, rfl, rfl, p φ H _ .refl S rfl⟩
    | _ => exact p.elim
  | tup xs => cases v with
    | tup ys =>
      obtain ⟨a1, vs1, rfl, t1, r1⟩ := q1
      obtain ⟨a2, vs2, rfl, t2, r2⟩ := q2
      unfold gAdd at p
      dsimp only at p
      by_cases hz : xs.length + ys.length ≤ cpMost
      · rw [if_pos hz] at p
        by_cases hx : vs1 = []
        · subst hx
          have e0 : xs = [] := by
            have := r1.length
            simpa using this
          subst e0
          exact .inr (.inr (.inl ⟨a1, a2, vs2, rfl, rfl, t1, t2, p φ H _ .refl S ⟨a2, vs2, rfl, t2, r2⟩⟩))
        · refine .inr (.inl ⟨a1, a2, vs1, vs2, rfl, rfl, t1, t2, hx, by rw [← r1.length, ← r2.length]; exact cpMost_le hz, fun e => ?_, fun ne l hl => ?_⟩)
          · subst e
            have e0 : ys = [] := by
              have := r2.length
              simpa using this
            subst e0
            rw [List.append_nil] at p
            exact p φ H _ .refl S ⟨a1, vs1, rfl, t1, r1⟩
          · obtain ⟨b1, b2, b3⟩ := tupNew S hl (r1.append r2)
            exact p _ _ _ b1 b2 b3
      · rw [if_neg hz] at p; exact p.elim
    | _ => exact p.elim
  | ref n => cases v with
    | ref k =>
      unfold gAdd at p
      dsimp only at p
      cases e1 : A[n]? with
      | none => rw [e1] at p; exact p.elim
      | some o1 => cases o1 with
        | lst xs =>
          cases e2 : A[k]? with
          | none => rw [e1, e2] at p; exact p.elim
          | some o2 => cases o2 with
            | lst ys =>
              rw [e1, e2] at p
              dsimp only at p
              obtain ⟨p1, v1, rfl, f1, g1, r1⟩ := S.lst q1 e1
              obtain ⟨p2, v2, rfl, f2, g2, r2⟩ := S.lst q2 e2
              by_cases hz : xs.length + ys.length ≤ cpMost
              · rw [if_pos hz] at p
                refine .inr (.inr (.inr ⟨p1, p2, v1, v2, rfl, rfl, g1, g2, by rw [← r1.length, ← r2.length]; exact cpMost_le hz, fun l hl => ?_⟩))
                obtain ⟨b1, b2, b3⟩ := lstNew S hl (r1.append r2)
                exact p _ _ _ b1 b2 b3
              · rw [if_neg hz] at p; exact p.elim
            | _ => rw [e1, e2] at p; exact p.elim
        | _ => rw [e1] at p; exact p.elim
    | _ => exact p.elim
  | _ => cases v <;> exact p.elim
private theorem se_add (ha : SE X xr a ma) (hb : SE X xr b mb) : SE X xr (.BinOp a .Add b pos) (mBin gAdd ma mb) := se_bin (op_add.or (op_catT.or (op_catT0.or op_cat))) ne_Add op2_add ha hb
noncomputable def gMul : W → W → Hx → R W := fun x y A => match x, y with
  | .int i, .int j => if cMul i j then .ok (.int (i * j)) A else .bad
  | .ref n, .int k => match A[n]? with
    | some (.lst xs) => if small62 k && decide (xs.length * k.toNat ≤ cpMost) then .ok (.ref A.length) (A ++ [.lst (List.replicate k.toNat xs).flatten]) else .bad
    | _ => .bad
  | _, _ => .bad
private theorem ne_Mul : ∀ x y A, NoExc (gMul x y A) := fun x y A => by
  unfold gMul
  split
  · exact ne_ite ne_ok ne_bad
  · split
    · exact ne_ite ne_ok ne_bad
    · exact ne_bad
  · exact ne_bad
private theorem RVs.rep {φ : List Addr} {H : Hp} {ws : List W} {vs : List V} (r : RVs K φ H ws vs) : ∀ n : Nat, RVs K φ H (List.replicate n ws).flatten (List.replicate n vs).flatten
  | 0 => .nil
  | n + 1 => by rw [List.replicate_succ, List.replicate_succ, List.flatten_cons, List.flatten_cons]; exact r.append (RVs.rep r n)
private theorem op2_mul : Op2 K (fun x y H Q => rI CMul (fun i j => .int (i * j)) x y H Q ∨ rRep x y H Q) gMul := fun φ A H x y u v Q S q1 q2 p => by
  cases v with
  | int j => cases u with
    | int i =>
      obtain rfl := q1; obtain rfl := q2
      unfold gMul at p
      dsimp only at p
      by_cases hc : cMul i j = true
      · rw [if_pos hc] at p; exact .inl ⟨i, j, rfl, rfl, cMul_of i j hc, p φ H _ .refl S rfl⟩
      · rw [if_neg hc] at p; exact p.elim
    | ref n =>
      obtain rfl := q2
      unfold gMul at p
      dsimp only at p
      cases e1 : A[n]? with
      | none => rw [e1] at p; exact p.elim
      | some o1 => cases o1 with
        | lst xs =>
          rw [e1] at p
          dsimp only at p
          obtain ⟨p1, v1, rfl, f1, g1, r1⟩ := S.lst q1 e1
          by_cases hz : (small62 j && decide (xs.length * j.toNat ≤ cpMost)) = true
          · rw [if_pos hz] at p
            rw [Bool.and_eq_true, decide_eq_true_iff] at hz
            obtain ⟨b1, b2⟩ := small62_of hz.1
            refine .inr ⟨p1, j, v1, rfl, rfl, g1, by omega, by omega, by rw [← r1.length]; exact cpMost_le hz.2, fun l hl => ?_⟩
            obtain ⟨c1, c2, c3⟩ := lstNew S hl (r1.rep j.toNat)
            exact p _ _ _ c1 c2 c3
          · rw [if_neg hz] at p; exact p.elim
        | _ => rw [e1] at p; exact p.elim
    | _ => exact p.elim
  | _ => cases u <;> exact p.elim
private theorem se_mul (ha : SE X xr a ma) (hb : SE X xr b mb) : SE X xr (.BinOp a .Mult b pos) (mBin gMul ma mb) := se_bin (op_mul.or op_rep) ne_Mul op2_mul ha hb
private theorem se_tupN {x1} {mr : Ea} {n : Nat} (h : SA X xr es mr) (hl : ALen mr n) (hn : autoParam (n ≤ cpMost) PyProof.Rows.glB_def._auto_7) : SE X xr (.Tuple es x1 pos) (mTup mr) :=
  PE.imp (pe_tup h) fun σ H Q ⟨φ, A, ρ, S, re, h⟩ => by
    have h' := post_bind.mp h
    revert h'; cases e : mr ρ A with
    | ok ws A' =>
      intro h'
      refine ⟨φ, A, ρ, S, re, ?_⟩
      rw [e]
      intro φ1 H1 vs l1 S1 q1
      refine ⟨by rw [← q1.length, hl ρ A ws A' e]; exact cpMost_le hn, fun p hp => ?_⟩
      obtain ⟨a1, a2, a3⟩ := tupNew S1 hp q1
      exact h' _ _ _ (l1.trans a1) a2 a3
    | exc x A' => intro h'; refine ⟨φ, A, ρ, S, re, ?_⟩; (first | exact ((e).trans (h')) | (rw [e]; exact h'))
    | bad => intro h'; exact h'.elim
private theorem se_lstN {mr : Ea} {n : Nat} (h : SA X xr es mr) (hl : ALen mr n) (hn : autoParam (n ≤ cpMost) PyProof.Rows.glB_def._auto_7) : SE X xr (.List es pos) (mLst mr) :=
  se_lst h fun ρ A ws A' e => by (first | exact ((hl ρ A ws A' e).trans (cpMost_le hn)) | (rw [hl ρ A ws A' e]; exact cpMost_le hn))
noncomputable def gAppend : W → W → Hx → R W := fun x y A => match x with
  | .ref n => match A[n]? with
    | some (.lst ws) => if ws.length < cpMost then .ok .non (A.set n (.lst (ws ++ [y]))) else .bad
    | _ => .bad
  | _ => .bad
noncomputable def isL (x : W) (A : Hx) : Bool := match x with
  | .ref n => match A[n]? with
    | some (.lst _) => true
    | _ => false
  | _ => false
private theorem isL_read {φ : List Addr} {A : Hx} {H : Hp} {w : W} {v : V} (S : Sim K φ A H) (q : RV K φ H w v) (e : isL w A = true) : tyV K "list" v H := by
  unfold isL at e
  cases w with
  | ref n =>
    dsimp only at e
    cases e1 : A[n]? with
    | none => (first | exact PyNso (e1) e | exact PyNso e (e1) | cases PySos (e1) e | (rw [e1] at e; cases e))
    | some o => cases o with
      | lst ws => obtain ⟨p, vs, rfl, _, h, _⟩ := S.lst q e1; exact .inl ⟨rfl, _, SqL.of h⟩
      | _ => (first | exact PyNso (e1) e | exact PyNso e (e1) | cases PySos (e1) e | (rw [e1] at e; cases e))
  | _ => cases e
noncomputable def mMeth (g : W → W → Hx → R W) (a b : Ev) : Ev := fun ρ A => (a ρ A).bind fun x A1 => if isL x A1 then (b ρ A1).bind fun y A2 => g x y A2 else .bad
private theorem se_m1 {nm : Str} {id : String} {r : V → List V → Hp → VK → Prop} {g : W → W → Hx → R W} {apos cpos : Pos} (slot : Slot "list" nm id) (hty : typeOf (.builtin id) = pure (.type "method_descriptor")) (hm : MtR X id r) (hn : ∀ x y A, NoExc (g x y A))
    (hg : ∀ φ A H x y u v Q, Sim X.K φ A H → RV X.K φ H u x → RV X.K φ H v y → (g u v A).post (PB X.K φ H Q) noX → r x [y] H Q) (ho : SE X xr a ma) (he : SE X xr b mb)
    (hs : starEach [b] X.env = (false, eval b X.env) :: starEach [] X.env) (hbase : attributeBase a nm X.env (eval a X.env) = eval a X.env)
    (hfew : ((backTo cpos (starEach [b] X.env)).all (fun x => !x.1) && (backToKw cpos (keywordEach [] X.env)).all (fun x => x.1.isSome)
      && decide ([b].length + ([] : List Keyword).length + (if ([] : List Keyword).isEmpty then 0 else 1) < 30)) = true) (hline : (apos.endLine == cpos.line) = true) :
    SE X xr (.Call (.Attribute a nm apos) [b] [] cpos) (mMeth g ma mb) :=
  PE.imp (pe_bm PySem.F.plainAttrs_list slot hty hm ho (pa_cons he pa_nil hs) hbase hfew hline hs (by rfl)) fun σ H Q ⟨φ, A, ρ, S, re, h⟩ => by
    refine tM.go S re (post_bind.mp h) fun w A1 φ1 H1 v h1 l1 S1 q1 => ?_
    by_cases hl : isL w A1 = true
    · rw [if_pos hl] at h1
      refine ⟨isL_read S1 q1 hl, ?_⟩
      refine tM.go S1 (re.mono l1) (post_mono (post_bind.mp h1) (fun _ _ z => z) fun _ _ z => z.mono l1) fun w2 A2 φ2 H2 v2 h2 l2 S2 q2 => ?_
      exact hg φ2 A2 H2 v v2 w w2 Q S2 (q1.mono l2) q2 (post_mono (post_noX (hn _ _ _) h2) (fun _ _ z => z.mono (l1.trans l2)) fun _ _ z => z)
    · rw [if_neg hl] at h1; exact h1.elim
private theorem ne_Append : ∀ x y A, NoExc (gAppend x y A) := fun x y A => by
  unfold gAppend
  split
  · split
    · exact ne_ite ne_ok ne_bad
    · exact ne_bad
  · exact ne_bad
private theorem se_append {apos cpos : Pos} (ho : SE X xr a ma) (he : SE X xr b mb) (hs : autoParam (starEach [b] X.env = (false, eval b X.env) :: starEach [] X.env) PyProof.Rows.call_M_of_MD._auto_3)
    (hbase : autoParam (attributeBase a "append" X.env (eval a X.env) = eval a X.env) PyProof.Rows.call_M_of_MD._auto_3)
    (hfew : autoParam (((backTo cpos (starEach [b] X.env)).all (fun x => !x.1) && (backToKw cpos (keywordEach [] X.env)).all (fun x => x.1.isSome)
      && decide ([b].length + ([] : List Keyword).length + (if ([] : List Keyword).isEmpty then 0 else 1) < 30)) = true) PyProof.Rows.call_M_of_MD._auto_3) (hline : autoParam ((apos.endLine == cpos.line) = true) PyProof.Rows.call_M_of_MD._auto_3) :
    SE X xr (.Call (.Attribute a "append" apos) [b] [] cpos) (mMeth gAppend ma mb) :=
  se_m1 PySem.F.slot_list_append PySem.F.type_list_append mt_append ne_Append (fun φ A H x y u v Q S q1 q2 p => by
    unfold gAppend at p
    cases u with
    | ref n =>
      dsimp only at p
      cases e1 : A[n]? with
      | none => rw [e1] at p; exact p.elim
      | some o => cases o with
        | lst ws =>
          rw [e1] at p
          dsimp only at p
          by_cases hz : ws.length < cpMost
          · rw [if_pos hz] at p
            obtain ⟨l, vs, rfl, f1, g1, r1⟩ := S.lst q1 e1
            refine ⟨l, vs, y, rfl, rfl, g1, ?_, ?_⟩
            · rw [← r1.length]
              have : sizeLine = 16777216 := sizeLine_eq
              unfold cpMost at hz
              omega
            · have ln : Le X.K φ H φ (upd H l (.lst (vs ++ [y]))) := Le.upd f1 (fun xs z => by (first | exact PyNso (g1) z | exact PyNso z (g1) | cases PySos (g1) z | (rw [g1] at z; cases z))) (fun _ _ z => by (first | exact PyNso (g1) z | exact PyNso z (g1) | cases PySos (g1) z | (rw [g1] at z; cases z)))
              obtain ⟨w1, w2⟩ := S.write (o := .lst ws) (o' := .lst (ws ++ [v])) e1 rfl rfl f1 ⟨_, upd_same, (r1.mono ln).append (.one (q2.mono ln))⟩
              exact p _ _ _ w1 w2 rfl
          · rw [if_neg hz] at p; exact p.elim
        | _ => rw [e1] at p; exact p.elim
    | _ => exact p.elim) ho he hs hbase hfew hline
noncomputable def gPopAt : W → W → Hx → R W := fun x y A => match x, y with
  | .ref n, .int i => match A[n]? with
    | some (.lst ws) => match (if small62 i then seqIndex? i ws.length else none) with
      | some k => match ws[k]? with
        | some w => .ok w (A.set n (.lst (ws.eraseIdx k)))
        | none => .bad
      | none => .bad
    | _ => .bad
  | _, _ => .bad
noncomputable def gPut : W → W → W → Hx → R Unit := fun o i v A => match o, i with
  | .ref n, .int k => match A[n]? with
    | some (.lst ws) => match ixN ws.length k with
      | some j => .ok () (A.set n (.lst (ws.set j v)))
      | none => .bad
    | _ => .bad
  | _, _ => .bad
private theorem ne_Put : ∀ o i v A, NoExc (gPut o i v A) := fun o i v A => by
  unfold gPut
  split
  · split
    · split
      · exact ne_ok
      · exact ne_bad
    · exact ne_bad
  · exact ne_bad
private theorem set_put : SetOk K rSetL gPut := fun φ A H o i v wo wi wv Q S q1 q2 q3 p => by
  unfold gPut at p
  cases wo with
  | ref n => cases wi with
    | int k =>
      obtain rfl := q2
      dsimp only at p
      cases e1 : A[n]? with
      | none => rw [e1] at p; exact p.elim
      | some o1 => cases o1 with
        | lst ws =>
          rw [e1] at p
          dsimp only at p
          revert p; cases e2 : ixN ws.length k with
          | none => intro p; exact p.elim
          | some j =>
            intro p
            obtain ⟨l, vs, rfl, f1, g1, r1⟩ := S.lst q1 e1
            have ln : Le K φ H φ (upd H l (.lst (vs.set j v))) := Le.upd f1 (fun xs z => by (first | exact PyNso (g1) z | exact PyNso z (g1) | cases PySos (g1) z | (rw [g1] at z; cases z))) (fun _ _ z => by (first | exact PyNso (g1) z | exact PyNso z (g1) | cases PySos (g1) z | (rw [g1] at z; cases z)))
            obtain ⟨w1, w2⟩ := S.write (o := .lst ws) (o' := .lst (ws.set j wv)) e1 rfl rfl f1 ⟨_, upd_same, (r1.mono ln).set (q3.mono ln) j⟩
            exact ⟨l, vs, k, j, rfl, rfl, g1, by rw [← r1.length]; exact e2, p _ _ w1 w2⟩
        | _ => rw [e1] at p; exact p.elim
    | _ => exact p.elim
  | _ => cases wi <;> exact p.elim
private theorem ss_put {o i : Expr} {mo mi : Ev} {tpos : Pos} (he : SE X xr e m) (ho : SE X xr o mo) (hi : SE X xr i mi)
    (hs : autoParam (swapsWithSole [.Subscript o i tpos] e pos.line X.env = pure false) PyProof.Rows.call_M_of_MD._auto_3) (hw : autoParam (swappedStores [.Subscript o i tpos] e X.env = pure none) PyProof.Rows.call_M_of_MD._auto_3)
    (h1 : autoParam ((assignEach [.Subscript o i tpos] X.env).map (·.2) = [assign (.Subscript o i tpos) X.env]) PyProof.Rows.call_M_of_MD._auto_3)
    (ha : autoParam (∀ v, assign (.Subscript o i tpos) X.env v = (do
      let ov ← holding [v] (eval o X.env)
      let iv ← holding [v, ov] (eval i X.env)
      standAt tpos
      holding [v, ov, iv] (setItem ov iv v)
      release [v, ov, iv] [])) PyProof.Rows.Assign_ListComp_rowsP._auto_1) : SS X xr (.Assign [.Subscript o i tpos] e pos) (xStore gPut m mo mi) := ss_store set_list ne_Put set_put he ho hi hs hw h1 ha
end
end Mi
namespace Mi
open PySem PySem.Spec PyProof.Rows L2
section
variable {X : Cx} {xr : XR} {K : PySem.W.Frag} {e a b c : Expr} {es : List Expr} {m ma mb mc : Ev} {pos : Pos}
private theorem se_u2 {id : String} {x : Str} {p : Pos} {r : List V → Hp → VK → Prop} {g : W → W → Hx → R W} (hc : CallR X (.builtin id) r) (hn : ∀ w w' A, NoExc (g w w' A)) (hg : Op2 X.K (fun v v' => r [v, v']) g) (hm : X.mg x = none) (hv : bootBuiltins x = some (.builtin id)) (ha : SE X xr a ma) (hb : SE X xr b mb) (hgl : Gl X x)
    (hn' : x ≠ "__name__") (hdb : (x == ("__debug__" : Str)) = false) (h1 : starEach [a, b] X.env = (false, eval a X.env) :: starEach [b] X.env) (h2 : starEach [b] X.env = (false, eval b X.env) :: starEach [] X.env) (hpl : (backTo pos (starEach [b] X.env)).any (·.1) = false) :
    SE X xr (.Call (.Name x p) [a, b] [] pos) (mBin g ma mb) := PE.imp (pe_callB hc hgl hm hv (pa_cons ha (pa_cons hb pa_nil h2) h1) hn' hdb h1 hpl) fun σ H Q h => mBin.read (r := fun v v' => r [v, v']) hn hg σ H Q h
noncomputable def gMax2 := gII fun i j => .int (if j > i then j else i)
noncomputable def gMin2 := gII fun i j => .int (if j < i then j else i)
private theorem se_max2 {p : Pos} (hc : X.calm = true) (hm : X.mg "max" = none) (ha : SE X xr a ma) (hb : SE X xr b mb) (hgl : autoParam (Gl X "max") PyProof.Rows.call_M_of_MD._auto_3) (h1 : autoParam (starEach [a, b] X.env = (false, eval a X.env) :: starEach [b] X.env) PyProof.Rows.call_M_of_MD._auto_3) (h2 : autoParam (starEach [b] X.env = (false, eval b X.env) :: starEach [] X.env) PyProof.Rows.call_M_of_MD._auto_3) (hpl : autoParam ((backTo pos (starEach [b] X.env)).any (·.1) = false) PyProof.Rows.call_M_of_MD._auto_3) :
    SE X xr (.Call (.Name "max" p) [a, b] [] pos) (mBin gMax2 ma mb) := se_u2 (call_max2 hc) ne_II (fun φ A H x y u v Q S q1 q2 p => by
    obtain ⟨i, j, e1, e2, q⟩ := op2_II (K := X.K) (f := fun i j => .int (if j > i then j else i)) (g := fun i j => .int (if j > i then j else i)) (fun _ _ _ _ => rfl) φ A H x y u v Q S q1 q2 p
    subst e1; subst e2
    exact ⟨i, j, rfl, q⟩) hm (by rfl) ha hb hgl (by decide) (by decide) h1 h2 hpl
private theorem se_min2 {p : Pos} (hc : X.calm = true) (hm : X.mg "min" = none) (ha : SE X xr a ma) (hb : SE X xr b mb) (hgl : autoParam (Gl X "min") PyProof.Rows.call_M_of_MD._auto_3) (h1 : autoParam (starEach [a, b] X.env = (false, eval a X.env) :: starEach [b] X.env) PyProof.Rows.call_M_of_MD._auto_3) (h2 : autoParam (starEach [b] X.env = (false, eval b X.env) :: starEach [] X.env) PyProof.Rows.call_M_of_MD._auto_3) (hpl : autoParam ((backTo pos (starEach [b] X.env)).any (·.1) = false) PyProof.Rows.call_M_of_MD._auto_3) :
    SE X xr (.Call (.Name "min" p) [a, b] [] pos) (mBin gMin2 ma mb) := se_u2 (call_min2 hc) ne_II (fun φ A H x y u v Q S q1 q2 p => by
    obtain ⟨i, j, e1, e2, q⟩ := op2_II (K := X.K) (f := fun i j => .int (if j < i then j else i)) (g := fun i j => .int (if j < i then j else i)) (fun _ _ _ _ => rfl) φ A H x y u v Q S q1 q2 p
    subst e1; subst e2
    exact ⟨i, j, rfl, q⟩) hm (by rfl) ha hb hgl (by decide) (by decide) h1 h2 hpl
end
end Mi
namespace Mi
open PySem PySem.Spec PyProof.Rows L2
noncomputable def allP (f : W → Option PyData) : List W → Option (List PyData)
  | [] => some []
  | w :: ws => match f w, allP f ws with
    | some d, some ds => some (d :: ds)
    | _, _ => none
noncomputable def toP (A : Hx) : Nat → W → Option PyData
  | _, .non => some .none
  | _, .bl b => some (.bool b)
  | _, .int i => some (.int i)
  | _, .str x => if PyData.strOk x then some (.str x) else none
  | _, .clo _ _ _ => none
  | _, .xc _ => none
  | 0, .tup _ => none
  | 0, .ref _ => none
  | n + 1, .tup ws => (allP (toP A n) ws).map .tuple
  | n + 1, .ref k => match seqOf (.ref k) A with
    | some ws => (allP (toP A n) ws).map .list
    | none => none
private theorem seq_list {K : PySem.W.Frag} {φ : List Addr} {A : Hx} {H : Hp} {n : Nat} {us : List W} {v : V} (S : Sim K φ A H) (q : RV K φ H (.ref n) v) (es : seqOf (.ref n) A = some us) : ∃ a ys, v = .ref a ∧ SqL K H a ys ∧ RVs K φ H us ys := by
  obtain ⟨a, rfl, e2⟩ := q
  unfold seqOf at es
  dsimp only at es
  revert es; cases ec : A[n]? with
  | none => intro es; cases es
  | some o =>
    intro es
    obtain ⟨a', e3, r⟩ := S.ob n o ec
    (first | exact PyNso (e2) e3 | exact PyNso e3 (e2) | cases PySos (e2) e3 | (rw [e2] at e3; cases e3))
    cases o with
    | lst xs => cases es; obtain ⟨ys, h1, h2⟩ := r; exact ⟨a, ys, rfl, SqL.of h1, h2⟩
    | ro xs => cases es; obtain ⟨ys, h1, h2⟩ := r; exact ⟨a, ys, rfl, h1.sq, h2⟩
    | dct xs => cases es
    | tab _ _ => cases es
section
variable {X : Cx} {xr : XR} {e a b c : Expr} {ma mb mc : Ev} {pos : Pos}
private theorem allP_read {K : PySem.W.Frag} {φ : List Addr} {H : Hp} {h : Heap} {f : W → Option PyData} (hf : ∀ w v u d, RV K φ H w v → RelV v u → f w = some d → ∃ as, Reads h u d as) :
    ∀ {ws : List W} {vs : List V} {us : List Value} {ds : List PyData}, RVs K φ H ws vs → Vals vs us → allP f ws = some ds → ∃ as, ReadsAll h us ds as
  | [], _, _, _, r, rv, e => by cases r; cases rv; cases e; exact ⟨[], .nil⟩
  | w :: ws, _, _, ds, ⟨v, r, e1, q, t⟩, rv, e => by
    subst e1
    cases rv with
    | cons r1 r2 =>
      unfold allP at e
      cases e2 : f w with
      | none => (first | exact PyNso (e2) e | exact PyNso e (e2) | cases PySos (e2) e | (rw [e2] at e; cases e))
      | some d =>
        cases e3 : allP f ws with
        | none => (first | exact PyNso (e3) (e2 ▸ e) | (rw [e2, e3] at e; cases e))
        | some ds' =>
          (first | exact PyNso (e3) (e2 ▸ e) | (rw [e2, e3] at e; cases e))
          obtain ⟨as, h1⟩ := hf w v _ d q r1 e2
          obtain ⟨bs, h2⟩ := allP_read hf t r2 e3
          exact ⟨_, .cons h1 h2⟩
private theorem toP_read {pins : List (Addr × Obj)} {σ : St} {H : Hp} {s : Shared} {φ : List Addr} {A : Hx} (I : Inv X pins σ H s) (S : Sim X.K φ A H) : ∀ (n : Nat) (w : W) (v : V) (u : Value) (d : PyData), RV X.K φ H w v → RelV v u → toP A n w = some d → ∃ as, Reads s.heap u d as := by
  intro n
  induction n with
  | zero =>
    intro w v u d q r e
    cases w with
    | non => obtain rfl := q; cases r; cases e; exact ⟨_, .none⟩
    | bl k => obtain rfl := q; cases r; cases e; exact ⟨_, .bool k⟩
    | int k => obtain rfl := q; obtain ⟨t, rfl⟩ := r; cases e; exact ⟨_, .int k t⟩
    | str k =>
      obtain rfl := q
      obtain ⟨t, rfl⟩ := r
      unfold toP at e
      split at e
      · cases e; exact ⟨_, .str k t⟩
      · cases e
    | tup _ => cases e
    | ref _ => cases e
    | clo _ _ _ => unfold toP at e; cases e
    | xc _ => unfold toP at e; cases e
  | succ n ih =>
    intro w v u d q r e
    cases w with
    | non => obtain rfl := q; cases r; cases e; exact ⟨_, .none⟩
    | bl k => obtain rfl := q; cases r; cases e; exact ⟨_, .bool k⟩
    | clo _ _ _ => unfold toP at e; cases e
    | xc _ => unfold toP at e; cases e
    | int k => obtain rfl := q; obtain ⟨t, rfl⟩ := r; cases e; exact ⟨_, .int k t⟩
    | str k =>
      obtain rfl := q
      obtain ⟨t, rfl⟩ := r
      unfold toP at e
      split at e
      · cases e; exact ⟨_, .str k t⟩
      · cases e
    | tup ws =>
      obtain ⟨a, vs, rfl, hs, hr⟩ := q
      cases r
      unfold toP at e
      revert e; cases e1 : allP (toP A n) ws with
      | none => intro e; cases e
      | some ds =>
        intro e
        cases e
        obtain ⟨its, rv, ⟨o, h1, h2, k, h3⟩, _⟩ := I.tuple hs
        obtain ⟨as, h4⟩ := allP_read ih hr rv e1
        exact ⟨_, .tuple h1 h2 h3 (by simpa using h4)⟩
    | ref k =>
      unfold toP at e
      revert e; cases e1 : seqOf (.ref k) A with
      | none => intro e; cases e
      | some ws =>
        intro e
        dsimp only at e
        obtain ⟨a, ys, rfl, hs, hr⟩ := seq_list S q e1
        cases r
        revert e; cases e2 : allP (toP A n) ws with
        | none => intro e; cases e
        | some ds =>
          intro e
          cases e
          obtain ⟨its, rv, ⟨o, k', h1, h2, _, h3⟩, _⟩ := I.list hs
          obtain ⟨as, h4⟩ := allP_read ih hr rv e2
          exact ⟨_, .list h1 h2 h3 (by simpa using h4)⟩
private theorem toP_shape {A : Hx} : ∀ (n : Nat) (w : W) (d : PyData), toP A n w = some d → d.canLay0 = true ∧ d.depth ≤ n := by
  intro n
  have lst : ∀ {n : Nat}, (∀ (w : W) (d : PyData), toP A n w = some d → d.canLay0 = true ∧ d.depth ≤ n) → ∀ (ws : List W) (ds : List PyData), allP (toP A n) ws = some ds → PyData.canLayAll0 ds = true ∧ PyData.depthAll ds ≤ n := by
    intro n ih ws
    induction ws with
    | nil => intro ds e; cases e; exact ⟨by simp [PyData.canLayAll0], by simp [PyData.depthAll]⟩
    | cons w ws ihw =>
      intro ds e
      unfold allP at e
      cases e2 : toP A n w with
      | none => (first | exact PyNso (e2) e | exact PyNso e (e2) | cases PySos (e2) e | (rw [e2] at e; cases e))
      | some d =>
        cases e3 : allP (toP A n) ws with
        | none => (first | exact PyNso (e3) (e2 ▸ e) | (rw [e2, e3] at e; cases e))
        | some ds' =>
          (first | exact PyNso (e3) (e2 ▸ e) | (rw [e2, e3] at e; cases e))
          obtain ⟨h1, h2⟩ := ih w d e2
          obtain ⟨h3, h4⟩ := ihw ds' e3
          refine ⟨by simp [PyData.canLayAll0, h1, h3], ?_⟩
          simp only [PyData.depthAll]
          omega
  induction n with
  | zero =>
    intro w d e
    cases w with
    | tup _ => cases e
    | ref _ => cases e
    | clo _ _ _ => unfold toP at e; cases e
    | xc _ => unfold toP at e; cases e
    | str x =>
      unfold toP at e
      split at e
      · rename_i hx; cases e; exact ⟨by simp [PyData.canLay0, hx], by simp [PyData.depth]⟩
      · cases e
    | _ => cases e; exact ⟨by simp [PyData.canLay0], by simp [PyData.depth]⟩
  | succ n ih =>
    intro w d e
    cases w with
    | clo _ _ _ => unfold toP at e; cases e
    | xc _ => unfold toP at e; cases e
    | tup ws =>
      unfold toP at e
      revert e; cases e1 : allP (toP A n) ws with
      | none => intro e; cases e
      | some ds =>
        intro e
        cases e
        obtain ⟨h1, h2⟩ := lst ih ws ds e1
        refine ⟨by simp [PyData.canLay0, h1], ?_⟩
        simp only [PyData.depth]
        omega
    | ref k =>
      unfold toP at e
      revert e; cases e1 : seqOf (.ref k) A with
      | none => intro e; cases e
      | some ws =>
        intro e
        dsimp only at e
        revert e; cases e2 : allP (toP A n) ws with
        | none => intro e; cases e
        | some ds =>
          intro e
          cases e
          obtain ⟨h1, h2⟩ := lst ih ws ds e2
          refine ⟨by simp [PyData.canLay0, h1], ?_⟩
          simp only [PyData.depth]
          omega
    | str x =>
      unfold toP at e
      split at e
      · rename_i hx; cases e; exact ⟨by simp [PyData.canLay0, hx], by simp [PyData.depth]⟩
      · cases e
    | _ => cases e; exact ⟨by simp [PyData.canLay0], by simp [PyData.depth]⟩
noncomputable def gEqN (neg : Bool) : W → W → Hx → R W := fun x y A => match toP A 8 x, toP A 8 y with
  | some d, some d' => .ok (.bl (if neg then !PyData.eqv d d' else PyData.eqv d d')) A
  | _, _ => .bad
noncomputable abbrev gEq := gEqN false
noncomputable abbrev gNe := gEqN true
private theorem ne_EqN {n : Bool} : ∀ x y A, NoExc (gEqN n x y A) := fun x y A => by
  unfold gEqN
  split
  · exact ne_ok
  · exact ne_bad
noncomputable def rEqN (K : PySem.W.Frag) (neg : Bool) : R2 := fun x y H Q => ∃ φ A u v d d', Sim K φ A H ∧ RV K φ H u x ∧ RV K φ H v y ∧ toP A 8 u = some d ∧ toP A 8 v = some d' ∧ Q (.bl (if neg then !PyData.eqv d d' else PyData.eqv d d')) H
private theorem shaped8 {A : Hx} {w : W} {d : PyData} (h : toP A 8 w = some d) : SeqAt.shaped d = true := by
  obtain ⟨h1, h2⟩ := toP_shape 8 w d h
  unfold SeqAt.shaped
  rw [h1, Bool.true_and, decide_eq_true_iff]
  omega
private theorem op_eqN (hu : X.A.units + 64 < cLine) : OpR X (compareOp .Eq) (rEqN X.K false) := by
  intro pins s σ H x y v u Q I rx ry h
  obtain ⟨φ, A, w1, w2, d, d', S, q1, q2, e1, e2, q⟩ := h
  obtain ⟨as, h1⟩ := toP_read I S 8 w1 x v d q1 rx e1
  obtain ⟨bs, h2⟩ := toP_read I S 8 w2 y u d' q2 ry e2
  exact eq_dataH h1 h2 (shaped8 e1) (shaped8 e2) hu ⟨.bl _, H, I, rfl, q⟩
private theorem op_neN (hu : X.A.units + 64 < cLine) : OpR X (compareOp .NotEq) (rEqN X.K true) := by
  intro pins s σ H x y v u Q I rx ry h
  obtain ⟨φ, A, w1, w2, d, d', S, q1, q2, e1, e2, q⟩ := h
  obtain ⟨as, h1⟩ := toP_read I S 8 w1 x v d q1 rx e1
  obtain ⟨bs, h2⟩ := toP_read I S 8 w2 y u d' q2 ry e2
  exact ne_dataH h1 h2 (shaped8 e1) (shaped8 e2) hu ⟨.bl _, H, I, rfl, q⟩
private theorem op2_eqN {K : PySem.W.Frag} {n : Bool} : Op2 K (rEqN K n) (gEqN n) := fun φ A H x y u v Q S q1 q2 p => by
  unfold gEqN at p
  cases e1 : toP A 8 u with
  | none => rw [e1] at p; exact p.elim
  | some d =>
    cases e2 : toP A 8 v with
    | none => rw [e1, e2] at p; exact p.elim
    | some d' =>
      rw [e1, e2] at p
      exact ⟨φ, A, u, v, d, d', S, q1, q2, e1, e2, p φ H _ .refl S rfl⟩
private theorem c_eqD {k : Nat} (hr : Room k X.A) : CmpOk X .Eq gEq := cmp_of (op_eqN hr.units) ne_EqN op2_eqN
private theorem c_neD {k : Nat} (hr : Room k X.A) : CmpOk X .NotEq gNe := cmp_of (op_neN hr.units) ne_EqN op2_eqN
end
end Mi
namespace Mi
open PySem PySem.Spec PyProof.Rows L2
mutual
noncomputable def W.nr : W → Bool
  | .tup ws => nrs ws
  | .ref _ => false
  | .clo _ ws _ => nrs ws
  | _ => true
noncomputable def nrs : List W → Bool
  | [] => true
  | w :: ws => w.nr && nrs ws
end
noncomputable def iso (f : Fn) : Fn := fun us A => if nrs us then (match f us [] with
  | .ok w A1 => (match w with
    | .ref n => (match A1[n]? with
      | some (.lst ws) => if nrs ws then .ok (.ref A.length) (A ++ [.lst ws]) else .bad
      | some (.dct kvs) => if nrs (kvs.map (·.2)) then .ok (.ref A.length) (A ++ [.dct kvs]) else .bad
      | _ => .bad)
    | w => if w.nr then .ok w A else .bad)
  | _ => .bad) else .bad
noncomputable def isoL (f : Fn) : Fn := fun us A => match us with
  | .ref n :: us => (match A[n]? with
    | some (.lst ws) => if nrs ws && nrs us then (match f (.ref 0 :: us) [.lst ws] with
      | .ok w A1 => (match (List.head? A1 : Option O) with
        | some (.lst ws2) => if nrs ws2 && w.nr then .ok w (A.set n (.lst ws2)) else .bad
        | _ => .bad)
      | _ => .bad) else .bad
    | _ => .bad)
  | _ => .bad
section
variable {K : PySem.W.Frag} {φ φ' φ1 : List Addr} {H H' H1 : Hp} {A A1 : Hx}
mutual
private theorem RV.nrm (tp : ∀ a vs, SqT K H a vs → SqT K H' a vs) (fz : ∀ a o u, H a = some (.frz o u) → H' a = some (.frz o u)) : ∀ {w : W} {v : V}, w.nr = true → RV K φ H w v → RV K φ' H' w v
  | .non, _, _, h => h
  | .bl _, _, _, h => h
  | .int _, _, _, h => h
  | .str _, _, _, h => h
  | .tup ws, _, n, ⟨a, vs, e, t, r⟩ => ⟨a, vs, e, tp _ _ t, RVs.nrm tp fz n r⟩
  | .ref _, _, n, _ => nomatch n
  | .clo _ ws P, _, n, ⟨a, ob, u, c, oc, uc, vs, e, h1, h2, h3, r⟩ => ⟨a, ob, u, c, oc, uc, vs, e, fz _ _ _ h1, fz _ _ _ h2, h3, RVs.nrm tp fz n r⟩
  | .xc _, _, _, ⟨a, oe, u, C, e, h1, h2⟩ => ⟨a, oe, u, C, e, fz _ _ _ h1, h2⟩
private theorem RVs.nrm (tp : ∀ a vs, SqT K H a vs → SqT K H' a vs) (fz : ∀ a o u, H a = some (.frz o u) → H' a = some (.frz o u)) : ∀ {ws : List W} {vs : List V}, nrs ws = true → RVs K φ H ws vs → RVs K φ' H' ws vs
  | [], _, _, h => h
  | w :: ws, _, n, ⟨v, r, e, h, t⟩ => by
    have n' : (w.nr && nrs ws) = true := n
    rw [Bool.and_eq_true] at n'
    exact ⟨v, r, e, RV.nrm tp fz n'.1 h, RVs.nrm tp fz n'.2 t⟩
end
private theorem Sim.none : Sim K [] [] H := ⟨rfl, fun i j a o o' _ _ h => by simp at h, fun n o h => by simp at h⟩
private theorem Sim.frame (S : Sim K φ A H) (k : ∀ a o, H a = some o → H1 a = some o) (l : Le K φ H φ H1) : Sim K φ A H1 :=
  ⟨S.len, S.inj, fun n o e => let ⟨a, h1, q⟩ := S.ob n o e; ⟨a, h1, q.keep l fun u hu => k a u hu⟩⟩
private theorem Le.apart (l : Le K [] H φ1 H1) : Le K φ H φ H1 ∧ ∀ a o, H a = some o → H1 a = some o :=
  have k : ∀ a o, H a = some o → H1 a = some o := fun a o h => l.fr a o h fun n e => by simp at e
  ⟨⟨fun _ _ h => h, l.tp, fun a o h _ => k a o h, fun _ _ h => .inl h, l.st, l.fz⟩, k⟩
private theorem Sim.trackN {D : Addr} {u : HO} {o : O} (S : Sim K φ A H) (hD : H D = some u) (n : ∀ (k : Nat) (q : O), φ[k]? = some D → A[k]? = some q → q.mut = false) (new : OR K (φ ++ [D]) H D o) : Sim K (φ ++ [D]) (A ++ [o]) H := by
  have l : LeW K φ H (φ ++ [D]) H := ⟨fun n a h => by
    have := (List.getElem?_eq_some_iff.mp h).1
    (first | exact ((List.getElem?_append_left this).trans (h)) | (rw [List.getElem?_append_left this]; exact h)), fun _ _ h => h, fun _ _ _ h => h⟩
  have old : ∀ (i : Nat) a, (φ ++ [D])[i]? = some a → i < A.length → φ[i]? = some a := fun i a e hi => by
    rw [List.getElem?_append_left (by (first | exact ((S.len).trans (hi)) | (rw [S.len]; exact hi)))] at e; exact e
  have last : ∀ a, (φ ++ [D])[A.length]? = some a → a = D := fun a e => by
    rw [List.getElem?_append_right (by (first | exact ((S.len).trans (Nat.le_refl _)) | (rw [S.len]; exact Nat.le_refl _))), S.len] at e
    simpa using e.symm
  refine ⟨by simp [S.len], fun i j a o1 o2 h1 h2 h3 h4 m1 m2 => ?_, fun k o' e => ?_⟩
  · by_cases hi : i < A.length
    · rw [List.getElem?_append_left hi] at h3
      by_cases hj : j < A.length
      · rw [List.getElem?_append_left hj] at h4
        exact S.inj i j a o1 o2 (old i a h1 hi) (old j a h2 hj) h3 h4 m1 m2
      · exfalso
        have hj' : j = A.length := by have := (List.getElem?_eq_some_iff.mp h4).1; simp at this; omega
        subst hj'
        have z := n i o1 (by rw [← last a h2]; exact old i a h1 hi) h3
        (first | exact PyNso (m1) z | exact PyNso z (m1) | cases PySos (m1) z | (rw [m1] at z; cases z))
    · have hi' : i = A.length := by have := (List.getElem?_eq_some_iff.mp h3).1; simp at this; omega
      by_cases hj : j < A.length
      · exfalso
        rw [List.getElem?_append_left hj] at h4
        subst hi'
        have z := n j o2 (by rw [← last a h1]; exact old j a h2 hj) h4
        (first | exact PyNso (m2) z | exact PyNso z (m2) | cases PySos (m2) z | (rw [m2] at z; cases z))
      · have := (List.getElem?_eq_some_iff.mp h4).1; simp at this; omega
  · by_cases hn : k < A.length
    · rw [List.getElem?_append_left hn] at e
      obtain ⟨a, e1, q⟩ := S.ob k o' e
      refine ⟨a, l.ex _ _ e1, ?_⟩
      cases o' with
      | lst ws => obtain ⟨vs, z, r⟩ := q; exact ⟨vs, z, r.monoW l⟩
      | dct ws => obtain ⟨vs, z, z2, r⟩ := q; exact ⟨vs, z, z2, r.monoW l⟩
      | tab _ _ => exact q
      | ro ws => obtain ⟨vs, z, r⟩ := q; exact ⟨vs, z, r.monoW l⟩
    · have hn' : k = A.length := by have := (List.getElem?_eq_some_iff.mp e).1; simp at this; omega
      subst hn'
      rw [List.getElem?_append_right (Nat.le_refl _)] at e
      simp at e
      subst e
      exact ⟨D, by rw [List.getElem?_append_right (by (first | exact ((S.len).trans (Nat.le_refl _)) | (rw [S.len]; exact Nat.le_refl _))), S.len]; simp, new⟩
private theorem Sim.adopt {n : Nat} {a : Addr} {o : O} (S : Sim K φ A H) (l : Le K [] H φ1 H1) (h1 : φ1[n]? = some a) (m : ∃ u, H1 a = some u) (new : OR K (φ ++ [a]) H1 a o) :
    Le K φ H (φ ++ [a]) H1 ∧ Sim K (φ ++ [a]) (A ++ [o]) H1 ∧ RV K (φ ++ [a]) H1 (.ref A.length) (.ref a) := by
  obtain ⟨la, k⟩ := l.apart (φ := φ)
  have h0 : H a = Option.none := by
    rcases l.nw n a h1 with e | e
    · simp at e
    · exact e
  obtain ⟨u, hu⟩ := m
  have S1 := S.frame k la
  refine ⟨la.track h0, S1.trackN hu (fun k q e1 e2 => ?_) new, a, rfl, by rw [← S.len]; simp⟩
  cases hq : q.mut with
  | false => rfl
  | true =>
    obtain ⟨a', e3, r⟩ := S.ob k q e2
    (first | exact PyNso (e1) e3 | exact PyNso e3 (e1) | cases PySos (e1) e3 | (rw [e1] at e3; cases e3))
    obtain ⟨z, hz, _⟩ := r.there hq
    (first | exact PyNso (h0) hz | exact PyNso hz (h0) | cases PySos (h0) hz | (rw [h0] at hz; cases hz))
private theorem OR.nrL {a : Addr} {ws : List W} (h : OR K φ H a (.lst ws)) (n : nrs ws = true) : OR K φ' H a (.lst ws) := let ⟨vs, e, r⟩ := h; ⟨vs, e, r.nrm (fun _ _ t => t) (fun _ _ _ t => t) n⟩
private theorem OR.nrD {a : Addr} {kvs : List (Key × W)} (h : OR K φ H a (.dct kvs)) (n : nrs (kvs.map (·.2)) = true) : OR K φ' H a (.dct kvs) := let ⟨vs, e, e2, r⟩ := h; ⟨vs, e, e2, r.nrm (fun _ _ t => t) (fun _ _ _ t => t) n⟩
variable {P : Program} {w : World} {mg : Str → Option Value} {base : Heap}
private theorem FnM.iso {k n : Nat} {x : Str} {f : Fn} (F : FnM P w K mg base k x n f) : FnM P w K mg base k x n (iso f) := by
  obtain ⟨fa, fd, ps, F, a, b, c⟩ := F
  refine ⟨fa, fd, ps, F.imp fun vs H Q E ⟨hl, φ, A, ws, S, r, q⟩ => ?_, a, b, c⟩
  unfold Mi.iso at q
  by_cases hn : nrs ws = true
  · rw [if_pos hn] at q
    refine ⟨hl, [], [], ws, Sim.none, r.nrm (fun _ _ t => t) (fun _ _ _ t => t) hn, ?_⟩
    revert q; cases hf : f ws [] with
    | ok w A1 =>
      intro q
      dsimp only at q
      intro φ1 H1 v l1 S1 q1
      cases w with
      | ref m =>
        dsimp only at q
        revert q; cases hm : A1[m]? with
        | none => intro q; exact q.elim
        | some o =>
          intro q
          obtain ⟨a', ea, hr⟩ := S1.ob m o hm
          obtain ⟨a2, rfl, ea2⟩ := q1
          (first | exact PyNso (ea) ea2 | exact PyNso ea2 (ea) | cases PySos (ea) ea2 | (rw [ea] at ea2; cases ea2))
          cases o with
          | lst us =>
            dsimp only at q
            by_cases hu : nrs us = true
            · rw [if_pos hu] at q
              obtain ⟨t, ht, _⟩ := hr.there rfl
              obtain ⟨b1, b2, b3⟩ := S.adopt l1 ea ⟨t, ht⟩ (o := .lst us) (hr.nrL hu)
              exact q _ _ _ b1 b2 b3
            · rw [if_neg hu] at q; exact q.elim
          | dct us =>
            dsimp only at q
            by_cases hu : nrs (us.map (·.2)) = true
            · rw [if_pos hu] at q
              obtain ⟨t, ht, _⟩ := hr.there rfl
              obtain ⟨b1, b2, b3⟩ := S.adopt l1 ea ⟨t, ht⟩ (o := .dct us) (hr.nrD hu)
              exact q _ _ _ b1 b2 b3
            · rw [if_neg hu] at q; exact q.elim
          | ro us => exact q.elim
          | tab _ _ => exact q.elim
      | _ =>
        all_goals
          dsimp only at q
          obtain ⟨la, kk⟩ := l1.apart (φ := φ)
          first
            | exact q φ H1 v la (S.frame kk la) q1
            | (split at q
               · rename_i hw
                 exact q φ H1 v la (S.frame kk la) (RV.nrm (fun _ _ t => t) (fun _ _ _ t => t) hw q1)
               · exact q.elim)
    | exc y A1 => intro q; exact q.elim
    | bad => intro q; exact q.elim
  · rw [if_neg hn] at q; exact q.elim
private theorem FnM.isoL {k n : Nat} {x : Str} {f : Fn} (F : FnM P w K mg base k x n f) : FnM P w K mg base k x n (isoL f) := by
  obtain ⟨fa, fd, ps, F, a, b, c⟩ := F
  refine ⟨fa, fd, ps, F.imp fun vs H Q E ⟨hl, φ, A, ws, S, r, q⟩ => ?_, a, b, c⟩
  unfold Mi.isoL at q
  cases ws with
  | nil => exact q.elim
  | cons w0 us => cases w0 with
    | ref n =>
      dsimp only at q
      cases hA : A[n]? with
      | none => rw [hA] at q; exact q.elim
      | some o => cases o with
        | lst xs =>
          rw [hA] at q
          dsimp only at q
          by_cases hn : (nrs xs && nrs us) = true
          · rw [if_pos hn] at q
            rw [Bool.and_eq_true] at hn
            obtain ⟨v0, vr, rfl, q0, qr⟩ := r
            obtain ⟨p, ys, rfl, f1, g1, r1⟩ := S.lst q0 hA
            have S0 : Sim K [p] [.lst xs] H := by
              refine ⟨rfl, fun i j a o o' h1 h2 h3 h4 _ _ => ?_, fun m o e => ?_⟩
              · have := (List.getElem?_eq_some_iff.mp h1).1
                have := (List.getElem?_eq_some_iff.mp h2).1
                simp at *
                omega
              · have : m = 0 := by have := (List.getElem?_eq_some_iff.mp e).1; simp at this; omega
                subst this
                simp at e
                subst e
                exact ⟨p, rfl, ys, g1, r1.nrm (fun _ _ t => t) (fun _ _ _ t => t) hn.1⟩
            refine ⟨hl, [p], [.lst xs], .ref 0 :: us, S0, .cons ⟨p, rfl, rfl⟩ (qr.nrm (fun _ _ t => t) (fun _ _ _ t => t) hn.2), ?_⟩
            revert q; cases hf : f (.ref 0 :: us) [.lst xs] with
            | ok w A1 =>
              intro q
              dsimp only at q
              intro φ1 H1 v l1 S1 q1
              cases h0 : List.head? A1 with
              | none => rw [h0] at q; exact q.elim
              | some o => cases o with
                | lst zs =>
                  rw [h0] at q
                  dsimp only at q
                  by_cases hw : (nrs zs && w.nr) = true
                  · rw [if_pos hw] at q
                    rw [Bool.and_eq_true] at hw
                    have apart : ∀ a o, a ≠ p → H a = some o → H1 a = some o := fun a o ne h => l1.fr a o h fun m e => by
                      have : m = 0 := by have := (List.getElem?_eq_some_iff.mp e).1; simp at this; omega
                      subst this
                      simp at e
                      exact ne e.symm
                    have lf : Le K φ H φ H1 := ⟨fun _ _ h => h, l1.tp, fun a o h nn => apart a o (fun e => nn n (by (first | exact ((e).trans (f1)) | (rw [e]; exact f1)))) h, fun _ _ h => .inl h, l1.st, l1.fz⟩
                    have hp : φ1[0]? = some p := l1.ex 0 p rfl
                    obtain ⟨p', e1, us', e2, r2⟩ := S1.ob 0 _ (by rw [← List.head?_eq_getElem?]; exact h0)
                    (first | exact PyNso (hp) e1 | exact PyNso e1 (hp) | cases PySos (hp) e1 | (rw [hp] at e1; cases e1))
                    refine q φ H1 v lf ?_ (RV.nrm (fun _ _ t => t) (fun _ _ _ t => t) hw.2 q1)
                    have mt : ∀ (i : Nat) (w : O), (A.set n (.lst zs))[i]? = some w → w.mut = true → ∃ w', A[i]? = some w' ∧ w'.mut = true := fun i w e mw => by
                      by_cases hi : i = n
                      · subst hi; exact ⟨_, hA, rfl⟩
                      · rw [List.getElem?_set_ne (Ne.symm hi)] at e; exact ⟨w, e, mw⟩
                    refine ⟨by simp [S.len], fun i j a o1 o2 h1 h2 h3 h4 m1 m2 => ?_, fun i w e => ?_⟩
                    · obtain ⟨w1, e1, k1⟩ := mt i o1 h3 m1
                      obtain ⟨w2, e2, k2⟩ := mt j o2 h4 m2
                      exact S.inj i j a w1 w2 h1 h2 e1 e2 k1 k2
                    · by_cases hi : i = n
                      · subst hi
                        have : i < A.length := (List.getElem?_eq_some_iff.mp hA).1
                        (first | exact PyNso (List.getElem?_set_self this) e | exact PyNso e (List.getElem?_set_self this) | cases PySos (List.getElem?_set_self this) e | (rw [List.getElem?_set_self this] at e; cases e))
                        exact ⟨p, f1, us', e2, r2.nrm (fun _ _ t => t) (fun _ _ _ t => t) hw.1⟩
                      · rw [List.getElem?_set_ne (Ne.symm hi)] at e
                        obtain ⟨a, e1, rr⟩ := S.ob i w e
                        refine ⟨a, e1, ?_⟩
                        by_cases hm : w.mut = true
                        · have ne : a ≠ p := fun z => hi (S.inj i n a w _ e1 (by (first | exact ((z).trans (f1)) | (rw [z]; exact f1))) e hA hm rfl)
                          exact rr.keep lf fun z hz => apart a z ne hz
                        · cases w with
                          | lst _ => exact absurd rfl hm
                          | dct _ => exact absurd rfl hm
                          | tab _ _ => exact absurd rfl hm
                          | ro ws =>
                            obtain ⟨vs, r1, r2⟩ := rr
                            refine ⟨vs, ?_, r2.mono lf⟩
                            rcases r1 with ⟨ob, r1⟩ | r1
                            · refine .inl ⟨ob, apart a _ ?_ r1⟩
                              intro z; subst z; (first | exact PyNso (g1) r1 | exact PyNso r1 (g1) | cases PySos (g1) r1 | (rw [g1] at r1; cases r1))
                            · exact .inr r1
                  · rw [if_neg hw] at q; exact q.elim
                | _ => rw [h0] at q; exact q.elim
            | exc y A1 => intro q; exact q.elim
            | bad => intro q; exact q.elim
          · rw [if_neg hn] at q; exact q.elim
        | _ => rw [hA] at q; exact q.elim
    | _ => exact q.elim
end
end Mi
namespace Mi
open PySem PySem.Spec PyProof.Rows L2
section
variable {X : Cx} {xr : XR} {K : PySem.W.Frag} {e a b c : Expr} {es : List Expr} {m ma mb mc : Ev} {pos : Pos} {st : Stmt}
noncomputable def xBad : Ex := fun _ _ => .bad
private theorem ss_bad : SS X xr st xBad := fun pins s σ H D I ⟨φ, A, ρ, S, re, h⟩ => h.elim
noncomputable def intsOf : List W → Option (List Int)
  | [] => some []
  | w :: ws => match w with
    | .int i => match intsOf ws with
      | some is => some (i :: is)
      | none => none
    | _ => none
private theorem intsOf_eq : ∀ {ws : List W} {ns : List Int}, intsOf ws = some ns → ws = ns.map W.int
  | [], _, e => by cases e; rfl
  | w :: ws, ns, e => by
    unfold intsOf at e
    cases w with
    | int i =>
      dsimp only at e
      revert e; cases e2 : intsOf ws with
      | none => intro e; cases e
      | some is => intro e; cases e; rw [intsOf_eq e2]; rfl
    | _ => cases e
noncomputable def maxI : List Int → Int → Int
  | [], m => m
  | i :: is, m => maxI is (if i > m then i else m)
noncomputable def sumI : List Int → Int → Int
  | [], m => m
  | i :: is, m => sumI is (m + i)
private theorem preSum_eq (ns : List Int) : ∀ k, preSum (fun i => ns.getD i 0) k + sumI (ns.drop k) 0 = sumI ns 0 ∨ ns.length < k := by
  have add : ∀ (l : List Int) (m : Int), sumI l m = m + sumI l 0 := fun l => by
    induction l with
    | nil => intro m; show m = m + 0; omega
    | cons i is ih => intro m; show sumI is (m + i) = m + sumI is (0 + i); rw [ih (m + i), ih (0 + i)]; omega
  intro k
  induction k with
  | zero => left; show (0 : Int) + sumI ns 0 = _; omega
  | succ k ih =>
    rcases ih with ih | ih
    · by_cases hk : k < ns.length
      · left
        have e : ns.drop k = ns[k] :: ns.drop (k + 1) := List.drop_eq_getElem_cons hk
        rw [e] at ih
        have e2 : sumI (ns[k] :: ns.drop (k + 1)) 0 = ns[k] + sumI (ns.drop (k + 1)) 0 := by show sumI (ns.drop (k + 1)) (0 + ns[k]) = _; rw [add]; omega
        rw [e2] at ih
        show preSum _ k + ns.getD k 0 + _ = _
        have e3 : ns.getD k 0 = ns[k] := by rw [List.getD_eq_getElem?_getD, List.getElem?_eq_getElem hk]; rfl
        rw [e3]; omega
      · right; omega
    · right; omega
private theorem preSum_all (ns : List Int) : preSum (fun i => ns.getD i 0) ns.length = sumI ns 0 := by
  rcases preSum_eq ns ns.length with h | h
  · rw [List.drop_length] at h
    have : sumI [] 0 = 0 := rfl
    omega
  · omega
noncomputable def rInts (K : PySem.W.Frag) (C : List Int → Prop) (f : List Int → Int) : List V → Hp → VK → Prop := fun xs H Q => ∃ a ns, xs = [.ref a] ∧ (SqL K H a (ns.map V.int) ∨ SqT K H a (ns.map V.int)) ∧ C ns ∧ Q (.int (f ns)) H
private theorem ints_at {ns : List Int} {its : List Value} (rv : Vals (ns.map V.int) its) {i : Nat} {v : Value} (h : its[i]? = some v) : ∃ t, v = .int (ns.getD i 0) t := by
  have hi : i < its.length := (List.getElem?_eq_some_iff.mp h).1
  have hi' : i < ns.length := by have := rv.length; rw [List.length_map] at this; omega
  obtain ⟨u, h1, h2⟩ := rv.get (i := i) (x := V.int ns[i]) (by simp [hi'])
  (first | exact PyNso (h) h1 | exact PyNso h1 (h) | cases PySos (h) h1 | (rw [h] at h1; cases h1))
  obtain ⟨t, rfl⟩ := h2
  exact ⟨t, by rw [List.getD_eq_getElem?_getD, List.getElem?_eq_getElem hi']; rfl⟩
private theorem call_sum1 (hc : X.calm = true) : CallR X (.builtin "sum") (rInts X.K (fun _ => True) fun ns => sumI ns 0) := by
  intro pins s σ H xs us Q I r h
  obtain ⟨a, ns, rfl, z, _, q⟩ := h
  obtain ⟨u, rfl, ru⟩ := vals1 r
  cases ru
  refine call_sum_walkG (seq_walk I hc z fun its I' fp wr St' s2 rv hz W st hfp back => ?_)
  refine ⟨I', fp, wr, _, _, St', fun i => ns.getD i 0, rfl, W, st, hfp, fun i v h => ints_at rv h, fun h' tk t' k => ?_⟩
  have e : its.length = ns.length := by have := rv.length; rw [List.length_map] at this; omega
  rw [e, preSum_all]
  exact ⟨.int _, H, back h' tk k, ⟨_, rfl⟩, q⟩
noncomputable def gSum : List W → Hx → R W := fun ws A => match intsOf ws with
  | some is => .ok (.int (sumI is 0)) A
  | none => .bad
private theorem ne_Sum : ∀ ws A, NoExc (gSum ws A) := fun ws A => by
  unfold gSum; split
  · exact ne_ok
  · exact ne_bad
private theorem ints_read {φ : List Addr} {H : Hp} {ws : List W} {ys : List V} {ns : List Int} {a : Addr} (z : SqL K H a ys ∨ SqT K H a ys) (r : RVs K φ H ws ys) (e : intsOf ws = some ns) : SqL K H a (ns.map V.int) ∨ SqT K H a (ns.map V.int) := by
  rw [intsOf_eq e] at r
  rw [← RVs.ints.mp r]; exact z
private theorem opQ_sum : OpQ K (rInts K (fun _ => True) fun ns => sumI ns 0) gSum := fun φ A H a ys ws Q S z r p => by
  unfold gSum at p
  revert p; cases e : intsOf ws with
  | none => intro p; exact p.elim
  | some ns => intro p; exact ⟨a, ns, rfl, ints_read z r e, trivial, p φ H _ .refl S rfl⟩
private theorem se_sum {p : Pos} {q : Eq'} (hc : X.calm = true) (hm : X.mg "sum" = none) (ha : SQ X xr e q) (hg : autoParam (Gl X "sum") PyProof.Rows.call_M_of_MD._auto_3) (he : autoParam (starEach [e] X.env = (false, eval e X.env) :: starEach [] X.env) PyProof.Rows.call_M_of_MD._auto_3) :
    SE X xr (.Call (.Name "sum" p) [e] [] pos) (mQ gSum q) := se_qB (call_sum1 hc) ne_Sum opQ_sum hm (by rfl) ha hg (by decide) (by decide) he (by rfl)
end
end Mi
namespace Mi
open PySem PySem.Spec PyProof.Rows L2
section
variable {X : Cx} {xr : XR} {K : PySem.W.Frag} {e a b c : Expr} {es : List Expr} {m ma mb mc : Ev} {pos : Pos} {st : Stmt}
end
end Mi
namespace Mi
open PySem PySem.Spec PyProof.Rows L2
section
variable {prog : Program} {w : World} {A : Around} {E : Value → Shared → Prop} {s : Shared} {k : Bool} {it a : Addr} {i : Nat} {items : Array Value}
end
section
variable {X : Cx} {pins : List (Addr × Obj)} {σ : St} {H : Hp} {s : Shared} {h' : Heap} {t' : Nat} {fp : List Addr}
end
end Mi
namespace Mi
open PySem PySem.Spec PyProof.Rows L2
open AutoSeq1 (wpAny_loadPart')
section
variable {prog : Program} {w : World} {A : Around} {E : Value → Shared → Prop} {s : Shared}
end
section
variable {X : Cx} {xr : XR} {e a b : Expr} {m ma mb : Ev} {pos : Pos}
end
end Mi
namespace Mi
open PySem PySem.Spec PyProof.Rows L2
section
variable {prog : Program} {w : World} {A : Around} {E : Value → Shared → Prop} {s : Shared} {z TI TO i1 i2 l1 l2 : Addr} {n1 n2 : Nat} {c1 c2 : Bool} {xs ys : Array Value} {x y a b : Value}
end
section
variable {prog : Program} {w : World} {A : Around} {E : Value → Shared → Prop} {s : Shared} {c1 c2 : Bool} {l1 l2 : Addr} {xs ys : Array Value}
end
end Mi
namespace Mi
open PySem PySem.Spec PyProof.Rows L2
section
variable {X : Cx} {xr : XR} {e a b : Expr} {m ma mb : Ev} {pos : Pos}
end
end Mi
namespace Mi
open PySem PySem.Spec PyProof.Rows L2
section
variable {X : Cx} {xr : XR} {K : PySem.W.Frag} {e a b c : Expr} {m ma mb mc : Ev} {pos : Pos}
end
end Mi
namespace Mi
open PySem PySem.Spec PyProof.Rows L2
section
variable {X : Cx} {pins : List (Addr × Obj)} {σ : St} {H : Hp} {s : Shared}
end
section
variable {X : Cx} {xr : XR} {e a b : Expr} {m ma mb : Ev} {pos : Pos}
end
end Mi
namespace Mi
open PySem PySem.Spec PyProof.Rows L2
mutual
noncomputable def W.beq : W → W → Bool
  | .non, .non => true
  | .bl a, .bl b => a == b
  | .int a, .int b => decide (a = b)
  | .str a, .str b => decide (a = b)
  | .tup a, .tup b => beqs a b
  | _, _ => false
noncomputable def beqs : List W → List W → Bool
  | [], [] => true
  | a :: as, b :: bs => a.beq b && beqs as bs
  | _, _ => false
end
mutual
private theorem W.eq_of : ∀ {a b : W}, a.beq b = true → a = b
  | .non, .non, _ => rfl
  | .bl a, .bl b, h => by have h' : (a == b) = true := h; rw [beq_iff_eq] at h'; rw [h']
  | .int a, .int b, h => by have h' : decide (a = b) = true := h; rw [decide_eq_true_iff] at h'; rw [h']
  | .str a, .str b, h => by have h' : decide (a = b) = true := h; rw [decide_eq_true_iff] at h'; rw [h']
  | .tup a, .tup b, h => by have h' : beqs a b = true := h; rw [eqs_of h']
  | .non, .bl _, h => nomatch h | .non, .int _, h => nomatch h | .non, .str _, h => nomatch h | .non, .tup _, h => nomatch h | .non, .ref _, h => nomatch h
  | .bl _, .non, h => nomatch h | .bl _, .int _, h => nomatch h | .bl _, .str _, h => nomatch h | .bl _, .tup _, h => nomatch h | .bl _, .ref _, h => nomatch h
  | .int _, .non, h => nomatch h | .int _, .bl _, h => nomatch h | .int _, .str _, h => nomatch h | .int _, .tup _, h => nomatch h | .int _, .ref _, h => nomatch h
  | .str _, .non, h => nomatch h | .str _, .bl _, h => nomatch h | .str _, .int _, h => nomatch h | .str _, .tup _, h => nomatch h | .str _, .ref _, h => nomatch h
  | .tup _, .non, h => nomatch h | .tup _, .bl _, h => nomatch h | .tup _, .int _, h => nomatch h | .tup _, .str _, h => nomatch h | .tup _, .ref _, h => nomatch h
  | .ref _, .non, h => nomatch h | .ref _, .bl _, h => nomatch h | .ref _, .int _, h => nomatch h | .ref _, .str _, h => nomatch h | .ref _, .tup _, h => nomatch h | .ref _, .ref _, h => nomatch h
private theorem eqs_of : ∀ {a b : List W}, beqs a b = true → a = b
  | [], [], _ => rfl
  | a :: as, b :: bs, h => by
    have h' : (a.beq b && beqs as bs) = true := h
    rw [Bool.and_eq_true] at h'
    rw [W.eq_of h'.1, eqs_of h'.2]
  | [], _ :: _, h => nomatch h
  | _ :: _, [], h => nomatch h
end
section
variable {P : Program} {w : World} {K : PySem.W.Frag} {mg : Str → Option Value} {base : Heap}
noncomputable def FD (K : PySem.W.Frag) (x : Str) (st : Stmt) : Prop := ∃ f fd, Fun K x x st f fd ∧ PySem.W.nsIn K mainGlobals x = some (some (.ref f))
private theorem fd_mk {x : Str} {st : Stmt} {f : Addr} {oc : Value} {od an : Option Addr} {osl : Array (Option Value)} {kV doc pm cdv ct : Value} (a : PySem.W.nsIn K mainGlobals x = some (some (.ref f)))
    (l : K.lookup f = some ⟨oc, od, .func (PySem.W.fnOf x x (defArgs st) (defBody st) (defScope st) .none kV doc pm an cdv ct), osl⟩) (c : PySem.W.codeIn K cdv x = true) (k : PySem.W.keepIn K (.ref f) = true) : FD K x st := ⟨f, _, fun_mk l c k, a⟩
noncomputable def CD (K : PySem.W.Frag) (x : Str) (i : Int) : Prop := ∃ t, PySem.W.nsIn K mainGlobals x = some (some (.int i t))
private theorem cd_mk {x : Str} {i : Int} {t : Tok} (a : PySem.W.nsIn K mainGlobals x = some (some (.int i t))) : CD K x i := ⟨t, a⟩
private theorem len1 {us : List Value} (h : us.length = 1) : ∃ a, us = [a] := List.length_eq_one_iff.mp h
private theorem len2 {us : List Value} (h : us.length = 2) : ∃ a b, us = [a, b] := by
  obtain ⟨a, t, rfl⟩ := List.exists_cons_of_length_eq_add_one h
  exact (len1 (Nat.succ.inj h)).elim fun b e => ⟨a, b, by rw [e]⟩
private theorem len3 {us : List Value} (h : us.length = 3) : ∃ a b c, us = [a, b, c] := by
  obtain ⟨a, t, rfl⟩ := List.exists_cons_of_length_eq_add_one h
  obtain ⟨b, c, rfl⟩ := len2 (Nat.succ.inj h)
  exact ⟨a, b, c, rfl⟩
private theorem len4 {us : List Value} (h : us.length = 4) : ∃ a b c d, us = [a, b, c, d] := by
  obtain ⟨a, t, rfl⟩ := List.exists_cons_of_length_eq_add_one h
  obtain ⟨b, c, d, rfl⟩ := len3 (Nat.succ.inj h)
  exact ⟨a, b, c, d, rfl⟩
end
end Mi
namespace Y
noncomputable def visB (sc : PySem.Scope) (x : PySem.Str) : Bool := sc.names.lookup x == some .local || (sc.names.lookup x == some .cell || sc.names.lookup x == some .free)
private theorem vis_of {sc : PySem.Scope} {x : PySem.Str} (h : visB sc x = true) : L2.Vis sc x := by
  unfold visB at h; unfold L2.Vis; simpa only [Bool.or_eq_true, beq_iff_eq] using h
noncomputable def locB (sc : PySem.Scope) (x : PySem.Str) : Bool := sc.names.lookup x == some .local || sc.names.lookup x == some .cell
private theorem loc_of {sc : PySem.Scope} {x : PySem.Str} (h : locB sc x = true) : L2.Loc sc x := by
  unfold locB at h; unfold L2.Loc; simpa only [Bool.or_eq_true, beq_iff_eq] using h
noncomputable def fnB (X : L2.Cx) (x : PySem.Str) : Bool := X.fn x || X.env.scope.names.lookup x == some .local
private theorem fn_of {X : L2.Cx} {x : PySem.Str} (h : fnB X x = true) : X.fn x = true ∨ X.env.scope.names.lookup x = some .local := by
  unfold fnB at h; simpa only [Bool.or_eq_true, beq_iff_eq] using h
private theorem async_of {gs : List PySem.Comprehension} (h : (gs[0]?.all fun g' => g'.is_async == 0) = true) : ∀ g', gs[0]? = some g' → g'.is_async = 0 := fun g' e => by
  rw [e] at h; exact beq_iff_eq.mp h
open PySem PySem.Spec PyProof.Rows L2 Mi
@[irreducible] noncomputable def YE (X : Cx) (xr : XR) (e : Expr) (m : Ev) : Prop := Mi.SE X xr e m
private theorem YE_eq : @YE = @Mi.SE := by
  funext X xr e m
  unfold YE
  rfl
@[irreducible] noncomputable def YA (X : Cx) (xr : XR) (es : List Expr) (m : Ea) : Prop := Mi.SA X xr es m
private theorem YA_eq : @YA = @Mi.SA := by
  funext X xr es m
  unfold YA
  rfl
@[irreducible] noncomputable def YT (X : Cx) (xr : XR) (e : Expr) (m : Ev) : Prop := Mi.ST X xr e m
private theorem YT_eq : @YT = @Mi.ST := by
  funext X xr e m
  unfold YT
  rfl
@[irreducible] noncomputable def YW (X : Cx) (xr : XR) (e : Expr) (m : Ev) : Prop := Mi.SW X xr e m
private theorem YW_eq : @YW = @Mi.SW := by
  funext X xr e m
  unfold YW
  rfl
@[irreducible] noncomputable def YS (X : Cx) (xr : XR) (st : Stmt) (m : Ex) : Prop := Mi.SS X xr st m
private theorem YS_eq : @YS = @Mi.SS := by
  funext X xr st m
  unfold YS
  rfl
@[irreducible] noncomputable def YSs (X : Cx) (xr : XR) (st : List Stmt) (m : Ex) : Prop := Mi.SSs X xr st m
private theorem YSs_eq : @YSs = @Mi.SSs := by
  funext X xr st m
  unfold YSs
  rfl
@[irreducible] noncomputable def YI (X : Cx) (xr : XR) (tg e : Expr) (m : Ei) : Prop := Mi.SI X xr tg e m
private theorem YI_eq : @YI = @Mi.SI := by
  funext X xr tg e m
  unfold YI
  rfl
@[irreducible] noncomputable def YG (X : Cx) (tg : Expr) (m : Tg) : Prop := Mi.SG X tg m
private theorem YG_eq : @YG = @Mi.SG := by
  funext X tg m
  unfold YG
  rfl
@[irreducible] noncomputable def YF (X : Cx) (xr : XR) (e : Expr) (m : Eq') : Prop := Mi.SF X xr e m
private theorem YF_eq : @YF = @Mi.SF := by
  funext X xr e m
  unfold YF
  rfl
@[irreducible] noncomputable def YQ (X : Cx) (xr : XR) (e : Expr) (m : Eq') : Prop := Mi.SQ X xr e m
private theorem YQ_eq : @YQ = @Mi.SQ := by
  funext X xr e m
  unfold YQ
  rfl
@[irreducible] noncomputable def YTs (X : Cx) (es : List Expr) (m : Ev) : Prop := Mi.STs X es m
private theorem YTs_eq : @YTs = @Mi.STs := by
  funext X es m
  unfold YTs
  rfl
@[irreducible] noncomputable def YM (X : Cx) (elt : Expr) (gens : List Comprehension) (sc : Scope) (cpos : Pos) (d : Nat) (em : Em) : Prop := Mi.SM X elt gens sc cpos d em
private theorem YM_eq : @YM = @Mi.SM := by
  funext X elt gens sc cpos d em
  unfold YM
  rfl
section
variable {X : Cx} {xr : XR} {K : PySem.W.Frag} {e a b c : Expr} {es : List Expr} {m ma mb mc : Ev} {m1 m2 : Ex} {pos : Pos} {st : Stmt} {rest : List Stmt}
private theorem sa_cons {mr : Ea} (ha : YE X xr e ma) (hr : YA X xr es mr) (hs : autoParam (starEach (e :: es) X.env = (false, eval e X.env) :: starEach es X.env) PyProof.Rows.call_M_of_MD._auto_3) : YA X xr (e :: es) (aCons ma mr) := by
  (try simp only [YE_eq, YA_eq, YT_eq, YW_eq, YS_eq, YSs_eq, YI_eq, YG_eq, YF_eq, YQ_eq, YTs_eq, YM_eq] at *)
  exact Mi.sa_cons ha hr hs
private theorem sa_nil : YA X xr [] aNil := by
  (try simp only [YE_eq, YA_eq, YT_eq, YW_eq, YS_eq, YSs_eq, YI_eq, YG_eq, YF_eq, YQ_eq, YTs_eq, YM_eq] at *)
  exact Mi.sa_nil
private theorem se_add (ha : YE X xr a ma) (hb : YE X xr b mb) : YE X xr (.BinOp a .Add b pos) (mBin gAdd ma mb) := by
  (try simp only [YE_eq, YA_eq, YT_eq, YW_eq, YS_eq, YSs_eq, YI_eq, YG_eq, YF_eq, YQ_eq, YTs_eq, YM_eq] at *)
  exact Mi.se_add ha hb
private theorem se_and {rest : List Expr} (ha : YE X xr a ma) (hb : YE X xr (.BoolOp .And (b :: rest) pos) mb) : YE X xr (.BoolOp .And (a :: b :: rest) pos) (mAnd ma mb) := by
  (try simp only [YE_eq, YA_eq, YT_eq, YW_eq, YS_eq, YSs_eq, YI_eq, YG_eq, YF_eq, YQ_eq, YTs_eq, YM_eq] at *)
  exact Mi.se_and ha hb
private theorem se_bl {i j} : YE X xr (.Constant (.bool i) j pos) (mLit (.bl i)) := by
  (try simp only [YE_eq, YA_eq, YT_eq, YW_eq, YS_eq, YSs_eq, YI_eq, YG_eq, YF_eq, YQ_eq, YTs_eq, YM_eq] at *)
  exact Mi.se_bl
private theorem se_c {op : CmpOp} {g : W → W → Hx → R W} (h : CmpOk X op g) (ha : YE X xr a ma) (hb : YE X xr b mb) (h1 : autoParam (op ≠ .In) PyProof.Rows.glB_def._auto_7) (h2 : autoParam (op ≠ .NotIn) PyProof.Rows.glB_def._auto_7) : YE X xr (.Compare a [op] [b] pos) (mBin g ma mb) := by
  (try simp only [YE_eq, YA_eq, YT_eq, YW_eq, YS_eq, YSs_eq, YI_eq, YG_eq, YF_eq, YQ_eq, YTs_eq, YM_eq] at *)
  exact Mi.se_c h ha hb h1 h2
private theorem se_c2 {op op' : CmpOp} {g g' : W → W → Hx → R W} (h : CmpOk X op g) (h' : CmpOk X op' g') (ha : YE X xr a ma) (hb : YE X xr b mb) (hc : YE X xr c mc) (hm : autoParam (lastMarks [op, op'] [b, c] = false) PyProof.Rows.slice_list._auto_1) :
    YE X xr (.Compare a [op, op'] [b, c] pos) (mChain g g' ma mb mc) := by
  (try simp only [YE_eq, YA_eq, YT_eq, YW_eq, YS_eq, YSs_eq, YI_eq, YG_eq, YF_eq, YQ_eq, YTs_eq, YM_eq] at *)
  exact Mi.se_c2 h h' ha hb hc hm
private theorem se_call {k n : Nat} {x : Str} {p : Pos} {f : Fn} {mr : Ea} (F : FnM X.prog X.w X.K X.mg X.base k x n f) (hr : Room k X.A) (ha : YA X xr0 (e :: es) mr) (hl : ALen mr n) (hg : autoParam (Gl X x) PyProof.Rows.call_M_of_MD._auto_3)
    (hdb : autoParam ((x == ("__debug__" : Str)) = false) PyProof.Rows.glB_def._auto_7) (he : autoParam (starEach (e :: es) X.env = (false, eval e X.env) :: starEach es X.env) PyProof.Rows.call_M_of_MD._auto_3) (hpl : autoParam ((backTo pos (starEach es X.env)).any (·.1) = false) PyProof.Rows.call_M_of_MD._auto_3) :
    YE X xr0 (.Call (.Name x p) (e :: es) [] pos) (mCall f mr) := by
  (try simp only [YE_eq, YA_eq, YT_eq, YW_eq, YS_eq, YSs_eq, YI_eq, YG_eq, YF_eq, YQ_eq, YTs_eq, YM_eq] at *)
  exact Mi.se_call F hr ha hl hg hdb he hpl
private theorem se_div (ha : YE X xr a ma) (hb : YE X xr b mb) : YE X xr (.BinOp a .FloorDiv b pos) (mBin gDiv ma mb) := by
  (try simp only [YE_eq, YA_eq, YT_eq, YW_eq, YS_eq, YSs_eq, YI_eq, YG_eq, YF_eq, YQ_eq, YTs_eq, YM_eq] at *)
  exact Mi.se_div ha hb
private theorem se_glob {x : Str} {i : Int} {t : Tok} (hg : Gl X x) (hm : X.mg x = some (.int i t)) (hd : autoParam ((x == ("__debug__" : Str)) = false) PyProof.Rows.glB_def._auto_7) : YE X xr (.Name x pos) (mLit (.int i)) := by
  (try simp only [YE_eq, YA_eq, YT_eq, YW_eq, YS_eq, YSs_eq, YI_eq, YG_eq, YF_eq, YQ_eq, YTs_eq, YM_eq] at *)
  exact Mi.se_glob hg hm hd
private theorem se_if {c : Expr} (hc : YT X xr c mc) (ha : YE X xr a ma) (hb : YE X xr b mb) : YE X xr (.IfExp c a b pos) (mIf mc ma mb) := by
  (try simp only [YE_eq, YA_eq, YT_eq, YW_eq, YS_eq, YSs_eq, YI_eq, YG_eq, YF_eq, YQ_eq, YTs_eq, YM_eq] at *)
  exact Mi.se_if hc ha hb
private theorem se_int {i j} : YE X xr (.Constant (.int i) j pos) (mLit (.int i)) := by
  (try simp only [YE_eq, YA_eq, YT_eq, YW_eq, YS_eq, YSs_eq, YI_eq, YG_eq, YF_eq, YQ_eq, YTs_eq, YM_eq] at *)
  exact Mi.se_int
private theorem se_is (t : Ty) {x : Str} {p p' : Pos} (hm : X.mg "isinstance" = none) (hm' : X.mg x = none) (hx : bootBuiltins x = some (.type t.nm)) (ha : YE X xr e m) (hg : autoParam (Gl X "isinstance") PyProof.Rows.call_M_of_MD._auto_3) (hg' : autoParam (Gl X x) PyProof.Rows.call_M_of_MD._auto_3)
    (hn : autoParam (x ≠ "__name__") PyProof.Rows.glB_def._auto_7) (hd : autoParam ((x == ("__debug__" : Str)) = false) PyProof.Rows.glB_def._auto_7)
    (h1 : autoParam (starEach [e, .Name x p'] X.env = (false, eval e X.env) :: starEach [.Name x p'] X.env) PyProof.Rows.call_M_of_MD._auto_3) (h2 : autoParam ((backTo pos (starEach [.Name x p'] X.env)).any (·.1) = false) PyProof.Rows.call_M_of_MD._auto_3) :
    YE X xr (.Call (.Name "isinstance" p) [e, .Name x p'] [] pos) (mIs t m) := by
  (try simp only [YE_eq, YA_eq, YT_eq, YW_eq, YS_eq, YSs_eq, YI_eq, YG_eq, YF_eq, YQ_eq, YTs_eq, YM_eq] at *)
  exact Mi.se_is t hm hm' hx ha hg hg' hn hd h1 h2
private theorem se_ix (ha : YE X xr a ma) (hb : YE X xr b mb) (hs : autoParam (PlainIx b) PySem.Subscript_Name._auto_1) : YE X xr (.Subscript a b pos) (mBin gIx ma mb) := by
  (try simp only [YE_eq, YA_eq, YT_eq, YW_eq, YS_eq, YSs_eq, YI_eq, YG_eq, YF_eq, YQ_eq, YTs_eq, YM_eq] at *)
  exact Mi.se_ix ha hb hs
private theorem se_len {p : Pos} {q : Eq'} (hm : X.mg "len" = none) (ha : YQ X xr e q) (hg : autoParam (Gl X "len") PyProof.Rows.call_M_of_MD._auto_3) (he : autoParam (starEach [e] X.env = (false, eval e X.env) :: starEach [] X.env) PyProof.Rows.call_M_of_MD._auto_3) :
    YE X xr (.Call (.Name "len" p) [e] [] pos) (mQ gLen q) := by
  (try simp only [YE_eq, YA_eq, YT_eq, YW_eq, YS_eq, YSs_eq, YI_eq, YG_eq, YF_eq, YQ_eq, YTs_eq, YM_eq] at *)
  exact Mi.se_len hm ha hg he
private theorem se_list {q : Eq'} (h : YF X xr e q) : YE X xr e (mList q) := by
  (try simp only [YE_eq, YA_eq, YT_eq, YW_eq, YS_eq, YSs_eq, YI_eq, YG_eq, YF_eq, YQ_eq, YTs_eq, YM_eq] at *)
  exact Mi.se_list h
private theorem se_lstN {mr : Ea} {n : Nat} (h : YA X xr es mr) (hl : ALen mr n) (hn : autoParam (n ≤ cpMost) PyProof.Rows.glB_def._auto_7) : YE X xr (.List es pos) (mLst mr) := by
  (try simp only [YE_eq, YA_eq, YT_eq, YW_eq, YS_eq, YSs_eq, YI_eq, YG_eq, YF_eq, YQ_eq, YTs_eq, YM_eq] at *)
  exact Mi.se_lstN h hl hn
private theorem se_min2 {p : Pos} (hc : X.calm = true) (hm : X.mg "min" = none) (ha : YE X xr a ma) (hb : YE X xr b mb) (hgl : autoParam (Gl X "min") PyProof.Rows.call_M_of_MD._auto_3) (h1 : autoParam (starEach [a, b] X.env = (false, eval a X.env) :: starEach [b] X.env) PyProof.Rows.call_M_of_MD._auto_3) (h2 : autoParam (starEach [b] X.env = (false, eval b X.env) :: starEach [] X.env) PyProof.Rows.call_M_of_MD._auto_3) (hpl : autoParam ((backTo pos (starEach [b] X.env)).any (·.1) = false) PyProof.Rows.call_M_of_MD._auto_3) :
    YE X xr (.Call (.Name "min" p) [a, b] [] pos) (mBin gMin2 ma mb) := by
  (try simp only [YE_eq, YA_eq, YT_eq, YW_eq, YS_eq, YSs_eq, YI_eq, YG_eq, YF_eq, YQ_eq, YTs_eq, YM_eq] at *)
  exact Mi.se_min2 hc hm ha hb hgl h1 h2 hpl
private theorem se_mod (ha : YE X xr a ma) (hb : YE X xr b mb) : YE X xr (.BinOp a .Mod b pos) (mBin gModI ma mb) := by
  (try simp only [YE_eq, YA_eq, YT_eq, YW_eq, YS_eq, YSs_eq, YI_eq, YG_eq, YF_eq, YQ_eq, YTs_eq, YM_eq] at *)
  exact Mi.se_mod ha hb
private theorem se_mul (ha : YE X xr a ma) (hb : YE X xr b mb) : YE X xr (.BinOp a .Mult b pos) (mBin gMul ma mb) := by
  (try simp only [YE_eq, YA_eq, YT_eq, YW_eq, YS_eq, YSs_eq, YI_eq, YG_eq, YF_eq, YQ_eq, YTs_eq, YM_eq] at *)
  exact Mi.se_mul ha hb
private theorem se_neg (ha : YE X xr a ma) : YE X xr (.UnaryOp .USub a pos) (mUn gNeg ma) := by
  (try simp only [YE_eq, YA_eq, YT_eq, YW_eq, YS_eq, YSs_eq, YI_eq, YG_eq, YF_eq, YQ_eq, YTs_eq, YM_eq] at *)
  exact Mi.se_neg ha
private theorem se_non {j} : YE X xr (.Constant .none j pos) (mLit .non) := by
  (try simp only [YE_eq, YA_eq, YT_eq, YW_eq, YS_eq, YSs_eq, YI_eq, YG_eq, YF_eq, YQ_eq, YTs_eq, YM_eq] at *)
  exact Mi.se_non
private theorem se_not (ha : YE X xr a ma) : YE X xr (.UnaryOp .Not a pos) (mNot ma) := by
  (try simp only [YE_eq, YA_eq, YT_eq, YW_eq, YS_eq, YSs_eq, YI_eq, YG_eq, YF_eq, YQ_eq, YTs_eq, YM_eq] at *)
  exact Mi.se_not ha
private theorem se_one {op} (h : YE X xr a ma) : YE X xr (.BoolOp op [a] pos) ma := by
  (try simp only [YE_eq, YA_eq, YT_eq, YW_eq, YS_eq, YSs_eq, YI_eq, YG_eq, YF_eq, YQ_eq, YTs_eq, YM_eq] at *)
  exact Mi.se_one h
private theorem se_sub (ha : YE X xr a ma) (hb : YE X xr b mb) : YE X xr (.BinOp a .Sub b pos) (mBin gSub ma mb) := by
  (try simp only [YE_eq, YA_eq, YT_eq, YW_eq, YS_eq, YSs_eq, YI_eq, YG_eq, YF_eq, YQ_eq, YTs_eq, YM_eq] at *)
  exact Mi.se_sub ha hb
private theorem se_sum {p : Pos} {q : Eq'} (hc : X.calm = true) (hm : X.mg "sum" = none) (ha : YQ X xr e q) (hg : autoParam (Gl X "sum") PyProof.Rows.call_M_of_MD._auto_3) (he : autoParam (starEach [e] X.env = (false, eval e X.env) :: starEach [] X.env) PyProof.Rows.call_M_of_MD._auto_3) :
    YE X xr (.Call (.Name "sum" p) [e] [] pos) (mQ gSum q) := by
  (try simp only [YE_eq, YA_eq, YT_eq, YW_eq, YS_eq, YSs_eq, YI_eq, YG_eq, YF_eq, YQ_eq, YTs_eq, YM_eq] at *)
  exact Mi.se_sum hc hm ha hg he
private theorem se_tupN {x1} {mr : Ea} {n : Nat} (h : YA X xr es mr) (hl : ALen mr n) (hn : autoParam (n ≤ cpMost) PyProof.Rows.glB_def._auto_7) : YE X xr (.Tuple es x1 pos) (mTup mr) := by
  (try simp only [YE_eq, YA_eq, YT_eq, YW_eq, YS_eq, YSs_eq, YI_eq, YG_eq, YF_eq, YQ_eq, YTs_eq, YM_eq] at *)
  exact Mi.se_tupN h hl hn
private theorem se_var (i : Nat) {x : Str} (hN : autoParam (X.N[i]? = some x) PyProof.Rows.call_M_of_MD._auto_3) (hv : autoParam (Y.visB X.env.scope x = true) PyProof.Rows.call_M_of_MD._auto_3) (hd : autoParam ((x == ("__debug__" : Str)) = false) PyProof.Rows.glB_def._auto_7)
    (hcd : autoParam ((x == ("__classdict__" : Str)) = false) PyProof.Rows.glB_def._auto_7) : YE X xr (.Name x pos) (mVar i) := by
  (try simp only [YE_eq, YA_eq, YT_eq, YW_eq, YS_eq, YSs_eq, YI_eq, YG_eq, YF_eq, YQ_eq, YTs_eq, YM_eq] at *)
  exact Mi.se_var i hN (vis_of hv) hd hcd
private theorem sf_comp {elt tg iter : Expr} {ifs : List Expr} {gs : List Comprehension} {sc : Scope} {mi : Ei} {tw : Tg} {mf : Ev} {em : Em} {N : List Str} (nl : Nat) (cap : List Nat) (hc : X.calm = true) (S : CpScope X sc) (hcap : capOk X.N N sc nl cap = true) (hw : YI X xr tg iter mi)
    (hin : ∀ s H fp, YG (cpCx X N sc s H fp noxe) tg tw ∧ YTs (cpCx X N sc s H fp noxe) ifs mf ∧ YM (cpCx X N sc s H fp noxe) elt (⟨tg, iter, ifs, 0⟩ :: gs) sc pos 0 em)
    (ha : autoParam ((gs[0]?.all fun g' => g'.is_async == 0) = true) PyProof.Rows.call_M_of_MD._auto_3)
    (hs : autoParam (∀ x, foldedSetIterable iter X.env x = pure x) PyProof.Rows.Assign_ListComp_rowsP._auto_1) : YF X xr (.ListComp elt (⟨tg, iter, ifs, 0⟩ :: gs) sc pos) (cItems nl cap mi tw mf em) := by
  (try simp only [YE_eq, YA_eq, YT_eq, YW_eq, YS_eq, YSs_eq, YI_eq, YG_eq, YF_eq, YQ_eq, YTs_eq, YM_eq] at *)
  exact Mi.sf_comp nl cap hc S hcap hw hin (async_of ha) hs
private theorem sg_pair (i j : Nat) {x y : Str} {p q : Pos} {k : Nat} (hc : X.calm = true) (hN : X.N.Nodup) (hi : autoParam (X.N[i]? = some x) PyProof.Rows.call_M_of_MD._auto_3) (hx : autoParam (Y.locB X.env.scope x = true) PyProof.Rows.call_M_of_MD._auto_3) (hf : autoParam (Y.fnB X x = true) PyProof.Rows.call_M_of_MD._auto_3)
    (hj : autoParam (X.N[j]? = some y) PyProof.Rows.call_M_of_MD._auto_3) (hy : autoParam (Y.locB X.env.scope y = true) PyProof.Rows.call_M_of_MD._auto_3) (hg : autoParam (Y.fnB X y = true) PyProof.Rows.call_M_of_MD._auto_3) : YG X (.Tuple [.Name x p, .Name y q] k pos) (gPair i j) := by
  (try simp only [YE_eq, YA_eq, YT_eq, YW_eq, YS_eq, YSs_eq, YI_eq, YG_eq, YF_eq, YQ_eq, YTs_eq, YM_eq] at *)
  exact Mi.sg_pair i j hc hN hi (loc_of hx) (fn_of hf) hj (loc_of hy) (fn_of hg)
private theorem sg_var (i : Nat) {x : Str} (hN : X.N.Nodup) (hi : autoParam (X.N[i]? = some x) PyProof.Rows.call_M_of_MD._auto_3) (hx : autoParam (Y.locB X.env.scope x = true) PyProof.Rows.call_M_of_MD._auto_3) (hf : autoParam (Y.fnB X x = true) PyProof.Rows.call_M_of_MD._auto_3) : YG X (.Name x pos) (gVar i) := by
  (try simp only [YE_eq, YA_eq, YT_eq, YW_eq, YS_eq, YSs_eq, YI_eq, YG_eq, YF_eq, YQ_eq, YTs_eq, YM_eq] at *)
  exact Mi.sg_var i hN hi (loc_of hx) (fn_of hf)
private theorem si_E {tg : Expr} (h : YE X xr e m) : YI X xr tg e (mIt m) := by
  (try simp only [YE_eq, YA_eq, YT_eq, YW_eq, YS_eq, YSs_eq, YI_eq, YG_eq, YF_eq, YQ_eq, YTs_eq, YM_eq] at *)
  exact Mi.si_E h
private theorem si_rng1 {tg : Expr} {p : Pos} (hg : Gl X "range") (hm : X.mg "range" = none) (ha : YE X xr a ma) (hs : autoParam (starEach [a] X.env = [(false, eval a X.env)]) PyProof.Rows.call_M_of_MD._auto_3) : YI X xr tg (.Call (.Name "range" p) [a] [] pos) (mRng1 ma) := by
  (try simp only [YE_eq, YA_eq, YT_eq, YW_eq, YS_eq, YSs_eq, YI_eq, YG_eq, YF_eq, YQ_eq, YTs_eq, YM_eq] at *)
  exact Mi.si_rng1 hg hm ha hs
private theorem sm_elt {elt : Expr} {gens : List Comprehension} {sc : Scope} {d : Nat} {me : Ev} (hx : ∀ e s, X.xe e s → False) (he : YE X xr0 elt me) (hg : gens[d + 1]? = none) : YM X elt gens sc pos d (emElt me) := by
  (try simp only [YE_eq, YA_eq, YT_eq, YW_eq, YS_eq, YSs_eq, YI_eq, YG_eq, YF_eq, YQ_eq, YTs_eq, YM_eq] at *)
  exact Mi.sm_elt hx he hg
private theorem sq_E (h : YE X xr e m) : YQ X xr e (mSeq m) := by
  (try simp only [YE_eq, YA_eq, YT_eq, YW_eq, YS_eq, YSs_eq, YI_eq, YG_eq, YF_eq, YQ_eq, YTs_eq, YM_eq] at *)
  exact Mi.sq_E h
private theorem sq_F {q : Eq'} (h : YF X xr e q) : YQ X xr e q := by
  (try simp only [YE_eq, YA_eq, YT_eq, YW_eq, YS_eq, YSs_eq, YI_eq, YG_eq, YF_eq, YQ_eq, YTs_eq, YM_eq] at *)
  exact Mi.sq_F h
private theorem ss_bad : YS X xr st xBad := by
  (try simp only [YE_eq, YA_eq, YT_eq, YW_eq, YS_eq, YSs_eq, YI_eq, YG_eq, YF_eq, YQ_eq, YTs_eq, YM_eq] at *)
  exact Mi.ss_bad
private theorem ss_cons (h1 : YS X xr st m1) (h2 : YSs X xr rest m2) : YSs X xr (st :: rest) (xSeq m1 m2) := by
  (try simp only [YE_eq, YA_eq, YT_eq, YW_eq, YS_eq, YSs_eq, YI_eq, YG_eq, YF_eq, YQ_eq, YTs_eq, YM_eq] at *)
  exact Mi.ss_cons h1 h2
private theorem ss_expr (he : YE X xr e m) (hs : autoParam (swapsWith e none pos.line X.env = pure false) PyProof.Rows.call_M_of_MD._auto_3) : YS X xr (.Expr e pos) (xDo m) := by
  (try simp only [YE_eq, YA_eq, YT_eq, YW_eq, YS_eq, YSs_eq, YI_eq, YG_eq, YF_eq, YQ_eq, YTs_eq, YM_eq] at *)
  exact Mi.ss_expr he hs
private theorem ss_for {tg iter : Expr} {body : List Stmt} {mi : Ei} {tw : Tg} (hp : PassesOwn (model X.prog X.w) X.A X.env X.xe) (hc : X.calm = true) (hi : YI X xr tg iter mi) (hg : YG X tg tw) (hb : YSs X xr body m1)
    (hs : autoParam (∀ x, foldedSetIterable iter X.env x = pure x) PyProof.Rows.Assign_ListComp_rowsP._auto_1) : YS X xr (.For tg iter body [] pos) (xFor mi tw m1) := by
  (try simp only [YE_eq, YA_eq, YT_eq, YW_eq, YS_eq, YSs_eq, YI_eq, YG_eq, YF_eq, YQ_eq, YTs_eq, YM_eq] at *)
  exact Mi.ss_for hp hc hi hg hb hs
private theorem ss_if {sa sb : List Stmt} (hc : YT X xr c mc) (ha : YSs X xr sa m1) (hb : YSs X xr sb m2) : YS X xr (.If c sa sb pos) (xIf mc m1 m2) := by
  (try simp only [YE_eq, YA_eq, YT_eq, YW_eq, YS_eq, YSs_eq, YI_eq, YG_eq, YF_eq, YQ_eq, YTs_eq, YM_eq] at *)
  exact Mi.ss_if hc ha hb
private theorem ss_nil : YSs X xr [] xNil := by
  (try simp only [YE_eq, YA_eq, YT_eq, YW_eq, YS_eq, YSs_eq, YI_eq, YG_eq, YF_eq, YQ_eq, YTs_eq, YM_eq] at *)
  exact Mi.ss_nil
private theorem ss_ret (he : YE X xr e m) : YS X xr (.Return (some e) pos) (xRet m) := by
  (try simp only [YE_eq, YA_eq, YT_eq, YW_eq, YS_eq, YSs_eq, YI_eq, YG_eq, YF_eq, YQ_eq, YTs_eq, YM_eq] at *)
  exact Mi.ss_ret he
private theorem ss_set (i : Nat) {x : Str} {pos' : Pos} (hN : X.N.Nodup) (he : YE X xr e m) (hi : autoParam (X.N[i]? = some x) PyProof.Rows.call_M_of_MD._auto_3) (hx : autoParam (Y.locB X.env.scope x = true) PyProof.Rows.call_M_of_MD._auto_3) (hs : autoParam (swapsWith e (some (.Name x pos')) pos.line X.env = pure false) PyProof.Rows.call_M_of_MD._auto_3)
    (hf : autoParam (Y.fnB X x = true) PyProof.Rows.call_M_of_MD._auto_3) : YS X xr (.Assign [.Name x pos'] e pos) (xSet i m) := by
  (try simp only [YE_eq, YA_eq, YT_eq, YW_eq, YS_eq, YSs_eq, YI_eq, YG_eq, YF_eq, YQ_eq, YTs_eq, YM_eq] at *)
  exact Mi.ss_set i hN he hi (loc_of hx) hs (fn_of hf)
private theorem st_c {op : CmpOp} {g : W → W → Hx → R W} (h : CmpOk X op g) (ha : YE X xr a ma) (hb : YE X xr b mb) (h1 : autoParam (op ≠ .In) PyProof.Rows.glB_def._auto_7) (h2 : autoParam (op ≠ .NotIn) PyProof.Rows.glB_def._auto_7) : YT X xr (.Compare a [op] [b] pos) (mBin g ma mb) := by
  (try simp only [YE_eq, YA_eq, YT_eq, YW_eq, YS_eq, YSs_eq, YI_eq, YG_eq, YF_eq, YQ_eq, YTs_eq, YM_eq] at *)
  exact Mi.st_c h ha hb h1 h2
private theorem st_not (ha : YT X xr a ma) : YT X xr (.UnaryOp .Not a pos) (mNot ma) := by
  (try simp only [YE_eq, YA_eq, YT_eq, YW_eq, YS_eq, YSs_eq, YI_eq, YG_eq, YF_eq, YQ_eq, YTs_eq, YM_eq] at *)
  exact Mi.st_not ha
private theorem st_val (h : YE X xr e m) (he : autoParam (∀ whole, isTrue e X.env whole = (do let v ← whole; standAt e.pos; holding [v] (truthy v))) PyProof.Rows.Assign_ListComp_rowsP._auto_1) : YT X xr e m := by
  (try simp only [YE_eq, YA_eq, YT_eq, YW_eq, YS_eq, YSs_eq, YI_eq, YG_eq, YF_eq, YQ_eq, YTs_eq, YM_eq] at *)
  exact Mi.st_val h he
private theorem sts_nil : YTs X [] (mLit (.bl true)) := by
  (try simp only [YE_eq, YA_eq, YT_eq, YW_eq, YS_eq, YSs_eq, YI_eq, YG_eq, YF_eq, YQ_eq, YTs_eq, YM_eq] at *)
  exact Mi.sts_nil
private theorem sts_one (h : YT X xr0 c mc) : YTs X [c] mc := by
  (try simp only [YE_eq, YA_eq, YT_eq, YW_eq, YS_eq, YSs_eq, YI_eq, YG_eq, YF_eq, YQ_eq, YTs_eq, YM_eq] at *)
  exact Mi.sts_one h
private theorem fnM {P : Program} {w : World} {K : PySem.W.Frag} {mg : Str → Option Value} {base : Heap} {x : Str} {st : Stmt} {f : Addr} {fd : FuncData} {N ps : List Str} {k : Nat} {m : Ex} (F : Fun K x x st f fd) (hm : mg x = some (.ref f)) (S : FnScope N ps (defScope st))
    (hb : ∀ (kV doc pm : Value) (an : Option Addr) (cdv ct : Value) (us : List Value), us.length = ps.length → bindArgs (PySem.W.fnOf x x (defArgs st) (defBody st) (defScope st) .none kV doc pm an cdv ct) ⟨us, []⟩ = pure (ps.zip us))
    (hbody : ∀ (cdv : Value) (A : Around) (outer : List Env) (s : Shared) (H : Hp) (E : XK), Room k (A.deeper (envOfC x (defScope st) s.heap.objs.size f cdv)) → YSs (cxOf CX0 P w K mg base N x (defScope st) f cdv A outer s H E).nox xr0 (defBody st) m) :
    FnM P w K mg base (k + 1) x ps.length (runB N.length m) := by
  (try simp only [YE_eq, YA_eq, YT_eq, YW_eq, YS_eq, YSs_eq, YI_eq, YG_eq, YF_eq, YQ_eq, YTs_eq, YM_eq] at *)
  exact Mi.fnM F hm S hb hbody
private theorem se_append {apos cpos : Pos} (ho : YE X xr a ma) (he : YE X xr b mb) (hs : autoParam (starEach [b] X.env = (false, eval b X.env) :: starEach [] X.env) PyProof.Rows.call_M_of_MD._auto_3)
    (hbase : autoParam (attributeBase a "append" X.env (eval a X.env) = eval a X.env) PyProof.Rows.call_M_of_MD._auto_3)
    (hfew : autoParam (((backTo cpos (starEach [b] X.env)).all (fun x => !x.1) && (backToKw cpos (keywordEach [] X.env)).all (fun x => x.1.isSome)
      && decide ([b].length + ([] : List Keyword).length + (if ([] : List Keyword).isEmpty then 0 else 1) < 30)) = true) PyProof.Rows.call_M_of_MD._auto_3) (hline : autoParam ((apos.endLine == cpos.line) = true) PyProof.Rows.call_M_of_MD._auto_3) :
    YE X xr (.Call (.Attribute a "append" apos) [b] [] cpos) (mMeth gAppend ma mb) := by
  (try simp only [YE_eq, YA_eq, YT_eq, YW_eq, YS_eq, YSs_eq, YI_eq, YG_eq, YF_eq, YQ_eq, YTs_eq, YM_eq] at *)
  exact Mi.se_append ho he hs hbase hfew hline
private theorem se_max2 {p : Pos} (hc : X.calm = true) (hm : X.mg "max" = none) (ha : YE X xr a ma) (hb : YE X xr b mb) (hgl : autoParam (Gl X "max") PyProof.Rows.call_M_of_MD._auto_3) (h1 : autoParam (starEach [a, b] X.env = (false, eval a X.env) :: starEach [b] X.env) PyProof.Rows.call_M_of_MD._auto_3) (h2 : autoParam (starEach [b] X.env = (false, eval b X.env) :: starEach [] X.env) PyProof.Rows.call_M_of_MD._auto_3) (hpl : autoParam ((backTo pos (starEach [b] X.env)).any (·.1) = false) PyProof.Rows.call_M_of_MD._auto_3) :
    YE X xr (.Call (.Name "max" p) [a, b] [] pos) (mBin gMax2 ma mb) := by
  (try simp only [YE_eq, YA_eq, YT_eq, YW_eq, YS_eq, YSs_eq, YI_eq, YG_eq, YF_eq, YQ_eq, YTs_eq, YM_eq] at *)
  exact Mi.se_max2 hc hm ha hb hgl h1 h2 hpl
private theorem se_pow (ha : YE X xr a ma) (hb : YE X xr b mb) : YE X xr (.BinOp a .Pow b pos) (mBin gPow ma mb) := by
  (try simp only [YE_eq, YA_eq, YT_eq, YW_eq, YS_eq, YSs_eq, YI_eq, YG_eq, YF_eq, YQ_eq, YTs_eq, YM_eq] at *)
  exact Mi.se_pow ha hb
private theorem se_str {x j} : YE X xr (.Constant (.str x) j pos) (mLit (.str x)) := by
  (try simp only [YE_eq, YA_eq, YT_eq, YW_eq, YS_eq, YSs_eq, YI_eq, YG_eq, YF_eq, YQ_eq, YTs_eq, YM_eq] at *)
  exact Mi.se_str
private theorem ss_put {o i : Expr} {mo mi : Ev} {tpos : Pos} (he : YE X xr e m) (ho : YE X xr o mo) (hi : YE X xr i mi)
    (hs : autoParam (swapsWithSole [.Subscript o i tpos] e pos.line X.env = pure false) PyProof.Rows.call_M_of_MD._auto_3) (hw : autoParam (swappedStores [.Subscript o i tpos] e X.env = pure none) PyProof.Rows.call_M_of_MD._auto_3)
    (h1 : autoParam ((assignEach [.Subscript o i tpos] X.env).map (·.2) = [assign (.Subscript o i tpos) X.env]) PyProof.Rows.call_M_of_MD._auto_3)
    (ha : autoParam (∀ v, assign (.Subscript o i tpos) X.env v = (do
      let ov ← holding [v] (eval o X.env)
      let iv ← holding [v, ov] (eval i X.env)
      standAt tpos
      holding [v, ov, iv] (setItem ov iv v)
      release [v, ov, iv] [])) PyProof.Rows.Assign_ListComp_rowsP._auto_1) : YS X xr (.Assign [.Subscript o i tpos] e pos) (xStore gPut m mo mi) := by
  (try simp only [YE_eq, YA_eq, YT_eq, YW_eq, YS_eq, YSs_eq, YI_eq, YG_eq, YF_eq, YQ_eq, YTs_eq, YM_eq] at *)
  exact Mi.ss_put he ho hi hs hw h1 ha
end
end Y
set_option maxHeartbeats 400000
namespace Mi
open PySem L2
section
variable {ρ ρ1 ρ2 : En} {A A1 A2 A3 : Hx} {w x y z : W} {m ma mb mc : Ev} {m1 m2 : Ex} {i n : Nat} {f : Fn} {ws : List W} {fl : Fl}
private theorem mVar_ok (h : ρ[i]? = some (some w)) : mVar i ρ A = .ok w A := by unfold mVar; rw [h]
private theorem mLit_ok : mLit w ρ A = .ok w A := rfl
private theorem mBin_ok {g : W → W → Hx → R W} (h1 : ma ρ A = .ok x A1) (h2 : mb ρ A1 = .ok y A2) : mBin g ma mb ρ A = g x y A2 := by unfold mBin; rw [h1, bind_ok, h2, bind_ok]
private theorem mNot_ok {k : Bool} (h : ma ρ A = .ok (.bl k) A1) : mNot ma ρ A = .ok (.bl (!k)) A1 := by unfold mNot; rw [h, bind_ok]
private theorem mAnd_t (h : ma ρ A = .ok (.bl true) A1) : mAnd ma mb ρ A = mb ρ A1 := by unfold mAnd; rw [h, bind_ok]
private theorem mIf_t (h : mc ρ A = .ok (.bl true) A1) : mIf mc ma mb ρ A = ma ρ A1 := by unfold mIf; rw [h, bind_ok]
private theorem mIf_f (h : mc ρ A = .ok (.bl false) A1) : mIf mc ma mb ρ A = mb ρ A1 := by unfold mIf; rw [h, bind_ok]
private theorem mCall_ok {a : Ea} (h : a ρ A = .ok ws A1) : mCall f a ρ A = f ws A1 := by unfold mCall; rw [h, bind_ok]
private theorem aCons_ok {r : Ea} (h1 : ma ρ A = .ok x A1) (h2 : r ρ A1 = .ok ws A2) : aCons ma r ρ A = .ok (x :: ws) A2 := by unfold aCons; rw [h1, bind_ok, h2, bind_ok]
private theorem mTup_ok {a : Ea} (h : a ρ A = .ok ws A1) : mTup a ρ A = .ok (.tup ws) A1 := by unfold mTup; rw [h, bind_ok]
private theorem mLst_ok {a : Ea} (h : a ρ A = .ok ws A1) : mLst a ρ A = .ok (.ref A1.length) (A1 ++ [.lst ws]) := by unfold mLst; rw [h, bind_ok]
private theorem xSeq_nx (h : m1 ρ A = .ok (.nx ρ1) A1) : xSeq m1 m2 ρ A = m2 ρ1 A1 := by unfold xSeq; rw [h, bind_ok]
private theorem xSeq_rt (h : m1 ρ A = .ok (.rt w) A1) : xSeq m1 m2 ρ A = .ok (.rt w) A1 := by unfold xSeq; rw [h, bind_ok]
private theorem xSet_ok (h : m ρ A = .ok w A1) : xSet i m ρ A = .ok (.nx (ρ.set i (some w))) A1 := by unfold xSet; rw [h, bind_ok]
private theorem xDo_ok (h : m ρ A = .ok w A1) : xDo m ρ A = .ok (.nx ρ) A1 := by unfold xDo; rw [h, bind_ok]
private theorem xRet_ok (h : m ρ A = .ok w A1) : xRet m ρ A = .ok (.rt w) A1 := by unfold xRet; rw [h, bind_ok]
private theorem xIf_t (h : mc ρ A = .ok (.bl true) A1) : xIf mc m1 m2 ρ A = m1 ρ A1 := by unfold xIf; rw [h, bind_ok]
private theorem xIf_f (h : mc ρ A = .ok (.bl false) A1) : xIf mc m1 m2 ρ A = m2 ρ A1 := by unfold xIf; rw [h, bind_ok]
private theorem xFor_ok {mi : Ei} {tw : Tg} {j : Itx} (h : mi ρ A = .ok j A1) : xFor mi tw m1 ρ A = forGo j (turn tw m1) j.len 0 ρ A1 := by unfold xFor; rw [h, bind_ok]
private theorem turn_ok {tw : Tg} (h : tw w ρ = some ρ1) : turn tw m1 w ρ A = m1 ρ1 A := by unfold turn; rw [h]
private theorem forGo_stop {j : Itx} {st : W → Ex} (h : j.at_ A i = some none) : forGo j st n i ρ A = .ok (.nx ρ) A := by
  cases n with
  | zero => unfold forGo; rw [h]
  | succ n => unfold forGo; rw [h]
private theorem forGo_nx {j : Itx} {st : W → Ex} (h : j.at_ A i = some (some w)) (hs : st w ρ A = .ok (.nx ρ1) A1) : forGo j st (n + 1) i ρ A = forGo j st n (i + 1) ρ1 A1 := by
  rw [forGo, h]; dsimp only; rw [hs, bind_ok]
private theorem mRng1_ok {k : Int} (h : m ρ A = .ok (.int k) A1) (hk : small62 k = true) : mRng1 m ρ A = .ok (rngIt 0 k.toNat) A1 := by unfold mRng1; rw [h, bind_ok]; dsimp only; rw [if_pos hk]
private theorem rng_at {lo : Int} {k : Nat} (h : i < k) : (rngIt lo k).at_ A i = some (some (.int (lo + i))) := by unfold rngIt; dsimp only; rw [if_pos h]
private theorem rng_end {lo : Int} {k : Nat} (h : ¬ i < k) : (rngIt lo k).at_ A i = some none := by unfold rngIt; dsimp only; rw [if_neg h]
private theorem runB_rt (h : m1 (ws.map some ++ List.replicate (n - ws.length) none) A = .ok (.rt w) A1) : runB n m1 ws A = .ok w A1 := by unfold runB; rw [h]; rfl
private theorem iso_ok {w : W} (hn : nrs ws = true) (hw : w.nr = true) (h : f ws [] = .ok w A1) : iso f ws A = .ok w A := by
  unfold iso
  rw [if_pos hn, h]
  cases w with
  | ref k => cases hw
  | _ => dsimp only; rw [if_pos hw]
end
end Mi
set_option maxHeartbeats 400000
namespace Mi
open PySem L2
private theorem emGo_one {j : Itx} {ifs me : Ev} {c : En} {A : Hx} {N : Nat} {item g : Nat → W} {keep : Nat → Bool} (hat : ∀ i, i < N → j.at_ A i = some (some (item i))) (hend : j.at_ A N = some none)
    (hi : ∀ i, i < N → ifs (some (item i) :: c) A = .ok (.bl (keep i)) A) (he : ∀ i, i < N → keep i = true → me (some (item i) :: c) A = .ok (g i) A) :
    ∀ (n i : Nat) (x : Option W) (acc : List W), i + n = N → acc.length + n ≤ cpMost → ∃ y, emGo j (gVar 0) ifs (emElt me) n i (x :: c) acc A = .ok (y :: c, acc ++ ((List.range' i n).filter keep).map g) A := by
  intro n
  induction n with
  | zero =>
    intro i x acc h _
    have : i = N := by omega
    subst this
    refine ⟨x, ?_⟩
    unfold emGo
    rw [hend]
    simp
  | succ n ih =>
    intro i x acc h hl
    have hlt : i < N := by omega
    rw [emGo, hat i hlt]
    dsimp only [gVar, List.set]
    rw [hi i hlt, bind_ok]
    rw [List.range'_succ]
    cases hk : keep i with
    | true =>
      dsimp only
      obtain ⟨y, e⟩ := ih (i + 1) (some (item i)) (acc ++ [g i]) (by omega) (by rw [List.length_append, List.length_singleton]; omega)
      refine ⟨y, ?_⟩
      have ee : emElt me (some (item i) :: c) acc A = .ok (some (item i) :: c, acc ++ [g i]) A := by
        unfold emElt
        rw [he i hlt hk, bind_ok, if_pos (by omega)]
      rw [ee, bind_ok]
      dsimp only
      rw [e, List.filter_cons_of_pos hk, List.map_cons, List.append_assoc]
      rfl
    | false =>
      dsimp only
      obtain ⟨y, e⟩ := ih (i + 1) (some (item i)) acc (by omega) (by omega)
      exact ⟨y, by rw [e, List.filter_cons_of_neg (by (first | exact ((hk).trans (Bool.false_ne_true)) | (rw [hk]; exact Bool.false_ne_true)))]⟩
private theorem cItems_one {cap : List Nat} {mi : Ei} {j : Itx} {ifs me : Ev} {ρ : En} {A : Hx} {N : Nat} {item g : Nat → W} {keep : Nat → Bool} (hm : mi ρ A = .ok j A) (hj : j.len = N) (hN : N ≤ cpMost)
    (hat : ∀ i, i < N → j.at_ A i = some (some (item i))) (hend : j.at_ A N = some none) (hi : ∀ i, i < N → ifs (some (item i) :: cap.map fun i => (ρ[i]?).join) A = .ok (.bl (keep i)) A)
    (he : ∀ i, i < N → keep i = true → me (some (item i) :: cap.map fun i => (ρ[i]?).join) A = .ok (g i) A) :
    cItems 1 cap mi (gVar 0) ifs (emElt me) ρ A = .ok (((List.range N).filter keep).map g) A := by
  obtain ⟨y, e⟩ := emGo_one hat hend hi he N 0 none [] (Nat.zero_add N) (by simpa using hN)
  unfold cItems
  rw [hm, bind_ok, hj]
  have hc : ncapE 1 cap ρ = none :: cap.map fun i => (ρ[i]?).join := rfl
  rw [hc, e, List.nil_append, ← List.range_eq_range']
  rfl
private theorem cItems_map {cap : List Nat} {mi : Ei} {j : Itx} {me : Ev} {ρ : En} {A : Hx} {N : Nat} {item g : Nat → W} (hm : mi ρ A = .ok j A) (hj : j.len = N) (hN : N ≤ cpMost)
    (hat : ∀ i, i < N → j.at_ A i = some (some (item i))) (hend : j.at_ A N = some none) (he : ∀ i, i < N → me (some (item i) :: cap.map fun i => (ρ[i]?).join) A = .ok (g i) A) :
    cItems 1 cap mi (gVar 0) (mLit (.bl true)) (emElt me) ρ A = .ok ((List.range N).map g) A := by
  have h := cItems_one (ifs := mLit (.bl true)) (keep := fun _ => true) hm hj hN hat hend (fun _ _ => rfl) fun i hi _ => he i hi
  have f : (List.range N).filter (fun _ => true) = List.range N := List.filter_eq_self.mpr fun _ _ => rfl
  rw [f] at h
  exact h
private theorem mQ_ok {g : List W → Hx → R W} {q : Eq'} {ρ : En} {A A1 : Hx} {ws : List W} (h : q ρ A = .ok ws A1) : mQ g q ρ A = g ws A1 := by unfold mQ; rw [h, bind_ok]
private theorem mList_ok {q : Eq'} {ρ : En} {A A1 : Hx} {ws : List W} (h : q ρ A = .ok ws A1) : mList q ρ A = .ok (.ref A1.length) (A1 ++ [.lst ws]) := by unfold mList; rw [h, bind_ok]
private theorem mSeq_ok {m : Ev} {ρ : En} {A A1 : Hx} {w : W} {ws : List W} (h : m ρ A = .ok w A1) (hs : seqOf w A1 = some ws) : mSeq m ρ A = .ok ws A1 := by unfold mSeq; rw [h, bind_ok, hs]
end Mi
namespace Mi
open PySem PySem.Spec PyProof.Rows L2
inductive TbLy (H : Hp) (h g : Heap) (e : Addr) (vs : Array Value) : Prop
  | mk (T : Addr) (oT : Obj) (ts : Array Value) (h1 : vs[1]? = some (.ref T)) (ne : T ≠ e) (ng : g.get? T = none) (nH : H T = none) (hT : h.get? T = some oT) (hd : oT.data = .fields ts) (h3 : ts[3]? = some .none)
inductive ExcLy (H : Hp) (h g : Heap) (e : Addr) (C : Value) : Prop
  | mk (ng : g.get? e = none) (nH : H e = none) (oe : Obj) (vs : Array Value) (a0 : Value) (he : h.get? e = some oe) (hc : oe.cls = C) (hd : oe.data = .fields vs) (h0 : vs[0]? = some a0) (h1 : vs[1]? = some .none ∨ TbLy H h g e vs)
inductive Tr (h : Heap) (e : Addr) : Prop
  | mk (oe : Obj) (vs : Array Value) (T : Addr) (he : h.get? e = some oe) (hd : oe.data = .fields vs) (h1 : vs[1]? = some (.ref T))
section
variable {M : Model} {A : Around} {E : Value → Shared → Prop} {s : Shared} {env : Env} {outer : List Env} {L e : Addr} {C : Value} {H : Hp} {g : Heap}
private theorem frames_at {base base' : Heap} : ∀ {l : List Env}, s.heap.FunFrames base l → (∀ b ∈ frs l, base'.get? b = none) → s.heap.FunFrames base' l
  | [], _, _ => trivial
  | en :: r, ⟨hk, ⟨L, o, hf, hn, ho, hd⟩, hr⟩, h => ⟨hk, ⟨L, o, hf, h L (by unfold frs; (first | exact ((List.filterMap_cons).trans ((hf).trans (List.mem_cons_self ..))) | (rw [List.filterMap_cons, hf]; exact List.mem_cons_self ..))), ho, hd⟩, frames_at hr fun b hb => h b (by
      unfold frs
      rw [List.filterMap_cons, hf]
      exact List.mem_cons_of_mem _ hb)⟩
private theorem leaves {base : Heap} {Q : Unit → Shared → Prop} (hfr : A.frames = some (env :: outer)) (hf : env.frame = some L) (hl : s.heap.FunFrames base (env :: outer)) (x : ExcLy H s.heap g e C)
    (tr : ∀ b u, H b = some u → ∃ o, s.heap.get? b = some o) (th : ∀ b o, g.get? b = some o → ∃ o', s.heap.get? b = some o')
    (hQ : ∀ h', (∀ b o, s.heap.get? b = some o → b ∉ frs (env :: outer) → ((∃ o', g.get? b = some o') ∨ ∃ u, H b = some u) → h'.get? b = some o) → (∀ b o, s.heap.get? b = some o → b ∈ frs (env :: outer) → ∃ sl, h'.get? b = some { o with slots := sl }) →
      ExcLy H h' g e C → Tr h' e → Q () { s with heap := h' }) : wpAny M A (leaving env (.ref e)) Q E s := by
  obtain ⟨hg, hH, oe, vs, a0, he, hc, hd, h0, h1⟩ := x
  have fin : ∀ (hid : List Addr), (∀ b ∈ frs (env :: outer), b ∈ hid) → (∀ b ∈ hid, b ∉ frs (env :: outer) → g.get? b = none ∧ H b = none) → ∀ h', Heap.LeftW (PySem.W.hideAll s.heap hid) (env :: outer) e C a0 s.heap h' → Q () { s with heap := h' } := by
    intro hid hi1 hi2 h' ⟨st, ff, tr', us⟩
    refine hQ h' (fun b o hb nb hx => ?_) (fun b o hb mb => ?_) ?_ (by obtain ⟨oe', vs', T, oT, ts, he', _, hd', h1', _⟩ := tr'; exact ⟨oe', vs', T, he', hd', h1'⟩)
    · refine st b o (PySem.W.hideAll_get hid hb fun hm => ?_)
      obtain ⟨z1, z2⟩ := hi2 b hm nb
      rcases hx with ⟨o', q⟩ | ⟨u, q⟩
      · (first | exact PyNso (z1) q | exact PyNso q (z1) | cases PySos (z1) q | (rw [z1] at q; cases q))
      · (first | exact PyNso (z2) q | exact PyNso q (z2) | cases PySos (z2) q | (rw [z2] at q; cases q))
    · obtain ⟨_, o', ho', hnf⟩ := hl.mem mb
      (first | exact PyNso (hb) ho' | exact PyNso ho' (hb) | cases PySos (hb) ho' | (rw [hb] at ho'; cases ho'))
      exact us b o hb hnf
    · obtain ⟨oe', vs', T, oT, ts, he', ⟨hc', h0'⟩, hd', h1', hT0, hTe, hT, hdT, h3⟩ := tr'
      have nT : T ∉ frs (env :: outer) := fun hm => by
        obtain ⟨_, o', ho', hnf⟩ := hl.mem hm
        obtain ⟨sl, z⟩ := us T o' ho' hnf
        (first | exact PyNso (hT) z | exact PyNso z (hT) | cases PySos (hT) z | (rw [hT] at z; cases z))
        exact hnf ts hdT
      have both : g.get? T = none ∧ H T = none := by
        cases q : s.heap.get? T with
        | some o =>
          by_cases hm : T ∈ hid
          · exact hi2 T hm nT
          · (first | exact PyNso (PySem.W.hideAll_get hid q hm) hT0 | exact PyNso hT0 (PySem.W.hideAll_get hid q hm) | cases PySos (PySem.W.hideAll_get hid q hm) hT0 | (rw [PySem.W.hideAll_get hid q hm] at hT0; cases hT0))
        | none =>
          constructor
          · cases z : g.get? T with
            | none => rfl
            | some o => obtain ⟨o', z'⟩ := th T o z; (first | exact PyNso (q) z' | exact PyNso z' (q) | cases PySos (q) z' | (rw [q] at z'; cases z'))
          · cases z : H T with
            | none => rfl
            | some u => obtain ⟨o', z'⟩ := tr T u z; (first | exact PyNso (q) z' | exact PyNso z' (q) | cases PySos (q) z' | (rw [q] at z'; cases z'))
      exact ⟨hg, hH, oe', vs', a0, he', hc', hd', h0', .inr ⟨T, oT, ts, h1', hTe, both.1, both.2, hT, hdT, h3⟩⟩
  have stay : ∀ hid : List Addr, (PySem.W.hideAll s.heap hid).StaysIn s.heap := fun hid b o q => PySem.W.of_hideAll hid q
  rcases h1 with h1 | ⟨T, oT, ts, h1, hTe, hgT, hHT, hT, hdT, h3⟩
  · have hn : ∀ b ∈ e :: frs (env :: outer), (PySem.W.hideAll s.heap (e :: frs (env :: outer))).get? b = none := fun b hb => PySem.W.hideAll_none _ hb
    refine wpAny_leaving_firstW (base := PySem.W.hideAll s.heap (e :: frs (env :: outer))) hfr (frames_at hl fun b hb => hn b (List.mem_cons_of_mem _ hb)) hf he (stay _) (hn e (List.mem_cons_self ..)) hd h1 h0 ?_
    rw [hc]
    refine fin _ (fun b hb => List.mem_cons_of_mem _ hb) fun b hb nb => ?_
    rcases List.mem_cons.mp hb with rfl | hb
    · exact ⟨hg, hH⟩
    · exact absurd hb nb
  · have hn : ∀ b ∈ e :: T :: frs (env :: outer), (PySem.W.hideAll s.heap (e :: T :: frs (env :: outer))).get? b = none := fun b hb => PySem.W.hideAll_none _ hb
    refine wpAny_leaving_nextW (base := PySem.W.hideAll s.heap (e :: T :: frs (env :: outer))) hfr (frames_at hl fun b hb => hn b (List.mem_cons_of_mem _ (List.mem_cons_of_mem _ hb))) hf
      ⟨oe, vs, T, oT, ts, he, ⟨hc, h0⟩, hd, h1, hn T (List.mem_cons_of_mem _ (List.mem_cons_self ..)), hTe, hT, hdT, h3⟩ (stay _) (hn e (List.mem_cons_self ..)) ?_
    refine fin _ (fun b hb => List.mem_cons_of_mem _ (List.mem_cons_of_mem _ hb)) fun b hb nb => ?_
    rcases List.mem_cons.mp hb with rfl | hb
    · exact ⟨hg, hH⟩
    · rcases List.mem_cons.mp hb with rfl | hb
      · exact ⟨hgT, hHT⟩
      · exact absurd hb nb
end
inductive MX (P : Program) (w : World) (outer : List Env) (H : Hp) (s : Shared) (E : XK) (e : Value) (s' : Shared) : Prop
  | mk (ea C : Addr) (H' : Hp) (he : e = .ref ea) (os : s'.os = s.os) (b : AllBare s'.gens) (un : Un (frs outer) [] H H' s.heap s'.heap) (hk : HOk P w H' s'.heap) (ly : ExcLy H' s'.heap s.heap ea (.ref C)) (tr : Tr s'.heap ea) (q : E (.ref C) none H')
noncomputable def CXe (P : Program) (w : World) : CXT := fun outer H s E e s' => MX P w outer H s E e s'
end Mi
namespace Mi
open PySem PySem.Spec PyProof.Rows L2
private theorem _root_.L2.ObjOk.obj {P : Program} {w : World} {H : Hp} {h : Heap} {a : Addr} {o : HO} (x : ObjOk P w H h a o) : ∃ ob, h.get? a = some ob := by
  cases o with
  | lst xs => obtain ⟨_, _, _, _, e⟩ := x; exact ⟨_, e⟩
  | tup xs => obtain ⟨_, _, _, o, e, _⟩ := x; exact ⟨o, e⟩
  | dK kvs => obtain ⟨_, _, _, _, o, _, _, e, _⟩ := x; exact ⟨o, e⟩
  | dT kvs => obtain ⟨_, _, _, _, o, _, _, e, _⟩ := x; exact ⟨o, e⟩
  | set S n => obtain ⟨o, _, _, _, e, _⟩ := x; exact ⟨o, e⟩
  | ins C dx fs => obtain ⟨_, _, _, e, _⟩ := x; exact ⟨_, e⟩
  | own y => exact x
  | xd fs => obtain ⟨_, ⟨o, _, _, e, _⟩, _⟩ := x; exact ⟨o, e⟩
  | rng lo hi => obtain ⟨_, _, _, e⟩ := x; exact ⟨_, e⟩
  | frz ob u => exact ⟨ob, x.1⟩
  | tbl ps => exact ⟨_, (show h.get? a = some _ from x)⟩
  | met f y => exact ⟨_, (show h.get? a = some _ from x)⟩
  | ext φ => exact x.2.1
private theorem xe_leaves {P : Program} {w : World} {K : PySem.W.Frag} {mg : Str → Option Value} {base : Heap} {N : List Str} {qual : Str} {scope : Scope} {f : Addr} {cd : Value} {A : Around} {outer : List Env} {s : Shared} {H : Hp} {E : XK}
    {pins : List (Addr × Obj)} {σ : St} {H' : Hp} {s' : Shared} {ea C : Addr} (I : Inv (cxOf (CXe P w) P w K mg base N qual scope f cd A outer s H E) pins σ H' s') (x : ExcLy H' s'.heap s.heap ea (.ref C)) (hE : E (.ref C) none H') :
    (cxOf (CXe P w) P w K mg base N qual scope f cd A outer s H E).xe (.ref ea) s' := by
  have bs : Un (frs outer) [] H H' s.heap s'.heap := I.base
  have stk : ∀ b ∈ frs (envOfC qual scope s.heap.objs.size f cd :: outer), H' b = none := I.stkFree
  have hL : s.heap.get? s.heap.objs.size = none := Heap.get?_none_of_le (Nat.le_refl _)
  have hfe : (envOfC qual scope s.heap.objs.size f cd).frame = some s.heap.objs.size := rfl
  have mem : ∀ b, b ∈ frs (envOfC qual scope s.heap.objs.size f cd :: outer) ↔ b = s.heap.objs.size ∨ b ∈ frs outer := fun b => by
    unfold frs
    rw [List.filterMap_cons, hfe]
    exact List.mem_cons
  show wpAny (model P w) (A.deeper (envOfC qual scope s.heap.objs.size f cd)) (leaving (envOfC qual scope s.heap.objs.size f cd) (.ref ea)) _ _ s'
  refine leaves (base := base) (L := s.heap.objs.size) I.ok.frames rfl I.stack x (fun b u e => (I.hok b u e).obj) (fun b o e => bs.there b o e (by simp)) fun h' k1 k2 x' tr' => ?_
  have nfr : ∀ b u, H' b = some u → b ∉ frs (envOfC qual scope s.heap.objs.size f cd :: outer) := fun b u e hm => by (first | exact PyNso (stk b hm) e | exact PyNso e (stk b hm) | cases PySos (stk b hm) e | (rw [stk b hm] at e; cases e))
  refine ⟨ea, C, H', rfl, I.os, I.bare, ⟨fun b o e n nb _ => ?_, fun b o e n mb _ => ?_, fun b o e n hx => bs.free b o e n hx, fun b o e hx => ?_, bs.tups, bs.frzs, bs.tbls⟩, fun b u e => ?_, x', tr', hE⟩
  · have nL : b ≠ s.heap.objs.size := fun z => by (first | exact PyNso (hL) (z ▸ e) | (rw [z, hL] at e; cases e))
    exact k1 b o (bs.keep b o e n nb (by simp)) (fun hm => (mem b).mp hm |>.elim nL nb) (.inl ⟨o, e⟩)
  · obtain ⟨sl, q⟩ := bs.slot b o e n mb (by simp)
    obtain ⟨sl', q'⟩ := k2 b _ q ((mem b).mpr (.inr mb))
    exact ⟨sl', q'⟩
  · obtain ⟨o', q⟩ := bs.there b o e hx
    by_cases hm : b ∈ frs (envOfC qual scope s.heap.objs.size f cd :: outer)
    · obtain ⟨sl, z⟩ := k2 b o' q hm; exact ⟨_, z⟩
    · exact ⟨o', k1 b o' q hm (.inl ⟨o, e⟩)⟩
  · refine (I.hok b u e).stay (fun c v hc q => ?_) (fun _ q => q) fun _ _ q => q
    rcases hc with z | z
    · rw [z] at q ⊢; exact k1 b v q (nfr b u e) (.inr ⟨u, e⟩)
    · exact k1 c v q (nfr c _ z) (.inr ⟨_, z⟩)
private theorem after_exc {X : Cx} {pins : List (Addr × Obj)} {σ : St} {H : Hp} {s s' : Shared} {E : XK} {e : Value} (I : Inv X pins σ H s) (h : CXe X.prog X.w X.stack H s E e s') (g : Heap) (hg : ∀ b o, g.get? b = some o → ∃ o', s.heap.get? b = some o') :
    ∃ ea C H', e = .ref ea ∧ Inv X pins σ H' s' ∧ ExcLy H' s'.heap g ea (.ref C) ∧ Tr s'.heap ea ∧ E (.ref C) none H' := by
  obtain ⟨ea, C, H', rfl, os, bare, un, hok, x, tr, hE⟩ := h
  obtain ⟨hh, gg, d, t, os'⟩ := s'
  obtain rfl : os' = s.os := os
  refine ⟨ea, C, H', rfl, I.call (h' := hh) (g' := gg) (d' := d) (t' := t) (ch := []) un hok bare (fun b z => absurd z (by simp)), ?_, tr, hE⟩
  have up : ∀ b, s.heap.get? b = none → g.get? b = none := fun b n => by
    cases z : g.get? b with
    | none => rfl
    | some o => obtain ⟨o', q⟩ := hg b o z; (first | exact PyNso (n) q | exact PyNso q (n) | cases PySos (n) q | (rw [n] at q; cases q))
  obtain ⟨a1, a2, oe, vs, a0, b1, b2, b3, b4, b5⟩ := x
  refine ⟨up ea a1, a2, oe, vs, a0, b1, b2, b3, b4, ?_⟩
  rcases b5 with b5 | ⟨T, oT, ts, c1, c2, c3, c4, c5, c6, c7⟩
  · exact .inl b5
  · exact .inr ⟨T, oT, ts, c1, c2, up T c3, c4, c5, c6, c7⟩
end Mi
namespace Mi
open PySem PySem.Spec PyProof.Rows L2
noncomputable def XE1 (K : PySem.W.Frag) (E : XK) : XR := fun x H => ∀ Ca : Addr, ClsOf K x (.ref Ca) → E (.ref Ca) none H
inductive spX (K : PySem.W.Frag) (n : Nat) (f : Fn) (vs : List V) (H : Hp) (Q : VK) (E : XK) : Prop
  | mk (len : vs.length = n) (φ : List Addr) (A : Hx) (ws : List W) (S : Sim K φ A H) (r : RVs K φ H ws vs) (q : (f ws A).post (PB K φ H Q) (EB K φ H (XE1 K E)))
private theorem spX.len {K : PySem.W.Frag} {n : Nat} {f : Fn} {vs : List V} {H : Hp} {Q : VK} {E : XK} (h : spX K n f vs H Q E) : vs.length = n := by cases h; assumption
inductive FnX (P : Program) (w : World) (K : PySem.W.Frag) (mg : Str → Option Value) (base : Heap) (k : Nat) (x : Str) (n : Nat) (f : Fn) : Prop
  | mk (fa : Addr) (fd : FuncData) (ps : List Str) (F : FnOk P w K mg base (CXe P w) k fa fd ps (spX K n f)) (at_ : mg x = some (.ref fa)) (kp : PySem.W.keepIn K (.ref fa) = true) (bi : Binds K fd ps [])
structure XeOk (X : Cx) (g : Heap) (xr : XR) : Prop where
  th : ∀ pins σ H s, Inv X pins σ H s → ∀ b o, g.get? b = some o → ∃ o', s.heap.get? b = some o'
  out : ∀ pins σ H s ea C x, Inv X pins σ H s → ExcLy H s.heap g ea (.ref C) → ClsOf X.K x (.ref C) → xr x H → X.xe (.ref ea) s
private theorem xeOk {P : Program} {w : World} {K : PySem.W.Frag} {mg : Str → Option Value} {base : Heap} {N : List Str} {qual : Str} {scope : Scope} {f : Addr} {cd : Value} {A : Around} {outer : List Env} {s : Shared} {H : Hp} {E : XK} :
    XeOk (cxOf (CXe P w) P w K mg base N qual scope f cd A outer s H E) s.heap (XE1 K E) where
  th := fun pins σ H' s' I b o e => (show Un (frs outer) [] H H' s.heap s'.heap from I.base).there b o e (by simp)
  out := fun pins σ H' s' ea C x I ly c hx => xe_leaves I ly (hx C c)
section
variable {X : Cx} {g : Heap} {xr : XR} {e a b c : Expr} {es : List Expr} {m ma mb mc : Ev} {m1 m2 : Ex} {pos : Pos} {st : Stmt}
noncomputable def Eup (K : PySem.W.Frag) (xr : XR) : XK := fun Cv _ H => ∃ x Ca, Cv = .ref Ca ∧ ClsOf K x (.ref Ca) ∧ xr x H
private theorem XeOk.passes (x : XeOk X g xr) : Passes (CXe X.prog X.w) X (Eup X.K xr) := fun pins σ H s e s' I h => by
  obtain ⟨ea, C, H', rfl, I', ly, _, nm, Ca, ec, c, hx⟩ := after_exc I h g (x.th pins σ H s I)
  cases ec
  exact x.out pins σ H' s' ea C nm I' ly c hx
private theorem se_callX {k n : Nat} {x : Str} {p : Pos} {f : Fn} {mr : Ea} (xo : XeOk X g xr) (F : FnX X.prog X.w X.K X.mg X.base k x n f) (hr : Room k X.A) (ha : SA X xr (e :: es) mr) (hl : ALen mr n) (hg : autoParam (Gl X x) PyProof.Rows.call_M_of_MD._auto_3)
    (hdb : autoParam ((x == ("__debug__" : Str)) = false) PyProof.Rows.glB_def._auto_7) (he : autoParam (starEach (e :: es) X.env = (false, eval e X.env) :: starEach es X.env) PyProof.Rows.call_M_of_MD._auto_3) (hpl : autoParam ((backTo pos (starEach es X.env)).any (·.1) = false) PyProof.Rows.call_M_of_MD._auto_3) :
    SE X xr (.Call (.Name x p) (e :: es) [] pos) (mCall f mr) := by
  obtain ⟨fa, fd, ps, F, hm, hk, hb⟩ := F
  refine PE.imp (pe_call F hr hg hm hk hb .nil xo.passes ha hdb he hpl) fun σ H Q ⟨φ, A, ρ, S, re, h⟩ => ?_
  have h' := post_bind.mp h
  refine ⟨φ, A, ρ, S, re, ?_⟩
  revert h'; cases er : mr ρ A with
  | ok ws A1 =>
    intro h'
    intro φ1 H1 vs l1 S1 q1
    have hv : vs.length = n := by rw [← q1.length]; exact hl ρ A ws A1 er
    rw [List.append_nil]
    refine ⟨hv, φ1, A1, ws, S1, q1, post_mono h' (fun _ _ z => z.mono l1) fun y A2 z φ2 H2 l2 S2 Ca hC => ?_⟩
    exact ⟨y, Ca, rfl, hC, z φ2 H2 (l1.trans l2) S2⟩
  | exc y A1 => intro h'; exact h'
  | bad => intro h'; exact h'
private theorem st_nox (h : ST X.nox xr0 e m) : ST X xr e fun ρ A => (m ρ A).nox := by
  refine PT.imp (PT.nox h) fun σ H Q ⟨φ, A, ρ, S, re, q⟩ => ⟨φ, A, ρ, S, re, ?_⟩
  cases er : m ρ A with
  | ok w A1 => (try dsimp only at q); rw [er] at q; exact q
  | exc y A1 => (try dsimp only at q); rw [er] at q; exact q.elim
  | bad => (try dsimp only at q); rw [er] at q; exact q.elim
private theorem ss_noxs {sts : List Stmt} (h : SSs X.nox xr0 sts m1) : SSs X xr sts fun ρ A => (m1 ρ A).nox := by
  refine PSs.imp (PSs.nox h) fun D σ H ⟨φ, A, ρ, S, re, q⟩ => ⟨φ, A, ρ, S, re, ?_⟩
  cases er : m1 ρ A with
  | ok w A1 => (try dsimp only at q); rw [er] at q; exact q
  | exc y A1 => (try dsimp only at q); rw [er] at q; exact q.elim
  | bad => (try dsimp only at q); rw [er] at q; exact q.elim
end
noncomputable def runX (n : Nat) (m : Ex) : Fn := fun ws A => (m (ws.map some ++ List.replicate (n - ws.length) none) A).bind fun fl A1 => match fl with
  | .rt w => .ok w A1
  | .nx _ => .ok .non A1
  | _ => .bad
section
variable {P : Program} {w : World} {K : PySem.W.Frag} {mg : Str → Option Value} {base : Heap}
private theorem fnX {x : Str} {st : Stmt} {f : Addr} {fd : FuncData} {N ps : List Str} {k : Nat} {m : Ex} (F : Fun K x x st f fd) (hm : mg x = some (.ref f)) (S : FnScope N ps (defScope st))
    (hb : ∀ (kV doc pm : Value) (an : Option Addr) (cdv ct : Value) (us : List Value), us.length = ps.length → bindArgs (PySem.W.fnOf x x (defArgs st) (defBody st) (defScope st) .none kV doc pm an cdv ct) ⟨us, []⟩ = pure (ps.zip us))
    (hbody : ∀ (cdv : Value) (A : Around) (outer : List Env) (s : Shared) (H : Hp) (E : XK), Room k (A.deeper (envOfC x (defScope st) s.heap.objs.size f cdv)) →
      XeOk (cxOf (CXe P w) P w K mg base N x (defScope st) f cdv A outer s H E) s.heap (XE1 K E) → SSs (cxOf (CXe P w) P w K mg base N x (defScope st) f cdv A outer s H E) (XE1 K E) (defBody st) m) :
    FnX P w K mg base (k + 1) x ps.length (runX N.length m) := by
  refine ⟨f, fd, ps, ?_, hm, F.kp, F.binds hb⟩
  obtain ⟨oc, od, kV, doc, pm, an, cdv, ct, osl, rfl, lk, hcd⟩ := F.ex
  refine fn_of lk hcd S (fun vs H Q E h => h.len) fun A outer s H vs Q E hr ⟨hl, φ, A1, ws, Sm, r, h⟩ => ⟨_, hbody cdv A outer s H E hr xeOk, ?_⟩
  refine ⟨φ, A1, ws.map some ++ List.replicate (N.length - ws.length) none, Sm, RE.start r, ?_⟩
  have h' := post_bind.mp h
  show R.post _ (FB K φ H _) _
  revert h'; cases er : m (ws.map some ++ List.replicate (N.length - ws.length) none) A1 with
  | ok fl A2 =>
    intro h'
    cases fl with
    | rt w => exact h'
    | nx ρ => exact fun φ' H' σ' l S' _ => h' φ' H' .non l S' rfl
    | bk ρ => exact h'.elim
    | ct ρ => exact h'.elim
  | exc y A2 => intro h'; exact h'
  | bad => intro h'; exact h'.elim
end
end Mi
namespace Mi
open PySem PySem.Spec PyProof.Rows L2
inductive ClsLy (C : Addr) (bmB : List Value) (newId : String) (h : Heap) : Prop
  | mk (tl N nm q bs hdct sn sub ab col dd k0 k1 k2 k3 k5 mN : _) (obj : h.get? C = some (excClassObj nm q C N bs tl hdct sn sub ab col dd k0 k1 k2 k3 k5 newId)) (ns : h.Ns N mN) (init : mN "__init__" = none) (tail : OwnTail h bmB tl)
noncomputable def clsD (d : Data) : Option { c : ClassData // d = .cls c } := match d with
  | .cls c => some ⟨c, rfl⟩
  | _ => none
noncomputable def excB (K : PySem.W.Frag) (C : Addr) (bmB : List Value) (newId : String) : Bool := (K.lookup C).any fun o => (clsD o.data).any fun c =>
  o.cls == .type "type" && c.1.mro == .ref C :: c.1.mro.tail && o.slots.toList == [o.slots.toList.getD 0 none, o.slots.toList.getD 1 none, o.slots.toList.getD 2 none, o.slots.toList.getD 3 none, some (.builtin newId), o.slots.toList.getD 5 none]
    && c.1.hasDel == false && PySem.W.tailIn K bmB c.1.mro.tail && PySem.W.nsOkIn K c.1.ns && PySem.W.nsIn K c.1.ns "__init__" == some none
private theorem clsLy {K : PySem.W.Frag} {h : Heap} {C : Addr} {bmB : List Value} {newId : String} (X : K.In h) (q : excB K C bmB newId = true) : ClsLy C bmB newId h := by
  obtain ⟨⟨oc, dd, dat, ⟨sl⟩⟩, ho, q⟩ := (Option.any_eq_true _ _).mp q
  obtain ⟨⟨⟨nm, bs, mro, ns, qn, hd, sn, sub, ab, col, del⟩, e0⟩, -, q⟩ := (Option.any_eq_true _ _).mp q
  simp only [Bool.and_eq_true, beq_iff_eq] at q
  obtain ⟨⟨⟨⟨⟨⟨e1, e2⟩, e3⟩, e4⟩, e5⟩, e6⟩, e7⟩ := q
  cases e0; cases e1; cases e4
  exact ⟨mro.tail, ns, nm, qn, bs, hd, sn, sub, ab, col, dd, _, _, _, _, _, _, X _ _ (by rw [ho, e2, e3]; rfl), .of_isNs (PySem.W.isNs_of_in X e6), PySem.W.nsMap_none_of_in X e6 e7, PySem.W.tail_of_in X e5⟩
noncomputable def xRaise (x : Str) (mr : Ea) : Ex := fun ρ A => (mr ρ A).bind fun _ A1 => .exc x A1
section
variable {X : Cx} {g : Heap} {xr : XR} {e : Expr} {es : List Expr} {mr : Ea} {x : Str} {np cpos pos : Pos} {C : Addr} {B newId initId : String} {bmB : List Value} {n : Nat}
private theorem made_ly {pins : List (Addr × Obj)} {σ : St} {H : Hp} {s : Shared} {h' : Heap} {ea : Addr} {vs : List Value} (xo : XeOk X g xr) (I : Inv X pins σ H s) (m : Heap.MadeExcOf s.heap h' ea (.ref C) vs) :
    Inv X pins σ H { s with heap := h' } ∧ ExcLy H h' g ea (.ref C) := by
  have nH : ∀ b, s.heap.get? b = none → H b = none := fun b z => by
    cases q : H b with
    | none => rfl
    | some u => obtain ⟨o, k⟩ := (I.hok b u q).obj; (first | exact PyNso (z) k | exact PyNso k (z) | cases PySos (z) k | (rw [z] at k; cases k))
  have ng : ∀ b, s.heap.get? b = none → g.get? b = none := fun b z => by
    cases q : g.get? b with
    | none => rfl
    | some o => obtain ⟨o', k⟩ := xo.th pins σ H s I b o q; (first | exact PyNso (z) k | exact PyNso k (z) | cases PySos (z) k | (rw [z] at k; cases k))
  obtain ⟨t, he, ht, ht'⟩ := m.there
  refine ⟨I.call' (s' := { s with heap := h' }) (ch := []) rfl ⟨fun b o q _ _ _ => m.keeps b o q, fun b o q _ _ _ => ⟨o.slots, m.keeps b o q⟩, fun b o q z _ => z, fun b o q _ => ⟨o, m.keeps b o q⟩, fun _ _ q => q, fun _ _ _ q => q, fun b ps q => ⟨#[], by (first | exact ((Array.append_empty).trans (q)) | (rw [Array.append_empty]; exact q))⟩⟩
    (fun b u q => (I.hok b u q).stay (fun c v _ z => m.keeps c v z) (fun _ z => z) fun _ _ z => z) I.bare (fun b z => absurd z (by simp)), ?_⟩
  exact ⟨ng ea m.new, nH ea m.new, _, _, _, he, rfl, rfl, rfl, .inl rfl⟩
private theorem ss_raise (xo : XeOk X g xr) (hc : ClsOf X.K x (.ref C)) (ex : excB X.K C bmB newId = true) (FB : ExcBaseFacts B newId initId bmB) (ha : SA X xr (e :: es) mr) (hl : ALen mr n) (hn : autoParam (n ≤ sizeLine) PyProof.Rows.glB_def._auto_7) (hg : autoParam (Gl X x) PyProof.Rows.call_M_of_MD._auto_3) (hcalm : autoParam (X.calm = true) PyProof.Rows.call_M_of_MD._auto_3)
    (hdb : autoParam ((x == ("__debug__" : Str)) = false) PyProof.Rows.glB_def._auto_7) (he : autoParam (starEach (e :: es) X.env = (false, eval e X.env) :: starEach es X.env) PyProof.Rows.call_M_of_MD._auto_3) (hpl : autoParam ((backTo cpos (starEach es X.env)).any (·.1) = false) PyProof.Rows.call_M_of_MD._auto_3) :
    SS X xr (.Raise (some (.Call (.Name x np) (e :: es) [] cpos)) none pos) (xRaise x mr) := by
  intro pins s σ H D I ⟨φ, A, ρ, S, re, h⟩
  have hm : X.mg x = some (.ref C) := PySem.W.mg_of I.mod.kin I.mod.glob hc
  obtain ⟨tl, N, nm, q, bs, hdct, sn, sub, ab, col, dd, k0, k1, k2, k3, k5, mN, hC, hN, hni, T⟩ := clsLy I.mod.kin ex
  refine wpAny_Raise_call_subT (C := C) (nm := nm) (q := q) (N := N) (bs := bs) (bm := tl) (hdct := hdct) (sn := sn) (sub := sub) (ab := ab) (col := col) (dd := dd) (k0 := k0) (k1 := k1) (k2 := k2) (k3 := k3) (k5 := k5)
    FB (mN := mN) (T.hasType FB.hasBase) (I.ok.hd hcalm) (by rw [he]; show (false || (backTo cpos (starEach es X.env)).any (·.1)) = false; rw [hpl]; rfl) hni (ld_glob I hg hm ⟨rfl, ?_⟩ hdb)
  have h' := post_bind.mp h
  have hA := ha cpos pins s σ H (fun vs H1 => vs.length ≤ sizeLine ∧ xr x H1) I ⟨φ, A, ρ, S, re, ?_⟩
  · rw [he] at hA ⊢
    refine Calls.evalArgs_plain (wpAny_mono hA (fun us s2 h2 => ?_) fun _ _ y => y)
    obtain ⟨vs, H2, I2, rv, hlen, hx⟩ := h2
    refine ⟨rfl, ?_, I2.bk _ _ hC, hN.keeps I2.bk, T.keeps I2.bk, fun h3 ea m => ?_⟩
    · rw [← rv.length]; exact hlen
    · obtain ⟨I3, ly⟩ := made_ly xo I2 m
      exact xo.out pins σ H2 _ ea C x I3 ly hc hx
  · revert h'; cases er : mr ρ A with
    | ok ws A1 =>
      intro h'
      intro φ1 H1 vs l1 S1 q1
      refine ⟨?_, h' φ1 H1 l1 S1⟩
      rw [← q1.length, hl ρ A ws A1 er]
      exact hn
    | exc y A1 => intro h'; exact h'
    | bad => intro h'; exact h'
end
end Mi
namespace Mi
open PySem PySem.Spec PyProof.Rows L2
noncomputable def mFmt (m : Ev) : Ev := fun ρ A => (m ρ A).bind fun w A1 => match w with
  | .int i => if i.natAbs.log2 < 1920 then .ok (.str (toString i)) A1 else .bad
  | _ => .bad
noncomputable def mJ : List Ev → Str → Ev
  | [], acc => fun _ A => .ok (.str acc) A
  | m :: ms, acc => fun ρ A => (m ρ A).bind fun w A1 => match w with
    | .str y => if (acc ++ y).length ≤ sizeLine then mJ ms (acc ++ y) ρ A1 else .bad
    | _ => .bad
section
variable {X : Cx} {xr : XR} {e v₁ v₂ : Expr} {es : List Expr} {m m₁ m₂ : Ev} {ms : List Ev} {pos : Pos}
private theorem se_fmt (h : SE X xr e m) : SE X xr (.FormattedValue e (-1) none pos) (mFmt m) := by
  intro pins s σ H Q I ⟨φ, A, ρ, S, re, q⟩
  refine wpAny_FormattedValue_plain (thn (h pins s σ H (fun v H1 => ∃ i, v = .int i ∧ i.natAbs.log2 < 1920 ∧ Q (.str (toString i)) H1) I (tM.go S re (post_bind.mp q) fun w A1 φ1 H1 v g l S1 r => ?_)) fun u s1 ⟨v, H1, I1, r, i, ev, hl, hq⟩ => ?_)
  · cases w with
    | int i =>
      dsimp only at g
      split at g
      · rename_i hl
        exact ⟨i, r, hl, g φ1 H1 _ l S1 rfl⟩
      · exact g.elim
    | _ => exact g.elim
  · subst ev
    obtain ⟨t, rfl⟩ := r
    exact formatField_int_small hl ⟨.str (toString i), H1, I1.tok _, ⟨_, rfl⟩, hq⟩
inductive SJ (X : Cx) (xr : XR) : List Expr → List Ev → Prop where
  | nil : SJ X xr [] []
  | cons {e : Expr} {es : List Expr} {m : Ev} {ms : List Ev} (h : SE X xr e m) (r : SJ X xr es ms) : SJ X xr (e :: es) (m :: ms)
private theorem joins (j : SJ X xr es ms) : ∀ {acc : Str} {pins : List (Addr × Obj)} {s : Shared} {σ : St} {H : Hp} {Q : VK} {φ : List Addr} {A : Hx} {ρ : En}, Inv X pins σ H s → Sim X.K φ A H → RE X.K φ H ρ σ → acc.length ≤ sizeLine →
    (mJ ms acc ρ A).post (PB X.K φ H Q) (EB X.K φ H xr) →
    Joins (model X.prog X.w) X.A X.xe (evalEach es X.env) acc (fun out s₁ => out.length ≤ sizeLine ∧ EP X pins σ Q (.str out s₁.toks) { s₁ with toks := s₁.toks + 1 }) s := by
  induction j with
  | nil =>
    intro acc pins s σ H Q φ A ρ I S re hl h
    exact ⟨hl, .str acc, H, I.tok _, ⟨_, rfl⟩, h φ H _ .refl S rfl⟩
  | @cons e es m ms he r ih =>
    intro acc pins s σ H Q φ A ρ I S re hl h
    show wpAny (model X.prog X.w) X.A (eval e X.env) _ X.xe s
    refine thn (he pins s σ H (fun v H1 => ∃ φ1 A1 y, v = .str y ∧ Le X.K φ H φ1 H1 ∧ Sim X.K φ1 A1 H1 ∧ (acc ++ y).length ≤ sizeLine ∧ (mJ ms (acc ++ y) ρ A1).post (PB X.K φ H Q) (EB X.K φ H xr)) I
      (tM.go S re (post_bind.mp h) fun w A1 φ1 H1 v g l S1 r => ?_)) fun u s1 ⟨v, H1, I1, r, φ1, A1, y, ev, l, S1, hy, hq⟩ => ?_
    · cases w with
      | str y =>
        dsimp only at g
        split at g
        · rename_i hy
          exact ⟨φ1, A1, y, r, l, S1, hy, g⟩
        · exact g.elim
      | _ => exact g.elim
    · subst ev
      obtain ⟨t, rfl⟩ := r
      exact ⟨y, t, rfl, hy, ih I1 S1 (re.mono l) hy (post_mono hq (fun _ _ z => z.mono l) fun _ _ z => z.mono l)⟩
private theorem se_joined (h1 : SE X xr v₁ m₁) (h2 : SE X xr v₂ m₂) (j : SJ X xr es ms) : SE X xr (.JoinedStr (v₁ :: v₂ :: es) pos) (mJ (m₁ :: m₂ :: ms) Str.empty) := by
  intro pins s σ H Q I ⟨φ, A, ρ, S, re, q⟩
  exact wpAny_JoinedStr (joins (.cons h1 (.cons h2 j)) I S re (by decide) q)
end
end Mi
namespace Mi
open PySem PySem.Spec PyProof.Rows L2
end Mi
namespace Mi
open PySem PySem.Spec PyProof.Rows L2
section
variable {M : Model} {A : Around} {E : Value → Shared → Prop} {s : Shared} {e C D : Addr} {oe : Obj} {bmB bmD : List Value} {newId newD : String} {Q : Bool → Shared → Prop}
noncomputable def Below' (h : Heap) (C D : Addr) : Prop := ∃ oC cd, h.get? C = some oC ∧ oC.data = .cls cd ∧ cd.mro.contains (.ref D) = true
private theorem matches_up (lc : ClsLy C bmB newId s.heap) (ld : ClsLy D bmD newD s.heap) (hbD : bmD.contains (.type "BaseException") = true) (he : s.heap.get? e = some oe) (hcls : oe.cls = .ref C) (up : Below' s.heap C D) (hq : Q true s) :
    wpAny M A (excMatches (.ref e) (.ref D)) Q E s := by
  obtain ⟨h, g, d, t, os⟩ := s
  obtain ⟨tl, N, nm, q, bs, hdct, sn, sub, ab, col, dd, k0, k1, k2, k3, k5, mN, hC, _, _, _⟩ := lc
  obtain ⟨tl2, N2, nm2, q2, bs2, hdct2, sn2, sub2, ab2, col2, dd2, l0, l1, l2, l3, l5, mN2, hD, _, _, T2⟩ := ld
  obtain ⟨oC, cd, hC', hd, hm⟩ := up
  (first | exact PyNso (hC) hC' | exact PyNso hC' (hC) | cases PySos (hC) hC' | (rw [hC] at hC'; cases hC'))
  have hdd : (excClassObj nm q C N bs tl hdct sn sub ab col dd k0 k1 k2 k3 k5 newId).data = .cls cd := hd
  unfold excClassObj at hdd
  cases hdd
  have hcB : (Value.ref D :: tl2).contains (.type "BaseException") = true := by rw [List.contains_cons, T2.hasType hbD, Bool.or_true]
  have hcC : (Value.ref C :: tl).contains (.ref D) = true := hm
  have f := tc_notTuple
  unfold excMatches
  repeat (first | (with_reducible refine wpAny_loadPart_at he ?_; rw [hcls]) | with_reducible refine wpAny_loadPart_at hD ?_ | with_reducible refine wpAny_loadPart_at hC ?_ | (with_reducible refine wpAny_isSubtype_exc hD ?_; rw [hcB]) | (with_reducible refine wpAny_isSubtype_exc hC ?_; rw [hcC]) | wp_step)
  exact hq
end
end Mi
namespace Mi
open PySem PySem.Spec PyProof.Rows L2
section
variable {X : Cx} {pins : List (Addr × Obj)} {σ : St} {H0 H : Hp} {s0 s : Shared} {ea C L : Addr} {M : Model} {A : Around} {E : Value → Shared → Prop}
private theorem landed {h' : Heap} {T : Addr} {a0 : Value} (I0 : Inv X pins σ H0 s0) (I : Inv X pins σ H s) (x : ExcLy H s.heap s0.heap ea (.ref C)) (nT : s0.heap.get? T = none) (hT : H T = none)
    (th : ∀ b o, s0.heap.get? b = some o → ∃ o', s.heap.get? b = some o')
    (fl : Heap.FlyingW (PySem.W.hideAll s.heap (ea :: T :: frs X.stack)) X.stack ea (.ref C) a0 h') (us : s.heap.UpToSlots h') :
    Inv X pins σ H { s with heap := h' } ∧ ExcLy H h' s0.heap ea (.ref C) ∧ Tr h' ea ∧ ∀ b o, s0.heap.get? b = some o → ∃ o', h'.get? b = some o' := by
  obtain ⟨st, _, ff, oe, vs, T', oT, ts, he, ⟨hcls, h0⟩, hd, h1, hnT, hTe, hT', hdT, h3⟩ := fl
  have ng : s0.heap.get? ea = none := by cases x; assumption
  have nH : H ea = none := by cases x; assumption
  have kept : ∀ b o, s.heap.get? b = some o → b ∉ frs X.stack → b ≠ ea → b ≠ T → h'.get? b = some o := fun b o q n1 n2 n3 => st b o (PySem.W.hideAll_get _ q fun hm => by
    rcases List.mem_cons.mp hm with z | hm
    · exact n2 z
    rcases List.mem_cons.mp hm with z | hm
    · exact n3 z
    · exact n1 hm)
  have slot : ∀ b o, s.heap.get? b = some o → b ∈ frs X.stack → ∃ sl, h'.get? b = some { o with slots := sl } := fun b o q hm => by
    obtain ⟨_, o', ho', hnf⟩ := I.stack.mem hm
    (first | exact PyNso (q) ho' | exact PyNso ho' (q) | cases PySos (q) ho' | (rw [q] at ho'; cases ho'))
    exact us b o q hnf
  have off : ∀ b u, H b = some u → b ∉ frs X.stack ∧ b ≠ ea ∧ b ≠ T := fun b u q => ⟨fun hm => (by (first | exact PyNso (I.stkFree b hm) q | exact PyNso q (I.stkFree b hm) | cases PySos (I.stkFree b hm) q | (rw [I.stkFree b hm] at q; cases q))), fun z => (by (first | exact PyNso (nH) (z ▸ q) | (rw [z, nH] at q; cases q))), fun z => (by (first | exact PyNso (hT) (z ▸ q) | (rw [z, hT] at q; cases q)))⟩
  have ne : ∀ b o, s0.heap.get? b = some o → b ≠ ea ∧ b ≠ T := fun b o q => ⟨fun z => (by (first | exact PyNso (ng) (z ▸ q) | (rw [z, ng] at q; cases q))), fun z => (by (first | exact PyNso (nT) (z ▸ q) | (rw [z, nT] at q; cases q)))⟩
  have any : ∀ b o o', s0.heap.get? b = some o' → s.heap.get? b = some o → ∃ sl, h'.get? b = some { o with slots := sl } := fun b o o' q0 q => by
    by_cases hm : b ∈ frs X.stack
    · exact slot b o q hm
    · exact ⟨o.slots, kept b o q hm (ne b o' q0).1 (ne b o' q0).2⟩
  have cell : ∀ y c, X.env.cells.lookup y = some c → ∀ v, s.heap.IsCell c v → h'.IsCell c v := fun y c e v ⟨o, ho, hd⟩ => by
    obtain ⟨_, o0, ho0, _⟩ := I0.cell y c e
    obtain ⟨sl, z⟩ := any c o o0 ho0 ho
    exact ⟨_, z, hd⟩
  have inv : Inv X pins σ H { s with heap := h' } := by
    refine ⟨I.ok, I.os, I.bare, ⟨fun b o q n nf nx => ?_, fun b o q n hf nx => ?_, I.base.free, fun b o q nx => ?_, I.base.tups, I.base.frzs, I.base.tbls⟩, ?_, fun y c e => ?_, I.free, I.freeC, fun p hp => ?_, fun b u q => ?_, I.len⟩
    · have q1 := I.base.keep b o q n nf nx
      have q0 := I0.base.keep b o q n nf nx
      refine kept b o q1 (fun hm => ?_) (ne b o q0).1 (ne b o q0).2
      rcases List.mem_cons.mp (I.stkSub b hm) with z | z
      · exact absurd (Nat.lt_of_lt_of_le (Heap.lt_size q) I.ok.above) (by (first | exact ((z).trans (Nat.lt_irrefl _)) | (rw [z]; exact Nat.lt_irrefl _)))
      · exact nf z
    · obtain ⟨sl, q1⟩ := I.base.slot b o q n hf nx
      obtain ⟨sl0, q0⟩ := I0.base.slot b o q n hf nx
      obtain ⟨sl', z⟩ := any b _ _ q0 q1
      exact ⟨sl', z⟩
    · obtain ⟨o1, q1⟩ := I.base.there b o q nx
      obtain ⟨o0, q0⟩ := I0.base.there b o q nx
      obtain ⟨sl, z⟩ := any b o1 o0 q0 q1
      exact ⟨_, z⟩
    · obtain ⟨m, ⟨o, es, ep, ho, r⟩, k⟩ := I.loc
      obtain ⟨_, ⟨o0, _, _, ho0, _⟩, _⟩ := I0.loc
      obtain ⟨sl, z⟩ := any _ o o0 ho0 ho
      refine ⟨m, ⟨_, es, ep, z, r⟩, fun i y v e1 e2 e3 => ?_⟩
      obtain ⟨u, ru, lk⟩ := k i y v e1 e2 e3
      refine ⟨u, ru, ?_⟩
      rcases lk with lk | ⟨lk, c, ec, hc⟩
      · exact .inl lk
      · exact .inr ⟨lk, c, ec, cell y c ec _ hc⟩
    · obtain ⟨v, hv⟩ := I.cell y c e
      exact ⟨v, cell y c e v hv⟩
    · obtain ⟨p1, p2, p3, p4, p5⟩ := I.pin p hp
      have p0 := (I0.pin p hp).1
      refine ⟨kept _ _ p1 (fun hm => ?_) (ne _ _ p0).1 (ne _ _ p0).2, p2, p3, p4, p5⟩
      rcases List.mem_cons.mp (I.stkSub _ hm) with z | z
      · exact p3 z
      · exact p4 z
    · refine (I.hok b u q).stay (fun c v hc z => ?_) (fun _ z => z) fun _ _ z => z
      rcases hc with e | e
      · obtain ⟨n1, n2, n3⟩ := off b u q
        rw [e] at z ⊢
        exact kept b v z n1 n2 n3
      · obtain ⟨n1, n2, n3⟩ := off c _ e
        exact kept c v z n1 n2 n3
  have both : s0.heap.get? T' = none ∧ H T' = none := by
    cases q : s.heap.get? T' with
    | some o =>
      by_cases hm : T' ∈ ea :: T :: frs X.stack
      · rcases List.mem_cons.mp hm with z | hm
        · exact absurd z hTe
        rcases List.mem_cons.mp hm with z | hm
        · (first | exact ((z).trans (⟨nT, hT⟩)) | (rw [z]; exact ⟨nT, hT⟩))
        · obtain ⟨sl, z⟩ := slot T' o q hm
          obtain ⟨_, o', ho', hnf⟩ := I.stack.mem hm
          (first | exact PyNso (q) ho' | exact PyNso ho' (q) | cases PySos (q) ho' | (rw [q] at ho'; cases ho'))
          (first | exact PyNso (hT') z | exact PyNso z (hT') | cases PySos (hT') z | (rw [hT'] at z; cases z))
          exact absurd hdT (hnf ts)
      · (first | exact PyNso (PySem.W.hideAll_get _ q hm) hnT | exact PyNso hnT (PySem.W.hideAll_get _ q hm) | cases PySos (PySem.W.hideAll_get _ q hm) hnT | (rw [PySem.W.hideAll_get _ q hm] at hnT; cases hnT))
    | none =>
      constructor
      · cases z : s0.heap.get? T' with
        | none => rfl
        | some o => obtain ⟨o', k⟩ := th T' o z; (first | exact PyNso (q) k | exact PyNso k (q) | cases PySos (q) k | (rw [q] at k; cases k))
      · cases z : H T' with
        | none => rfl
        | some u => obtain ⟨o', k⟩ := (I.hok T' u z).obj; (first | exact PyNso (q) k | exact PyNso k (q) | cases PySos (q) k | (rw [q] at k; cases k))
  exact ⟨inv, ⟨ng, nH, oe, vs, a0, he, hcls, hd, h0, .inr ⟨T', oT, ts, h1, hTe, both.1, both.2, hT', hdT, h3⟩⟩, ⟨oe, vs, T', he, hd, h1⟩, fun b o q => by
    obtain ⟨o1, q1⟩ := th b o q
    obtain ⟨sl, z⟩ := any b o1 o q q1
    exact ⟨_, z⟩⟩
private theorem flying (I : Inv X pins σ H s) (x : ExcLy H s.heap s0.heap ea (.ref C)) (tr : Tr s.heap ea) :
    ∃ T a0, s0.heap.get? T = none ∧ H T = none ∧ Heap.FlyingW (PySem.W.hideAll s.heap (ea :: T :: frs X.stack)) X.stack ea (.ref C) a0 s.heap := by
  obtain ⟨hg, hH, oe, vs, a0, he, hc, hd, h0, h1⟩ := x
  obtain ⟨oe', vs', T', he', hd', h1'⟩ := tr
  (first | exact PyNso (he) he' | exact PyNso he' (he) | cases PySos (he) he' | (rw [he] at he'; cases he'))
  (first | exact PyNso (hd) hd' | exact PyNso hd' (hd) | cases PySos (hd) hd' | (rw [hd] at hd'; cases hd'))
  rcases h1 with h1 | ⟨T, oT, ts, h1, hTe, hgT, hHT, hT, hdT, h3⟩
  · (first | exact PyNso (h1) h1' | exact PyNso h1' (h1) | cases PySos (h1) h1' | (rw [h1] at h1'; cases h1'))
  · have hn : ∀ b ∈ ea :: T :: frs X.stack, (PySem.W.hideAll s.heap (ea :: T :: frs X.stack)).get? b = none := fun b hb => PySem.W.hideAll_none _ hb
    exact ⟨T, a0, hgT, hHT, fun b o q => PySem.W.of_hideAll _ q, hn ea (List.mem_cons_self ..), frames_at I.stack fun b hb => hn b (List.mem_cons_of_mem _ (List.mem_cons_of_mem _ hb)),
      oe, vs, T, oT, ts, he, ⟨hc, h0⟩, hd, h1, hn T (List.mem_cons_of_mem _ (List.mem_cons_self ..)), hTe, hT, hdT, h3⟩
end
end Mi
namespace Mi
open PySem PySem.Spec PyProof.Rows L2
noncomputable def excO (oe : Obj) : HO := .frz oe (.own 0)
noncomputable def upIn (K : PySem.W.Frag) (C D : Addr) : Bool := match K.lookup C with
  | some ⟨_, _, .cls cd, _⟩ => cd.mro.contains (.ref D)
  | _ => false
private theorem up_of {K : PySem.W.Frag} {h : Heap} {C D : Addr} (X : K.In h) (e : upIn K C D = true) : Below' h C D := by
  unfold upIn at e
  split at e
  · rename_i ho
    exact ⟨_, _, X _ _ ho, rfl, e⟩
  · cases e
section
variable {X : Cx} {pins : List (Addr × Obj)} {σ : St} {H0 H : Hp} {s0 s : Shared} {ea C L : Addr}
private theorem track (I0 : Inv X pins σ H0 s0) (I : Inv X pins σ H s) (x : ExcLy H s.heap s0.heap ea (.ref C)) : ∃ oe, oe.cls = .ref C ∧ H ea = none ∧ Inv X pins σ (upd H ea (excO oe)) s := by
  obtain ⟨ng, nH, oe, vs, a0, he, hc, _⟩ := x
  refine ⟨oe, hc, nH, ?_⟩
  have ne : ∀ b o, s0.heap.get? b = some o → b ≠ ea := fun b o q z => by (first | exact PyNso (ng) (z ▸ q) | (rw [z, ng] at q; cases q))
  have at_ : ∀ b, b ≠ ea → upd H ea (excO oe) b = H b := fun b n => by unfold upd; exact if_neg n
  have nt : ∀ b u, H b = some u → upd H ea (excO oe) b = some u := fun b u q => by
    rw [at_ b fun z => by (first | exact PyNso (nH) (z ▸ q) | (rw [z, nH] at q; cases q))]; exact q
  refine ⟨I.ok, I.os, I.bare, ⟨I.base.keep, I.base.slot, fun b o q n nx => ?_, I.base.there, fun b xs q => nt _ _ (I.base.tups b xs q), fun b o u q => nt _ _ (I.base.frzs b o u q), fun b ps q => ?_⟩, I.loc, I.cell, ?_, fun y c e => ?_, fun p hp => ?_, fun b u q => ?_, I.len⟩
  · obtain ⟨o0, q0⟩ := I0.base.there b o q nx
    rw [at_ b (ne b o0 q0)]
    exact I.base.free b o q n nx
  · obtain ⟨more, z⟩ := I.base.tbls b ps q
    exact ⟨more, nt _ _ z⟩
  · obtain ⟨m, ⟨o0, _, _, ho0, _⟩, _⟩ := I0.loc
    rw [at_ _ (ne _ o0 ho0)]
    exact I.free
  · obtain ⟨v, o0, ho0, _⟩ := I0.cell y c e
    rw [at_ _ (ne _ o0 ho0)]
    exact I.freeC y c e
  · obtain ⟨p1, p2, p3⟩ := I.pin p hp
    refine ⟨p1, ?_, p3⟩
    rw [at_ _ (ne _ _ (I0.pin p hp).1)]
    exact p2
  · by_cases z : b = ea
    · subst z
      have : u = excO oe := by
        unfold upd at q
        rw [if_pos rfl] at q
        exact (Option.some.inj q).symm
      subst this
      exact ⟨he, ⟨oe, he⟩⟩
    · rw [at_ b z] at q
      exact (I.hok b u q).stay (fun _ _ _ z => z) (fun c z => nt c _ z) fun c xs z => nt c _ z
noncomputable def Caught (X : Cx) (pins : List (Addr × Obj)) (σ : St) (s0 : Shared) (D : Addr) (k : Addr → Addr → Hp → Prop) (e : Value) (s : Shared) : Prop :=
  ∃ ea C H bmC newC, e = .ref ea ∧ Inv X pins σ H s ∧ ExcLy H s.heap s0.heap ea (.ref C) ∧ Tr s.heap ea ∧ (∀ b o, s0.heap.get? b = some o → ∃ o', s.heap.get? b = some o') ∧ Mi.excB X.K C bmC newC = true ∧ upIn X.K C D = true ∧ ∀ oe, oe.cls = .ref C → H ea = none → k ea C (upd H ea (excO oe))
private theorem try_as {i : Nat} {xD n : Str} {D : Addr} {bmD : List Value} {newD : String} {body suite : List Stmt} {b₀ : Stmt} {np hp pos : Pos} {Q : Flow → Shared → Prop} {k : Addr → Addr → Hp → Prop}
    (I0 : Inv X pins σ H0 s0) (hst : X.stack = X.env :: X.outer) (hL : X.env.frame = some L) (hD : ClsOf X.K xD (.ref D)) (exD : Mi.excB X.K D bmD newD = true) (hbD : bmD.contains (.type "BaseException") = true)
    (hN : X.N.Nodup) (hi : X.N[i]? = some n) (hx : Loc X.env.scope n)
    (hbody : wpAny (model X.prog X.w) X.A (execs body X.env) (fun f s1 => f = .next ∧ Q .next s1) (Caught X pins σ s0 D k) s0)
    (hsuite : ∀ ea C H s2, Inv X pins (σ.set i (some (.ref ea))) H s2 → k ea C H → ∀ E', wpAny (model X.prog X.w) (X.A.mark (some (.ref ea))) (execs (b₀ :: suite) X.env)
      (fun f s4 => wpAny (model X.prog X.w) X.A (do bindName X.env n .none; unbindBehindTheSuite X.env n hp) (fun _ s5 => Q f s5) X.xe s4) E' s2)
    (hg : Gl X xD) (hdb : autoParam ((xD == ("__debug__" : Str)) = false) PyProof.Rows.glB_def._auto_7) (hf : X.fn n = true ∨ X.env.scope.names.lookup n = some .local) :
    wpAny (model X.prog X.w) X.A (exec (.Try body [.ExceptHandler (some (.Name xD np)) (some n) (b₀ :: suite) hp] [] [] pos) X.env) Q X.xe s0 := by
  refine wpAny_Try_except (wpAny_mono hbody (fun f s1 ⟨ef, q⟩ => ?_) fun e s1 h => ?_)
  · subst ef
    exact wpAny_execs_nil q
  obtain ⟨ea, C, H, bmC, newC, rfl, I, x, tr, th, exC, up, hk⟩ := h
  have hm : X.mg xD = some (.ref D) := PySem.W.mg_of I.mod.kin I.mod.glob hD
  obtain ⟨T, a0, nT, hT, fl⟩ := flying I x tr
  have hfr : X.A.frames = some (X.env :: X.outer) := by rw [← hst]; exact I.ok.frames
  refine wpAny_looks_onW hfr hL (by rw [← hst]; exact fl) fun h₄ hh₄ us₄ => ?_
  refine wpAny_landsW hh₄ fun h₅ fl₅ us₅ => ?_
  obtain ⟨I5, x5, tr5, th5⟩ := landed I0 I x nT hT th (by rw [← hst] at fl₅; exact fl₅) (us₄.trans us₅)
  obtain ⟨_, _, oe, _, _, he, hc, _⟩ := id x5
  refine wpAny_handleBy_cons (codeAny_handlers_test (Calls.Name_function_global I5.ok.kind hg (Calls.loadGlobal_global (by (first | exact ((I5.ok.glob).trans (I5.mod.glob.keeps I5.bk)) | (rw [I5.ok.glob]; exact I5.mod.glob.keeps I5.bk))) hm ?_) hdb)) (by intro q; cases q)
  refine matches_up (s := { s1 with heap := h₅ }) (clsLy I5.kIn exC) (clsLy I5.kIn exD) hbD he hc (up_of I5.kIn up) ?_
  refine codeAny_handlers_suite_as ?_
  obtain ⟨T', a0', nT', hT', fl'⟩ := flying I5 x5 tr5
  refine lands_againW fl' fun h₆ fl₆ us₆ => ?_
  obtain ⟨I6, x6, _, _⟩ := landed I0 I5 x5 nT' hT' th5 fl₆ us₆
  obtain ⟨of, hof, nea, I7⟩ := track I0 I6 x6
  exact store_ok (v := .ref ea) I7 hN hi hx rfl (fun s7 I7 => hsuite ea C _ s7 I7 (hk of hof nea) _) hf
end
end Mi
namespace Mi
open PySem PySem.Spec PyProof.Rows L2
section
variable {X : Cx} {pins : List (Addr × Obj)} {σ : St} {H : Hp} {s : Shared} {M : Model} {A : Around} {E : Value → Shared → Prop}
private theorem name_goes {i : Nat} {n : Str} {pos : Pos} {Q : Unit → Shared → Prop} (I : Inv X pins σ H s) (hN : X.N.Nodup) (hi : X.N[i]? = some n) (hk : X.env.scope.names.lookup n = some .local)
    (h : ∀ s', Inv X pins (σ.set i none) H s' → Q () s') : wpAny M A (do bindName X.env n .none; unbindBehindTheSuite X.env n pos) Q E s := by
  obtain ⟨m, hn, hl⟩ := id I.loc
  have hiσ : i < σ.length := by rw [I.len]; exact (List.getElem?_eq_some_iff.mp hi).1
  refine wpAny_nameGoes_keeps hk hn (by rw [I.ok.kind]; rfl) fun h' v hn' hs => h _ ?_
  have old : ∀ b o, b ≠ X.env.locals → s.heap.get? b = some o → h'.get? b = some o := fun b o n q => (hs.2 b n).trans q
  have nl : ∀ {b : Addr} {u : HO}, H b = some u → b ≠ X.env.locals := fun q z => by (first | exact PyNso (I.free) (z ▸ q) | (rw [z, I.free] at q; cases q))
  have ab : ∀ {b : Addr} {k : Nat}, b < k → k ≤ X.env.locals → b ≠ X.env.locals := fun l g => Nat.ne_of_lt (Nat.lt_of_lt_of_le l g)
  refine ⟨I.ok, I.os, I.bare, ⟨fun b o e z hb hx => ?_, fun b o e z hb hx => ?_, I.base.free, fun b o e hx => ?_, I.base.tups, I.base.frzs, I.base.tbls⟩, ⟨_, hn', fun j y v' e1 e2 e3 => ?_⟩, fun y c e => ?_, I.free, I.freeC, fun p hp => ?_, fun b u q => ?_, by simpa using I.len⟩
  · exact old b o (ab (Heap.lt_size e) I.ok.above) (I.base.keep b o e z hb hx)
  · obtain ⟨sl, e1⟩ := I.base.slot b o e z hb hx
    exact ⟨sl, old b _ (ab (Heap.lt_size e) I.ok.above) e1⟩
  · obtain ⟨o', e1⟩ := I.base.there b o e hx
    exact ⟨o', old b _ (ab (Heap.lt_size e) I.ok.above) e1⟩
  · by_cases hj : j = i
    · subst hj
      (first | exact PyNso (List.getElem?_set_self hiσ) e2 | exact PyNso e2 (List.getElem?_set_self hiσ) | cases PySos (List.getElem?_set_self hiσ) e2 | (rw [List.getElem?_set_self hiσ] at e2; cases e2))
    · rw [List.getElem?_set_ne (Ne.symm hj)] at e2
      obtain ⟨u', r', q⟩ := hl j y v' e1 e2 e3
      refine ⟨u', r', ?_⟩
      rcases q with ⟨k, e⟩ | ⟨k, c, e, z⟩
      · have : y ≠ n := fun e => hj (nodup_ix hN e1 (e ▸ hi))
        exact .inl ⟨k, by simp [this, e]⟩
      · exact .inr ⟨k, c, e, z.sameBut hs (I.cne y c e)⟩
  · obtain ⟨w', z⟩ := I.cell y c e
    exact ⟨w', z.sameBut hs (I.cne y c e)⟩
  · obtain ⟨e, z, ne, nf, d⟩ := I.pin p hp
    exact ⟨old _ _ ne e, z, ne, nf, d⟩
  · refine (I.hok b u q).stay (fun c v hc z => old c v ?_ z) (fun _ z => z) fun _ _ z => z
    rcases hc with e | e
    · (first | exact ((e).trans (nl q)) | (rw [e]; exact nl q))
    · exact nl e
private theorem suite_keep {i j : Nat} {n y : Str} {ea : Addr} {np yp ap hp : Pos} {Q : Flow → Shared → Prop} {E' : Value → Shared → Prop} (I : Inv X pins (σ.set i (some (.ref ea))) H s) (hN : X.N.Nodup) (hi : X.N[i]? = some n) (hj : X.N[j]? = some y)
    (hk : X.env.scope.names.lookup n = some .local) (hy : Loc X.env.scope y) (hq : ∀ s', Inv X pins (((σ.set i (some (.ref ea))).set j (some (.ref ea))).set i none) H s' → Q .next s')
    (hs : swapsWith (.Name n np) (some (.Name y yp)) ap.line X.env = pure false) (hf : X.fn y = true ∨ X.env.scope.names.lookup y = some .local)
    (hdb : autoParam ((n == ("__debug__" : Str)) = false) PyProof.Rows.glB_def._auto_7) :
    wpAny (model X.prog X.w) A (execs [.Assign [.Name y yp] (.Name n np) ap] X.env) (fun f s4 => wpAny (model X.prog X.w) X.A (do bindName X.env n .none; unbindBehindTheSuite X.env n hp) (fun _ s5 => Q f s5) X.xe s4) E' s := by
  obtain ⟨m, hn, hl⟩ := I.loc
  have hiσ : i < σ.length := by have := I.len; rw [List.length_set] at this; rw [this]; exact (List.getElem?_eq_some_iff.mp hi).1
  obtain ⟨u, r, l⟩ := hl i n (.ref ea) hi (List.getElem?_set_self hiσ) (.inl hk)
  obtain rfl : u = Value.ref ea := r
  have hm : m n = some (.ref ea) := by
    rcases l with ⟨_, e⟩ | ⟨k | k, _⟩
    · exact e
    · (first | exact PyNso (show X.env.kindOf n = some .local from hk) k | exact PyNso k (show X.env.kindOf n = some .local from hk) | cases PySos (show X.env.kindOf n = some .local from hk) k | (rw [show X.env.kindOf n = some .local from hk] at k; cases k))
    · (first | exact PyNso (show X.env.kindOf n = some .local from hk) k | exact PyNso k (show X.env.kindOf n = some .local from hk) | cases PySos (show X.env.kindOf n = some .local from hk) k | (rw [show X.env.kindOf n = some .local from hk] at k; cases k))
  refine wpAny_execs_cons (wpAny_Assign_Name (wpAny_Name (wpAny_loadName_local I.ok.kind hk hn hm ?_) hdb) hs)
  exact store_ok (v := .ref ea) I hN hj hy rfl (fun s5 I5 => wpAny_execs_nil (name_goes I5 hN hi hk hq)) hf
end
end Mi
namespace Mi
open PySem PySem.W PySem.Spec PySem.Calls PyProof.Rows Builtin Builtin.ObjectAttr Builtin.Getset_descriptor
section
variable {prog : Program} {w : World} {A : Around} {E : Value → Shared → Prop} {s : Shared} {K : Frag} {x D : Addr} {name : Str}
private theorem find_L {M : Model} {h : Heap} {a g : Value} (X : K.In h) (ha : findIn K (.ref D) name = some (some a)) (hn : specialIn K a "__get__" = some (some g)) (htk : takesIn K a = some true) : Looks M h (find (.ref x) (.ref D) name) (.bind g a) :=
  (looks_findIn (M := M) X ha).andThen ((show Looks M h (getOf (some a)) (some g) from looks_specialIn X hn).andThen
    ((show Looks M h (dataDescriptor? (some a) (some g)) (some (g, a)) from (looks_takesIn (M := M) X htk).andThen .now).andThen (Looks.tag .now)))
private theorem class_L {tp : Value} {R : Result → Shared → Prop} (X : K.In s.heap) (L0 : Looks (model prog w) s.heap (typeOf (.ref x)) (.ref D)) (hm : mroIn K D (.type "object") = some true) (h : R (.ok (.ret (.ref D))) s) :
    codeAny (model prog w) A (.call (.builtin "getset_descriptor.__get__") ⟨[.builtin "object.__class__", .ref x, tp], []⟩) R s := by
  obtain ⟨h0, g0, d0, t0, o0⟩ := s
  have Ls := looks_mroIn (M := model prog w) X hm
  have sl := KF.slot_gs
  refine codeAny_call_builtin sl.plain KF.entry_gs (sl.check _ _ _ _ _ _ _ _ KF.type_class (KF.args_gs _ _ _) ?_)
  unfold «getset_descriptor.__get__» descrGet
  rw [dga_obj]
  refine wpAny_bind (wpAny_pure ?_)
  unfold descrGetter descrCheckInstance isInstance descrNameAndClass
  simp only [KF.owner_class]
  repeat lk
  refine And.intro (Code.quiet_builtin _ (by decide +kernel)) (codeAny_builtin KF.entry_class ?_)
  unfold «object.__class__» shownTypeOf
  repeat lk
  exact h
private theorem bexc_check {M : Model} {rest : List Value} {kw : List (Str × Value)} {Q : Unit → Shared → Prop} (X : K.In s.heap) (L0 : Looks M s.heap (typeOf (.ref x)) (.ref D)) (hm : mroIn K D (.type "BaseException") = some true)
    (ok : argsOk "BaseException.__getattribute__" ⟨.ref x :: rest, kw⟩) (hQ : Q () s) : wpAny M A (checkBuiltinCall "BaseException.__getattribute__" ⟨.ref x :: rest, kw⟩) Q E s := by
  have cut : splitId "BaseException.__getattribute__" = some ("BaseException", "__getattribute__") := by first | rfl | decide +kernel
  have kinds : builtinKind "BaseException.__getattribute__" = some .slot ∨ builtinKind "BaseException.__getattribute__" = some .method := by
    simp only [builtinKind, cut]
    first | exact .inl (by decide +kernel) | exact .inr (by decide +kernel)
  have Ls := looks_mroIn (M := M) X hm
  have rest' : wpAny M A (match Manifest.signature? "BaseException.__getattribute__" with | some sig => Bind.checkArgs "BaseException.__getattribute__" sig ⟨.ref x :: rest, kw⟩ | none => pure ()) Q E s := wpAny_of_eq ok hQ
  rcases kinds with kd | kd
  all_goals
    unfold checkBuiltinCall
    rw [kd, cut]
    dsimp only
    unfold isInstance
    refine wpAny_bind (wpAny_bind (L0.at (Ls.at ?_)))
    exact rest'
private theorem class_attr_E {Q : Option Value → Shared → Prop} (hga : findIn K (.ref D) "__getattribute__" = some (some (.builtin "BaseException.__getattribute__"))) (hgn : findIn K (.ref D) "__getattr__" = some none)
    (ha : findIn K (.ref D) "__class__" = some (some (.builtin "object.__class__")))
    (hn : specialIn K (.builtin "object.__class__") "__get__" = some (some (.builtin "getset_descriptor.__get__"))) (htk : takesIn K (.builtin "object.__class__") = some true) (hm : mroIn K D (.type "object") = some true) (hm2 : mroIn K D (.type "BaseException") = some true)
    (X : K.In s.heap) (L0 : Looks (model prog w) s.heap (typeOf (.ref x)) (.ref D)) (h : Q (some (.ref D)) { s with toks := s.toks + 1 }) : wpAny (model prog w) A (getAttr? (.ref x) "__class__") Q E s := by
  obtain ⟨hh, g, d, t, os⟩ := s
  have Lg := looks_findIn (M := model prog w) X hga
  have L2 := find_L (M := model prog w) (x := x) X ha hn htk
  have L3 := looks_findIn (M := model prog w) X hgn
  unfold getAttr?; unfold getAttrBy?; unfold getAttrBy
  refine wpAny_bind (wpAny_mkText (wpAny_bind (wpAny_attempt (wpAny_holding (wpAny_bind (L0.at (wpAny_bind (Lg.at ?_))))))))
  show wpAny _ _ (getAttrByItsOwn (.ref x) (.str "__class__" t) (.ref D) (.builtin "BaseException.__getattribute__") false false) _ _ _
  unfold getAttrByItsOwn
  refine wpAny_bind ?_
  show wpAny _ _ (typeLookup (.ref D) "__getattr__") _ _ _
  refine L3.at (wpAny_bind (wpAny_attempt (wpAny_holding ?_)))
  show wpAny _ _ (bindSpecial (.builtin "BaseException.__getattribute__") (.ref x) >>= _) _ _ _
  refine wpAny_bind (wpAny_of_eq (F.excAttr_ValueError.ga.bind _) ?_)
  refine wpAny_call (codeAny_call_builtin F.excAttr_ValueError.ga.plain F.entry_bexc_ga (bexc_check X L0 hm2 (F.args_bexc_ga _ _) ?_))
  unfold «object.__getattribute__»
  refine wpAny_bind (wpAny_of_eq (show slotArgs "__getattribute__" 1 ⟨[.ref x] ++ [.str "__class__" t], []⟩ = pure (.ref x, [.str "__class__" t]) from rfl) ?_)
  refine wpAny_bind (wpAny_of_eq (show attrName (.str "__class__" t) = pure ("__class__" : Str) from rfl) (wpAny_bind (L0.at (wpAny_bind (L2.at ?_)))))
  show wpAny _ _ (holding [Value.builtin "object.__class__"] (call (.builtin "getset_descriptor.__get__") [.builtin "object.__class__", .ref x, .ref D]) >>= ret) _ _ _
  refine wpAny_bind (wpAny_holding (wpAny_call (class_L (s := ⟨hh, g, d, t + 1, os⟩) X L0 hm ?_)))
  refine wpAny_pure ?_
  exact handed_on rfl (wpAny_pure h)
end
noncomputable def HasCls (x D : Addr) (h : Heap) : Prop := ∃ o, h.get? x = some o ∧ o.cls = .ref D
private theorem HasCls.ty {x D : Addr} {M : Model} {h : Heap} (p : HasCls x D h) : Looks M h (typeOf (.ref x)) (.ref D) := by
  obtain ⟨o, ho, hc⟩ := p
  rw [← hc]
  exact (Looks.ld ho).andThen .now
private theorem kitx_exc {K : Frag} {x D : Addr} (hc : (clsIn K D).isSome = true) (hga : findIn K (.ref D) "__getattribute__" = some (some (.builtin "BaseException.__getattribute__"))) (hgn : findIn K (.ref D) "__getattr__" = some none) (ha : findIn K (.ref D) "__class__" = some (some (.builtin "object.__class__")))
    (hn : specialIn K (.builtin "object.__class__") "__get__" = some (some (.builtin "getset_descriptor.__get__"))) (htk : takesIn K (.builtin "object.__class__") = some true) (hm : mroIn K D (.type "object") = some true) (hm2 : mroIn K D (.type "BaseException") = some true) :
    KitX K (.ref x) (.ref D) (HasCls x D) where
  ty := fun _ _ _ p => p.ty
  it := fun _ _ X _ => by
    obtain ⟨cdD, hcD⟩ := Option.isSome_iff_exists.mp hc
    unfold clsIn at hcD
    split at hcD
    · rename_i c' d' cd' sl' ho
      intro A' Q' E' s' k q
      unfold isType loadHead
      exact wpAny_bind (wpAny_loadPart (k _ _ (X D _ ho)) (wpAny_pure q))
    · cases hcD
  ne := fun _ tp dd its n sl X ht => by
    obtain ⟨cdD, hcD⟩ := Option.isSome_iff_exists.mp hc
    rw [Bool.eq_false_iff]
    intro q
    cases Value.ref.inj (beq_iff_eq.mp q)
    unfold clsIn at hcD
    split at hcD
    · rename_i ho
      cases (X _ _ ho).symm.trans ht
    · cases hcD
  ca := fun X p k => class_attr_E hga hgn ha hn htk hm hm2 X p.ty k
end Mi
namespace Mi
open PySem PySem.Spec PyProof.Rows L2
noncomputable def excKit (K : PySem.W.Frag) (C : Addr) : Bool := (PySem.W.clsIn K C).isSome && (PySem.W.findIn K (.ref C) "__getattribute__" == some (some (.builtin "BaseException.__getattribute__"))) && (PySem.W.findIn K (.ref C) "__getattr__" == some none) && (PySem.W.findIn K (.ref C) "__class__" == some (some (.builtin "object.__class__"))) &&
  (PySem.W.specialIn K (.builtin "object.__class__") "__get__" == some (some (.builtin "getset_descriptor.__get__"))) && (PySem.W.takesIn K (.builtin "object.__class__") == some true) && (PySem.W.mroIn K C (.type "object") == some true) && (PySem.W.mroIn K C (.type "BaseException") == some true)
section
variable {X : Cx} {pins : List (Addr × Obj)} {σ : St} {H : Hp} {s : Shared} {A : Around} {E : Value → Shared → Prop} {Q : Value → Shared → Prop} {c : Value} {b : Bool} {ea C : Addr}
private theorem is_exc {oe : Obj} {uo : HO} (I : Inv X pins σ H s) (e : H ea = some (.frz oe uo)) (hoe : oe.cls = .ref C) (k : excKit X.K C = true) (q : PySem.W.kitOne X.K (.ref C) c = some b) (h : ∀ tk, Q (.bool b) { s with toks := tk }) :
    wpAny (model X.prog X.w) A (call (.builtin "isinstance") [.ref ea, c]) Q E s := by
  have p : HasCls ea C s.heap := ⟨oe, (show ObjOk X.prog X.w H s.heap ea (.frz oe uo) from I.hok ea _ e).1, hoe⟩
  unfold excKit at k
  simp only [Bool.and_eq_true, beq_iff_eq] at k
  obtain ⟨⟨⟨⟨⟨⟨⟨k1, k2⟩, k22⟩, k3⟩, k4⟩, k5⟩, k6⟩, k7⟩ := k
  exact PySem.W.kia_one (kitx_exc k1 k2 k22 k3 k4 k5 k6 k7) I.kIn p q (fun z => nomatch z) h
private theorem is_non (I : Inv X pins σ H s) (q : PySem.W.kitOne X.K (.type "NoneType") c = some b) (h : ∀ tk, Q (.bool b) { s with toks := tk }) : wpAny (model X.prog X.w) A (call (.builtin "isinstance") [.none, c]) Q E s :=
  isinst_ok I (x := .non) rfl .non q h
end
end Mi
namespace Mi
open PySem PySem.Spec PyProof.Rows L2
noncomputable def cxL (P : Program) (w : World) (K : PySem.W.Frag) (mg : Str → Option Value) (base : Heap) (N : List Str) (qual : Str) (scope : Scope) (f : Addr) (cd : Value) (cl : List (Str × Addr)) (A : Around) (outer : List Env) (s : Shared) (H : Hp) (E : XK) : Cx where
  prog := P
  w := w
  K := K
  mg := mg
  base := base
  A := A.deeper (PySem.W.envX qual scope s.heap.objs.size f cd cl)
  N := N
  s0 := s
  H0 := H
  env := PySem.W.envX qual scope s.heap.objs.size f cd cl
  outer := outer
  stack := PySem.W.envX qual scope s.heap.objs.size f cd cl :: outer
  ex := []
  calm := true
  fn := fun _ => false
  pn := []
  xe := fun e s' => wpAny (model P w) (A.deeper (PySem.W.envX qual scope s.heap.objs.size f cd cl)) (leaving (PySem.W.envX qual scope s.heap.objs.size f cd cl) e) (fun _ s'' => CXe P w outer H s E e s'') (fun e' s'' => CXe P w outer H s E e' s'') s'
section
variable {P : Program} {w : World} {K : PySem.W.Frag} {mg : Str → Option Value} {base : Heap} {N : List Str} {qual : Str} {scope : Scope} {f : Addr} {cd : Value} {cl : List (Str × Addr)} {A : Around} {outer : List Env} {s : Shared} {H : Hp} {E : XK}
private theorem xl_leaves {pins : List (Addr × Obj)} {σ : St} {H' : Hp} {s' : Shared} {ea C : Addr} (I : Inv (cxL P w K mg base N qual scope f cd cl A outer s H E) pins σ H' s') (x : ExcLy H' s'.heap s.heap ea (.ref C)) (hE : E (.ref C) none H') :
    (cxL P w K mg base N qual scope f cd cl A outer s H E).xe (.ref ea) s' := by
  have bs : Un (frs outer) [] H H' s.heap s'.heap := I.base
  have stk : ∀ b ∈ frs (PySem.W.envX qual scope s.heap.objs.size f cd cl :: outer), H' b = none := I.stkFree
  have hL : s.heap.get? s.heap.objs.size = none := Heap.get?_none_of_le (Nat.le_refl _)
  have hfe : (PySem.W.envX qual scope s.heap.objs.size f cd cl).frame = some s.heap.objs.size := rfl
  have mem : ∀ b, b ∈ frs (PySem.W.envX qual scope s.heap.objs.size f cd cl :: outer) ↔ b = s.heap.objs.size ∨ b ∈ frs outer := fun b => by
    unfold frs
    rw [List.filterMap_cons, hfe]
    exact List.mem_cons
  show wpAny (model P w) (A.deeper (PySem.W.envX qual scope s.heap.objs.size f cd cl)) (leaving (PySem.W.envX qual scope s.heap.objs.size f cd cl) (.ref ea)) _ _ s'
  refine leaves (base := base) (L := s.heap.objs.size) I.ok.frames rfl I.stack x (fun b u e => (I.hok b u e).obj) (fun b o e => bs.there b o e (by simp)) fun h' k1 k2 x' tr' => ?_
  have nfr : ∀ b u, H' b = some u → b ∉ frs (PySem.W.envX qual scope s.heap.objs.size f cd cl :: outer) := fun b u e hm => by (first | exact PyNso (stk b hm) e | exact PyNso e (stk b hm) | cases PySos (stk b hm) e | (rw [stk b hm] at e; cases e))
  refine ⟨ea, C, H', rfl, I.os, I.bare, ⟨fun b o e n nb _ => ?_, fun b o e n mb _ => ?_, fun b o e n hx => bs.free b o e n hx, fun b o e hx => ?_, bs.tups, bs.frzs, bs.tbls⟩, fun b u e => ?_, x', tr', hE⟩
  · have nL : b ≠ s.heap.objs.size := fun z => by (first | exact PyNso (hL) (z ▸ e) | (rw [z, hL] at e; cases e))
    exact k1 b o (bs.keep b o e n nb (by simp)) (fun hm => (mem b).mp hm |>.elim nL nb) (.inl ⟨o, e⟩)
  · obtain ⟨sl, q⟩ := bs.slot b o e n mb (by simp)
    obtain ⟨sl', q'⟩ := k2 b _ q ((mem b).mpr (.inr mb))
    exact ⟨sl', q'⟩
  · obtain ⟨o', q⟩ := bs.there b o e hx
    by_cases hm : b ∈ frs (PySem.W.envX qual scope s.heap.objs.size f cd cl :: outer)
    · obtain ⟨sl, z⟩ := k2 b o' q hm; exact ⟨_, z⟩
    · exact ⟨o', k1 b o' q hm (.inl ⟨o, e⟩)⟩
  · refine (I.hok b u e).stay (fun c v hc q => ?_) (fun _ q => q) fun _ _ q => q
    rcases hc with z | z
    · rw [z] at q ⊢; exact k1 b v q (nfr b u e) (.inr ⟨u, e⟩)
    · exact k1 c v q (nfr c _ z) (.inr ⟨_, z⟩)
private theorem xeOkL : XeOk (cxL P w K mg base N qual scope f cd cl A outer s H E) s.heap (XE1 K E) where
  th := fun pins σ H' s' I b o e => (show Un (frs outer) [] H H' s.heap s'.heap from I.base).there b o e (by simp)
  out := fun pins σ H' s' ea C x I ly c hx => xl_leaves I ly (hx C c)
structure LamScope (N : List Str) (sc : Scope) : Prop where
  kind : sc.kind = .function
  co : sc.isCoroutine = false
  gen : sc.isGenerator = false
  nocell : ∀ y ∈ sc.names, y.2 ≠ .cell
structure LamCells (base : Heap) (N : List Str) (scope : Scope) (cl : List (Str × Addr)) (vs : List V) : Prop where
  len : vs.length = N.length
  inj : ∀ x y c, cl.lookup x = some c → cl.lookup y = some c → x = y
  has : ∀ x, scope.names.lookup x = some .free → ∃ c, cl.lookup x = some c
  cell : ∀ x c, cl.lookup x = some c → ∃ v, base.IsCell c v
  val : ∀ (i : Nat) (x : Str) (v : V), N[i]? = some x → vs[i]? = some v → ∃ c u, scope.names.lookup x = some .free ∧ cl.lookup x = some c ∧ base.IsCell c (some u) ∧ RelV v u
private theorem inv_lam {vs : List V} {h1 : Heap} {tk : Tok} (S : LamScope N scope) (hd : A.handled = none) (e0 : Env0 P w K mg base A outer s H) (C : LamCells base N scope cl vs) (hns : ∃ m, h1.Ns s.heap.objs.size m) (hk : ∀ b o, s.heap.get? b = some o → h1.get? b = some o) :
    Inv (cxL P w K mg base N qual scope f cd cl A outer s H E) [] (L2.start N vs) H { s with heap := h1, toks := tk } := by
  have noA : ∀ b : Addr, b ∉ (cxL P w K mg base N qual scope f cd cl A outer s H E).ex := fun b z => absurd (show b ∈ ([] : List Addr) from z) (by simp)
  have bk : ∀ c v, base.IsCell c v → h1.IsCell c v ∧ H c = none := fun c v ⟨o, ho, hd⟩ => ⟨⟨o, hk _ _ (e0.bs _ _ ho).1, hd⟩, (e0.bs _ _ ho).2⟩
  obtain ⟨m, hm⟩ := hns
  refine ⟨⟨e0.mod, S.kind, rfl, rfl, Nat.le_refl _, C.inj, fun y hy => ?_, fun y c z _ => (nomatch z), fun _ => hd, Around.frames_deeper e0.frames, .inr ⟨rfl, rfl⟩, fun b z => absurd z (noA b), e0.bs, e0.bsz, fun b _ _ => noA b, fun b z => absurd z (noA b), e0.funs, e0.frf⟩,
    rfl, e0.bare, Un.kept hk, ⟨m, hm, fun i y v h1 h2 h3 => ?_⟩, fun y c h => ?_, e0.hok.fresh (Nat.le_refl _), fun y c h => ?_, fun p hp => absurd (show p ∈ ([] : List (Addr × Obj)) from hp) (by simp), e0.hok.kept hk, ?_⟩
  · have hy : scope.names.lookup y = some .cell ∨ scope.names.lookup y = some .free := hy
    rcases hy with hy | hy
    · exact absurd rfl (S.nocell _ (PySem.mem_of_lookup hy))
    · exact C.has y hy
  · have hi : i < vs.length := by
      unfold L2.start at h2
      by_cases hi : i < vs.length
      · exact hi
      · rw [List.getElem?_append_right (by simpa using hi)] at h2
        rw [List.getElem?_replicate] at h2
        split at h2 <;> cases h2
    have ha : vs[i]? = some v := by
      unfold L2.start at h2
      rw [List.getElem?_append_left (by simpa using hi), List.getElem?_map] at h2
      revert h2; cases e : vs[i]? with
      | none => intro h2; cases h2
      | some a => intro h2; cases h2; rfl
    obtain ⟨c, u, k, e, z, r⟩ := C.val i y v h1 ha
    exact ⟨u, r, .inr ⟨.inr k, c, e, (bk _ _ z).1⟩⟩
  · obtain ⟨v, z⟩ := C.cell y c h
    exact ⟨v, (bk _ _ z).1⟩
  · obtain ⟨v, z⟩ := C.cell y c h
    exact (bk _ _ z).2
  · unfold L2.start
    show _ = N.length
    rw [List.length_append, List.length_map, List.length_replicate, C.len]
    omega
noncomputable def CodeOb (oc : Obj) (q : Str) : Prop := ∃ vs t, oc.data = .fields vs ∧ vs[1]? = some (.str q t)
private theorem fn_lam {k : Nat} {name : Str} {params : Arguments} {body : Expr} {pm ctv : Value} {a c : Addr} {oc : Obj} {u uc : HO} {vs : List V} {m : Ev} (S : LamScope N scope) (C : LamCells base N scope cl vs) (hoc : CodeOb oc qual)
    (hbody : ∀ (A : Around) (outer : List Env) (s : Shared) (H : Hp) (E : XK), Room k (A.deeper (PySem.W.envX qual scope s.heap.objs.size a (.ref c) cl)) → XeOk (cxL P w K mg base N qual scope a (.ref c) cl A outer s H E) s.heap (XE1 K E) →
      SE (cxL P w K mg base N qual scope a (.ref c) cl A outer s H E) (XE1 K E) body m) :
    FnOk P w K mg base (CXe P w) (k + 1) a (PySem.W.kla_fn name qual params body scope cl pm (.ref c) ctv) [] (fun us H Q E => us = [] ∧ H a = some (.frz (PySem.W.kla_obj name qual params body scope cl pm c ctv) u) ∧ H c = some (.frz oc uc) ∧
      ∃ φ A ws, Sim K φ A H ∧ RVs K φ H ws vs ∧ (m (ws.map some) A).post (PB K φ H Q) (EB K φ H (XE1 K E))) := by
  refine ⟨fun us H Q E h => by rw [h.1]; rfl, fun A outer s H args us vs' Q E hr e0 hb r h => ?_⟩
  obtain ⟨rfl, h1, h2, φ, A1, ws, Sm, rv, hp⟩ := h
  cases r
  have ho : s.heap.get? a = some (PySem.W.kla_obj name qual params body scope cl pm c ctv) := (show ObjOk P w H s.heap a (.frz _ u) from e0.hok a _ h1).1
  have hc : s.heap.get? c = some oc := (show ObjOk P w H s.heap c (.frz oc uc) from e0.hok c _ h2).1
  have lim : s.heap.NoLimit := e0.mod.nolimit.keeps fun b o e => (e0.bs b o e).1
  obtain ⟨vc, tc, hd1, hd2⟩ := hoc
  refine PySem.W.kla_callFunE hr.depth ho rfl S.co S.gen rfl ⟨c, oc, vc, tc, rfl, hc, hd1, hd2⟩ (hb _ _ _ _ ?_)
  refine wpAny_newFunctionEnv S.nocell (fun y hy => absurd (show y ∈ ([] : List (Str × Value)) from hy) (by simp)) (fun h₁ hns hsb => ⟨lim.fresh _ hsb, ?_⟩) S.kind
  show codeAny _ _ (.expr body (PySem.W.envX qual scope s.heap.objs.size a (.ref c) cl)) _ _
  have hk₁ : ∀ b o, s.heap.get? b = some o → h₁.get? b = some o := fun b o e => hsb.extBut b o (Nat.ne_of_lt (Heap.lt_size e)) (Heap.get?_push_of_some _ e)
  have I : ∀ tk, Inv (cxL P w K mg base N qual scope a (.ref c) cl A outer s H E) [] (L2.start N vs) H { s with heap := h₁, toks := tk } := fun tk => inv_lam S hr.hd e0 C ⟨_, hns⟩ hk₁
  refine PySem.W.kla_codeExpr (wpAny_mono (hbody A outer s H E (hr.deeper _) xeOkL [] _ (L2.start N vs) H Q (I _) ⟨φ, A1, _, Sm, RE.start (N := N) rv, ?_⟩) (fun v s' hv => ?_) fun _ _ y => y)
  · have : N.length - ws.length = 0 := by rw [rv.length, C.len]; omega
    rw [this, List.replicate_zero, List.append_nil]
    exact hp
  · obtain ⟨x, H', J, rx, q⟩ := hv
    exact ⟨x, H', J.os, J.bare, J.base, J.hok, rx, q⟩
end
end Mi
namespace Mi
open PySem PySem.Spec PyProof.Rows L2
inductive spLam (K : PySem.W.Frag) (a : Addr) (ob : Obj) (u : HO) (c : Addr) (oc : Obj) (uc : HO) (vs : List V) (g : Fn) (us : List V) (H : Hp) (Q : VK) (E : XK) : Prop
  | mk (e : us = []) (h1 : H a = some (.frz ob u)) (h2 : H c = some (.frz oc uc)) (φ : List Addr) (A : Hx) (ws : List W) (S : Sim K φ A H) (r : RVs K φ H ws vs) (q : (g ws A).post (PB K φ H Q) (EB K φ H (XE1 K E)))
noncomputable def LamOk (P : Program) (w : World) (K : PySem.W.Frag) (mg : Str → Option Value) (base : Heap) (j : Nat) (Pk : Obj → Addr → Obj → List V → Prop) (g : Fn) : Prop :=
  ∀ a ob u c oc uc vs, Pk ob c oc vs → (∃ fd, ob.data = .func fd) ∧ ∃ fd, FnOk P w K mg base (CXe P w) j a fd [] (spLam K a ob u c oc uc vs g) ∧ ∀ s, BindsTo s fd ⟨[], []⟩ []
open Classical in
noncomputable def mClo (i : Nat) (PG : Nat → Obj → Addr → Obj → List V → Prop) (lam : Nat → Fn) : Ev := fun ρ A => match ρ[i]? with
  | some (some (.clo k ws P)) => if P = PG k then lam k ws A else .bad
  | _ => .bad
noncomputable def xTry (i j l : Nat) (cs : List Str) (PG : Nat → Obj → Addr → Obj → List V → Prop) (lam : Nat → Fn) : Ex := fun ρ A => match mClo i PG lam ρ A with
  | .ok _ A1 => .ok (.nx ρ) A1
  | .exc x A1 => if cs.contains x then .ok (.nx (((ρ.set l (some (.xc x))).set j (some (.xc x))).set l none)) A1 else .bad
  | .bad => .bad
section
variable {K : PySem.W.Frag} {φ : List Addr} {H : Hp} {ρ : En} {σ : St}
private theorem RE.unset {i : Nat} (r : RE K φ H ρ σ) : RE K φ H (ρ.set i none) (σ.set i none) :=
  ⟨by simp [r.len], fun j u e => by
    by_cases h : i = j
    · subst h
      have hi : i < ρ.length := by
        have := (List.getElem?_eq_some_iff.mp e).1
        simpa using this
      (first | exact PyNso (List.getElem?_set_self hi) e | exact PyNso e (List.getElem?_set_self hi) | cases PySos (List.getElem?_set_self hi) e | (rw [List.getElem?_set_self hi] at e; cases e))
    · rw [List.getElem?_set_ne h] at e
      obtain ⟨x, h1, h2⟩ := r.get j u e
      exact ⟨x, by (first | exact ((List.getElem?_set_ne h).trans (h1)) | (rw [List.getElem?_set_ne h]; exact h1)), h2⟩⟩
end
noncomputable def TryN (K : PySem.W.Frag) (φ : List Addr) (H : Hp) (ρ : En) (j l : Nat) (D0 : Ends) (xn : Str) (A' : Hx) : Prop := ∀ φ2 H2 σ2, Le K φ H φ2 H2 → Sim K φ2 A' H2 → RE K φ2 H2 (((ρ.set l (some (.xc xn))).set j (some (.xc xn))).set l none) σ2 → D0.nx σ2 H2
inductive TryK (K : PySem.W.Frag) (φ : List Addr) (H : Hp) (ρ : En) (j l : Nat) (D0 : Ends) (ea C : Addr) (H' : Hp) : Prop
  | mk (xn : Str) (φ' : List Addr) (A' : Hx) (le : Le K φ H φ' H') (S : Sim K φ' A' H') (rv : RV K φ' H' (.xc xn) (.ref ea)) (n : TryN K φ H ρ j l D0 xn A')
inductive TryE (K : PySem.W.Frag) (φ : List Addr) (H : Hp) (ρ : En) (j l : Nat) (D0 : Ends) (cs : List Str) (Cv : Value) (d : Option Addr) (H1 : Hp) : Prop
  | mk (xn : Str) (Ca : Addr) (e : Cv = .ref Ca) (hC : ClsOf K xn (.ref Ca)) (hc : cs.contains xn = true) (φ1 : List Addr) (A1 : Hx) (le : Le K φ H φ1 H1) (S : Sim K φ1 A1 H1) (n : TryN K φ H ρ j l D0 xn A1)
section
variable {X : Cx} {xr : XR} {L D : Addr} {i j l kk : Nat} {x n y xD : Str} {cs : List Str} {PG : Nat → Obj → Addr → Obj → List V → Prop} {lam : Nat → Fn} {bmD : List Value} {newD : String} {np cp ep dp yp np2 ap hp pos : Pos}
private theorem ss_try (hL : ∀ k, LamOk X.prog X.w X.K X.mg X.base kk (PG k) (lam k)) (hr : Room kk X.A) (hst : X.stack = X.env :: X.outer) (hFr : X.env.frame = some L) (hD : ClsOf X.K xD (.ref D)) (exD : Mi.excB X.K D bmD newD = true) (hbD : bmD.contains (.type "BaseException") = true)
    (hcs : ∀ c, cs.contains c = true → ∀ C, ClsOf X.K c (.ref C) → ∃ bmC newC, Mi.excB X.K C bmC newC = true ∧ upIn X.K C D = true)
    (hN : X.N.Nodup) (hi : X.N[i]? = some x) (hx : X.env.scope.names.lookup x = some .local) (hl : X.N[l]? = some n) (hn : X.env.scope.names.lookup n = some .local) (hj : X.N[j]? = some y) (hy : X.env.scope.names.lookup y = some .local)
    (hg : Gl X xD) (hs1 : autoParam (swapsWith (.Call (.Name x np) [] [] cp) none ep.line X.env = pure false) PyProof.Rows.call_M_of_MD._auto_3) (hs2 : autoParam (swapsWith (.Name n np2) (some (.Name y yp)) ap.line X.env = pure false) PyProof.Rows.call_M_of_MD._auto_3)
    (hdx : autoParam ((x == ("__debug__" : Str)) = false) PyProof.Rows.glB_def._auto_7) (hdn : autoParam ((n == ("__debug__" : Str)) = false) PyProof.Rows.glB_def._auto_7) (hdD : autoParam ((xD == ("__debug__" : Str)) = false) PyProof.Rows.glB_def._auto_7) :
    SS X xr (.Try [.Expr (.Call (.Name x np) [] [] cp) ep] [.ExceptHandler (some (.Name xD dp)) (some n) [.Assign [.Name y yp] (.Name n np2) ap] hp] [] [] pos) (xTry i j l cs PG lam) := by
  intro pins s σ H D0 I ⟨φ, A, ρ, S, re, h⟩
  unfold xTry mClo at h
  cases ei : ρ[i]? with
  | none => rw [ei] at h; exact h.elim
  | some ow =>
    cases ow with
    | none => rw [ei] at h; exact h.elim
    | some w =>
      rw [ei] at h
      cases w with
      | clo k ws P =>
        dsimp only at h
        by_cases hP : P = PG k
        · rw [if_pos hP] at h
          subst hP
          obtain ⟨v, hv, a, ob, u, c, oc, uc, vs, rfl, h1, h2, hp', rvs⟩ := re.get i _ ei
          obtain ⟨⟨fd0, hfd⟩, fd, F, hb⟩ := hL k a ob u c oc uc vs hp'
          have ho : s.heap.get? a = some ob := (show ObjOk X.prog X.w H s.heap a (.frz ob u) from I.hok a _ h1).1
          refine try_as (i := l) (L := L) (k := TryK X.K φ H ρ j l D0)
            I hst hFr hD exD hbD hN hl (.inl hn) ?body ?suite hg hdD (.inr hn)
          case body =>
            refine wpAny_execs_cons (wpAny_Expr_any ?_ I.quiet hs1)
            obtain ⟨m, hns, hloc⟩ := I.loc
            obtain ⟨u', r', lk⟩ := hloc i x (.ref a) hi hv (.inl hx)
            obtain rfl : u' = Value.ref a := r'
            have hm : m x = some (.ref a) := by
              rcases lk with ⟨_, e⟩ | ⟨q | q, _⟩
              · exact e
              · (first | exact PyNso (show X.env.kindOf x = some .local from hx) q | exact PyNso q (show X.env.kindOf x = some .local from hx) | cases PySos (show X.env.kindOf x = some .local from hx) q | (rw [show X.env.kindOf x = some .local from hx] at q; cases q))
              · (first | exact PyNso (show X.env.kindOf x = some .local from hx) q | exact PyNso q (show X.env.kindOf x = some .local from hx) | cases PySos (show X.env.kindOf x = some .local from hx) q | (rw [show X.env.kindOf x = some .local from hx] at q; cases q))
            refine wpAny_Call_Name_kw (wpAny_Name (wpAny_loadName_local I.ok.kind hx hns hm ?_) hdx)
            have hK : PySem.W.Frag.In [(a, ob)] s.heap := fun b o e => by
              rw [List.lookup_cons] at e
              by_cases hb : b = a
              · subst hb; simp at e; subst e; exact ho
              · have : (b == a) = false := by simpa using hb
                (first | exact PyNso (this) e | exact PyNso e (this) | cases PySos (this) e | (rw [this] at e; cases e))
            have hkp : PySem.W.keepIn [(a, ob)] (.ref a) = true := by
              unfold PySem.W.keepIn
              obtain ⟨o1, o2, o3, o4⟩ := ob
              cases (show o3 = _ from hfd)
              simp [List.lookup_cons]
            refine PySem.W.callWith_K0 (K := [(a, ob)]) (first := []) hK hkp ?_
            refine wpAny_call (codeAny_mono (F.run X.A X.stack s H ⟨[], []⟩ [] [] (fun _ H1 => D0.nx σ H1)
              (TryE X.K φ H ρ j l D0 cs)
              hr I.env0 (hb s) .nil ⟨rfl, h1, h2, φ, A, ws, S, rvs, ?_⟩) fun r s' hq => ?_)
            · revert h; cases er : lam k ws A with
              | ok w1 A1 =>
                intro h
                exact fun φ' H' v' l' S' _ => h φ' H' σ l' S' (re.mono l')
              | exc xn A1 =>
                intro h
                dsimp only at h
                by_cases hc : cs.contains xn = true
                · rw [if_pos hc] at h
                  exact fun φ' H' l' S' Ca hCa => ⟨xn, Ca, rfl, hCa, hc, φ', A1, l', S', h⟩
                · rw [if_neg hc] at h; exact h.elim
              | bad => intro h; exact h.elim
            · cases r with
              | error e =>
                unfold CR at hq
                dsimp only at hq
                have un : ∀ b o, s.heap.get? b = some o → ∃ o', s'.heap.get? b = some o' := by
                  obtain ⟨_, _, _, _, _, _, un, _⟩ := hq
                  exact fun b o e => un.there b o e (by simp)
                obtain ⟨ea, C, H', rfl, I', ly, tr, xn, Ca, ec, hCa, hc, φ1, A1, l1, S1, hn1⟩ := after_exc I hq s.heap fun b o e => ⟨o, e⟩
                cases ec
                obtain ⟨bmC, newC, exC, up⟩ := hcs xn hc C hCa
                exact ⟨ea, C, H', bmC, newC, rfl, I', ly, tr, un, exC, up, fun oe hoe nea => ⟨xn, φ1, A1, l1.trans (Le.new nea), S1.lay nea, ⟨ea, oe, .own 0, C, rfl, upd_same, hoe, hCa⟩, hn1⟩⟩
              | ok fl =>
                cases fl with
                | ret u1 =>
                  obtain ⟨v1, H1, I1, _, q1⟩ := I.after hq
                  exact wpAny_execs_nil ⟨rfl, σ, H1, I1, q1⟩
                | next => exact False.elim hq
                | brk => exact False.elim hq
                | cont => exact False.elim hq
          case suite =>
            rintro ea C H2 s2 I2 ⟨xn, φ', A', l', S', rx, hn'⟩ E'
            refine suite_keep (i := l) (j := j) I2 hN hl hj hn (.inl hy) (fun s' I' => ?_) hs2 (.inr hy) hdn
            exact ⟨_, H2, I', hn' φ' H2 _ l' S' ((((re.mono l').set rx).set rx).unset)⟩
        · rw [if_neg hP] at h; exact h.elim
      | _ => exact h.elim
end
end Mi
namespace Mi
open PySem PySem.Spec PyProof.Rows L2
noncomputable def rIsX (K : PySem.W.Frag) (f : Str → Option Bool) (cv : V) : List V → Hp → VK → Prop := fun xs H Q => ∃ x, xs = [x, cv] ∧ ((x = .non ∧ Q (.bl false) H) ∨ ∃ a oe uo C nm b, x = .ref a ∧ H a = some (.frz oe uo) ∧ oe.cls = .ref C ∧ ClsOf K nm (.ref C) ∧ f nm = some b ∧ Q (.bl b) H)
structure IsxOk (K : PySem.W.Frag) (f : Str → Option Bool) (c : Value) : Prop where
  non : PySem.W.kitOne K (.type "NoneType") c = some false
  exc : ∀ nm C b, f nm = some b → ClsOf K nm (.ref C) → excKit K C = true ∧ PySem.W.kitOne K (.ref C) c = some b
noncomputable def mIsX (f : Str → Option Bool) (m : Ev) : Ev := fun ρ A => (m ρ A).bind fun w A1 => match w with
  | .non => .ok (.bl false) A1
  | .xc nm => (match f nm with
    | some b => .ok (.bl b) A1
    | none => .bad)
  | _ => .bad
section
variable {X : Cx} {xr : XR} {e : Expr} {m : Ev} {pos p p' : Pos} {f : Str → Option Bool} {x : Str}
private theorem call_isx {cv : V} {c : Value} (hc : IsxOk X.K f c) (rc : ∀ u, RelV cv u → u = c) : CallR X (.builtin "isinstance") (rIsX X.K f cv) := by
  intro pins s σ H xs us Q I r h
  obtain ⟨x, rfl, h⟩ := h
  obtain ⟨u, u', rfl, ru, ru'⟩ := vals2 r
  cases rc _ ru'
  rcases h with ⟨rfl, q⟩ | ⟨a, oe, uo, C, nm, b, rfl, h1, h2, h3, h4, q⟩
  · cases (show u = Value.none from ru)
    exact is_non I hc.non fun tk => ⟨.bl false, H, I.tok tk, rfl, q⟩
  · cases (show u = Value.ref a from ru)
    obtain ⟨k1, k2⟩ := hc.exc nm C b h4 h3
    exact is_exc I h1 h2 k1 k2 fun tk => ⟨.bl b, H, I.tok tk, rfl, q⟩
private theorem mIsX.read {cv : V} {t2 : TE} (h2 : ∀ σ H Q, Q cv H → t2 σ H Q) : ∀ σ H Q, tM X.K xr (mIsX f m) σ H Q → tCB (rIsX X.K f cv) (tCons (tM X.K xr m) (tCons t2 tNil)) σ H Q := by
  rintro σ H Q ⟨φ, A, ρ, S, re, h⟩
  refine tM.go S re (post_bind.mp h) fun w A1 φ1 H1 v h1 l1 S1 q1 => ?_
  refine h2 σ H1 _ ?_
  cases w with
  | non =>
    obtain rfl := q1
    exact ⟨.non, rfl, .inl ⟨rfl, h1 φ1 H1 _ l1 S1 rfl⟩⟩
  | xc nm =>
    dsimp only at h1
    revert h1; cases ef : f nm with
    | none => intro h1; exact h1.elim
    | some b =>
      intro h1
      obtain ⟨a, oe, u, C, rfl, z1, z2, z3⟩ := q1
      exact ⟨.ref a, rfl, .inr ⟨a, oe, u, C, nm, b, rfl, z1, z2, z3, ef, h1 φ1 H1 _ l1 S1 rfl⟩⟩
  | bl _ => exact h1.elim
  | int _ => exact h1.elim
  | str _ => exact h1.elim
  | tup _ => exact h1.elim
  | ref _ => exact h1.elim
  | clo _ _ _ => exact h1.elim
private theorem se_isx {C : Addr} (hx : IsxOk X.K f (.ref C)) (hc : ClsOf X.K x (.ref C)) (hm : X.mg "isinstance" = none) (ha : SE X xr e m) (hg : autoParam (Gl X "isinstance") PyProof.Rows.call_M_of_MD._auto_3) (hg' : autoParam (Gl X x) PyProof.Rows.call_M_of_MD._auto_3) (hd : autoParam ((x == ("__debug__" : Str)) = false) PyProof.Rows.glB_def._auto_7)
    (h1 : autoParam (starEach [e, .Name x p'] X.env = (false, eval e X.env) :: starEach [.Name x p'] X.env) PyProof.Rows.call_M_of_MD._auto_3) (h2 : autoParam ((backTo pos (starEach [.Name x p'] X.env)).any (·.1) = false) PyProof.Rows.call_M_of_MD._auto_3) :
    SE X xr (.Call (.Name "isinstance" p) [e, .Name x p'] [] pos) (mIsX f m) := by
  have hp : PE X (.Name x p') (tC (.ref C)) := fun pins s σ H Q I h => ld_glob I hg' (PySem.W.mg_of I.mod.kin I.mod.glob hc) ⟨.ref C, H, I, rfl, h⟩ hd
  exact PE.imp (pe_callB (call_isx (cv := .ref C) hx fun u r => r) hg hm (by rfl) (pa_cons ha (pa_cons hp pa_nil) h1) (by decide) (by decide) h1 h2) (mIsX.read fun σ H Q h => h)
private theorem se_isxT {T : String} (hx : IsxOk X.K f (.type T)) (hm : X.mg "isinstance" = none) (hm' : X.mg x = none) (hb : bootBuiltins x = some (.type T)) (ha : SE X xr e m) (hg : autoParam (Gl X "isinstance") PyProof.Rows.call_M_of_MD._auto_3) (hg' : autoParam (Gl X x) PyProof.Rows.call_M_of_MD._auto_3) (hn : autoParam (x ≠ "__name__") PyProof.Rows.glB_def._auto_7) (hd : autoParam ((x == ("__debug__" : Str)) = false) PyProof.Rows.glB_def._auto_7)
    (h1 : autoParam (starEach [e, .Name x p'] X.env = (false, eval e X.env) :: starEach [.Name x p'] X.env) PyProof.Rows.call_M_of_MD._auto_3) (h2 : autoParam ((backTo pos (starEach [.Name x p'] X.env)).any (·.1) = false) PyProof.Rows.call_M_of_MD._auto_3) :
    SE X xr (.Call (.Name "isinstance" p) [e, .Name x p'] [] pos) (mIsX f m) :=
  PE.imp (pe_callB (call_isx (cv := .ty T) hx fun u r => r) hg hm (by rfl) (pa_cons ha (pa_cons (pe_bltn hg' hm' hb (v := .ty T) rfl hn hd) pa_nil) h1) (by decide) (by decide) h1 h2) (mIsX.read fun σ H Q h => h)
end
end Mi
namespace Mi
open PySem PySem.Spec PyProof.Rows L2
private theorem codeAmong_app {pos : Pos} {a b : Int} {c cv : Value} (l : List Value) (h : TriplesOk l) (e : codeAmong pos (l ++ [rawInt a, rawInt b, c]) = some cv) : codeAmong pos l = some cv ∨ cv = c := by
  fun_induction TriplesOk l with
  | case1 =>
    right
    simp only [List.nil_append, codeAmong, rawInt] at e
    split at e
    · exact (Option.some.inj e).symm
    · cases e
  | case2 a' t b' u x rest ih =>
    simp only [List.cons_append, codeAmong] at e ⊢
    split at e
    · rename_i hc; (first | exact ((if_pos hc).trans (.inl e)) | (rw [if_pos hc]; exact .inl e))
    · rename_i hc; (first | exact ((if_neg hc).trans (ih h e)) | (rw [if_neg hc]; exact ih h e))
  | case3 l h1 h2 => exact h.elim
noncomputable def BMain (mg : Str → Option Value) (base : Heap) : Prop := ∃ bm o, mg "__builtins__" = some (.ref bm) ∧ bm ≠ builtinsNs ∧ bm ≠ mainGlobals ∧ base.get? bm = some o ∧ o.cls = .type "module" ∧ o.dict = some builtinsNs ∧ o.data = .plain
noncomputable def PLam (q : Str) (params : Arguments) (body : Expr) (scope : Scope) (clos : List (Str × Addr)) : Obj → Addr → Obj → List V → Prop := fun ob c oc _ => (∃ pm ctv, ob = PySem.W.kla_obj "<lambda>" q params body scope clos pm c ctv) ∧ CodeOb oc q
noncomputable def mLam (n : Nat) (q : Str) (P : Addr) (k : Nat) (PF : Obj → Addr → Obj → List V → Prop) : Ev := fun _ A => match A[n]? with
  | some (.tab q' P') => if q' = q ∧ P' = P then .ok (.clo k [] PF) A else .bad
  | _ => .bad
section
variable {X : Cx} {xr : XR} {n k : Nat} {q : Str} {P c : Addr} {params : Arguments} {body : Expr} {scope : Scope} {clos : List (Str × Addr)} {pos : Pos}
private theorem se_lam (hB : BMain X.mg X.base) (hcode : X.env.code = .ref c) (C : PySem.W.CodeHd X.base c P) (hcl : closureFor scope X.env = pure clos) (hq : X.env.qual ++ "<lambda>" = q) (hdef : autoParam (defaultsOf params X.env = ([], [])) PyProof.Rows.call_M_of_MD._auto_3) :
    SE X xr (.Lambda params body scope pos) (mLam n q P k (PLam q params body scope clos)) := by
  intro pins s σ H Q I ⟨φ, A, ρ, S, re, h⟩
  unfold mLam at h
  revert h; cases ei : A[n]? with
  | none => intro h; exact h.elim
  | some o =>
    intro h
    cases o with
    | tab q' P' =>
      dsimp only at h
      by_cases hc : q' = q ∧ P' = P
      · rw [if_pos hc] at h
        obtain ⟨rfl, rfl⟩ := hc
        obtain ⟨a, ha, eaP, ps, hH, tg⟩ := S.ob n _ ei
        subst eaP
        have hP : s.heap.get? a = some (PySem.W.tabObj ps) := (show ObjOk X.prog X.w H s.heap a (.tbl ps) from I.hok a _ hH)
        have hg : s.heap.Ns mainGlobals X.mg := I.mod.glob.keeps I.bk
        have hgP : mainGlobals ≠ a := fun z => by
          obtain ⟨o, es, ep, e, hd, _⟩ := hg
          (first | exact PyNso (hP) (z ▸ e) | (rw [z, hP] at e; cases e)); cases hd
        have hb : s.heap.BuiltinsAt X.mg a := by
          obtain ⟨bm, o, b1, b2, b3, b4, b5⟩ := hB
          refine ⟨bm, o, b1, b2, b3, fun z => ?_, I.bk _ _ b4, b5⟩
          have := (I.bs _ _ b4).2
          (first | exact PyNso (hH) (z ▸ this) | (rw [z, hH] at this; cases this))
        refine PySem.W.kla_eval hdef ?_
        rw [hq]
        have noA : ∀ b, s.heap.objs.size ≤ b → H b = none := fun b hb => I.hok.fresh hb
        cases hf : codeAmong pos ps.toList with
        | none =>
          refine PySem.W.kla_makeFunction (mg := X.mg) hcl I.ok.glob hg hcode (C.keeps I.bk) hP tg.1 hf hgP hb fun c' ctv h' tk hx hge hlt hrec htb => ?_
          obtain ⟨c2, oc, vc, tc, ec, hoc, hd1, hd2⟩ := hrec
          cases ec
          generalize hob : PySem.W.kla_obj "<lambda>" q' params body scope clos ((X.mg "__name__").getD .none) c' ctv = ob
          have hPc : a < s.heap.objs.size := Heap.lt_size hP
          have nPc : a ≠ c' := Nat.ne_of_lt (Nat.lt_of_lt_of_le hPc hge)
          have nPf : a ≠ h'.objs.size := Nat.ne_of_lt (Nat.lt_trans (Nat.lt_of_lt_of_le hPc hge) hlt)
          have ncf : c' ≠ h'.objs.size := Nat.ne_of_lt hlt
          have hsf : s.heap.objs.size ≤ h'.objs.size := Nat.le_trans hge (Nat.le_of_lt hlt)
          have H0c : H c' = none := noA c' hge
          have H0f : H h'.objs.size = none := noA _ hsf
          have H1f : upd H c' (.frz oc (.own 0)) h'.objs.size = none := by (first | exact ((upd_ne (Ne.symm ncf)).trans (H0f)) | (rw [upd_ne (Ne.symm ncf)]; exact H0f))
          generalize hps : ps ++ #[rawInt pos.line, rawInt pos.col, .ref c'] = ps' at htb
          have S1 := S.lay (u := .frz oc (.own 0)) H0c
          have S2 := S1.lay (u := .frz ob (.own 0)) H1f
          have fz : ∀ b o u, upd (upd H c' (.frz oc (.own 0))) h'.objs.size (.frz ob (.own 0)) b = some (.frz o u) → upd (upd (upd H c' (.frz oc (.own 0))) h'.objs.size (.frz ob (.own 0))) a (.tbl ps') b = some (.frz o u) := fun b o u e => by
            (first | exact ((upd_ne).trans (e)) | (rw [upd_ne]; exact e))
            intro z
            rw [z, upd_ne nPf, upd_ne nPc, hH] at e
            cases e
          have fz0 : ∀ b o u, H b = some (.frz o u) → upd (upd H c' (.frz oc (.own 0))) h'.objs.size (.frz ob (.own 0)) b = some (.frz o u) := fun b o u e => by
            (first | exact ((upd_ne (ne_of_none e H0f)).trans ((upd_ne (ne_of_none e H0c)).trans (e))) | (rw [upd_ne (ne_of_none e H0f), upd_ne (ne_of_none e H0c)]; exact e))
          have tg' : TabG (upd (upd (upd H c' (.frz oc (.own 0))) h'.objs.size (.frz ob (.own 0))) a (.tbl ps')) q' ps' := by
            rw [← hps]
            refine ⟨by (first | exact ((Array.toList_append).trans (TriplesOk_snoc _ _ _ _ tg.1)) | (rw [Array.toList_append]; exact TriplesOk_snoc _ _ _ _ tg.1)), fun pos' cv e => ?_⟩
            rw [Array.toList_append] at e
            rcases codeAmong_app _ tg.1 e with e | e
            · obtain ⟨c0, oc0, u0, vs0, t0, g1, g2, g3⟩ := tg.2 pos' cv e
              exact ⟨c0, oc0, u0, vs0, t0, g1, by (first | exact ((hps).trans (fz _ _ _ (fz0 _ _ _ g2))) | (rw [hps]; exact fz _ _ _ (fz0 _ _ _ g2))), g3⟩
            · exact ⟨c', oc, .own 0, vc, tc, e, by (first | exact ((hps).trans (fz _ _ _ (by rw [upd_ne ncf, upd_same]))) | (rw [hps]; exact fz _ _ _ (by rw [upd_ne ncf, upd_same]))), hd1, hd2⟩
          obtain ⟨l3, S3⟩ := S2.write (o := .tab q' a) (o' := .tab q' a) ei rfl rfl ha (u := .tbl ps') ⟨rfl, ps', upd_same, tg'⟩
          have l03 : Le X.K φ H φ _ := ((Le.new H0c).trans (Le.new H1f)).trans l3
          have set3 : A.set n (.tab q' a) = A := by
            apply List.ext_getElem?
            intro i
            by_cases hi : n = i
            · subst hi
              rw [List.getElem?_set_self (List.getElem?_eq_some_iff.mp ei).1, ei]
            · rw [List.getElem?_set_ne hi]
          rw [set3] at S3
          have eP : upd (upd (upd H c' (.frz oc (.own 0))) h'.objs.size (.frz ob (.own 0))) a (.tbl ps') a = some (.tbl ps') := upd_same
          have ec : upd (upd (upd H c' (.frz oc (.own 0))) h'.objs.size (.frz ob (.own 0))) a (.tbl ps') c' = some (.frz oc (.own 0)) := by rw [upd_ne (Ne.symm nPc), upd_ne ncf, upd_same]
          have ef : upd (upd (upd H c' (.frz oc (.own 0))) h'.objs.size (.frz ob (.own 0))) a (.tbl ps') h'.objs.size = some (.frz ob (.own 0)) := by rw [upd_ne (Ne.symm nPf), upd_same]
          have eo : ∀ b, b ≠ a → b ≠ c' → b ≠ h'.objs.size → upd (upd (upd H c' (.frz oc (.own 0))) h'.objs.size (.frz ob (.own 0))) a (.tbl ps') b = H b := fun b n1 n2 n3 => by rw [upd_ne n1, upd_ne n3, upd_ne n2]
          generalize upd (upd (upd H c' (.frz oc (.own 0))) h'.objs.size (.frz ob (.own 0))) a (.tbl ps') = H3 at S3 l03 eP ec ef eo
          have kp : ∀ b o, b ≠ a → s.heap.get? b = some o → (h'.push ob).get? b = some o := fun b o n e => Heap.get?_push_of_some _ (hx b o n e)
          have old : ∀ b o, s.heap.get? b = some o → b ≠ c' ∧ b ≠ h'.objs.size := fun b o e => ⟨Nat.ne_of_lt (Nat.lt_of_lt_of_le (Heap.lt_size e) hge), Nat.ne_of_lt (Nat.lt_of_lt_of_le (Heap.lt_size e) hsf)⟩
          have nH : ∀ b u, H b = some u → b ≠ c' ∧ b ≠ h'.objs.size := fun b u e => ⟨ne_of_none e H0c, ne_of_none e H0f⟩
          have gP : (h'.push ob).get? a = some (PySem.W.tabObj ps') := Heap.get?_push_of_some _ htb
          have I3 : Inv X pins σ H3 { s with heap := h'.push ob, toks := tk } := by
            refine I.un ⟨fun b o e z hb _ => ?_, fun b o e z hb _ => ?_, fun b o e z _ => ?_, fun b o e _ => ?_, fun b xs e => ?_, fun b o u e => ?_, fun b qs e => ?_⟩ fun b u e => ?_
            · exact kp b o (fun w => by (first | exact PyNso (hH) (w ▸ z) | (rw [w, hH] at z; cases z))) e
            · exact ⟨o.slots, kp b o (fun w => by (first | exact PyNso (hH) (w ▸ z) | (rw [w, hH] at z; cases z))) e⟩
            · rw [eo b (fun w => by (first | exact PyNso (hH) (w ▸ z) | (rw [w, hH] at z; cases z))) (old b o e).1 (old b o e).2]; exact z
            · by_cases hb : b = a
              · (first | exact ((hb).trans (⟨_, gP⟩)) | (rw [hb]; exact ⟨_, gP⟩))
              · exact ⟨o, kp b o hb e⟩
            · (first | exact ((eo b (ne_of e hH (by intro w; cases w)) (nH b _ e).1 (nH b _ e).2).trans (e)) | (rw [eo b (ne_of e hH (by intro w; cases w)) (nH b _ e).1 (nH b _ e).2]; exact e))
            · (first | exact ((eo b (ne_of e hH (by intro w; cases w)) (nH b _ e).1 (nH b _ e).2).trans (e)) | (rw [eo b (ne_of e hH (by intro w; cases w)) (nH b _ e).1 (nH b _ e).2]; exact e))
            · by_cases hb : b = a
              · subst hb
                (first | exact PyNso (hH) e | exact PyNso e (hH) | cases PySos (hH) e | (rw [hH] at e; cases e))
                exact ⟨_, by rw [eP, ← hps]⟩
              · exact ⟨#[], by rw [eo b hb (nH b _ e).1 (nH b _ e).2, e]; simp⟩
            · by_cases h1 : b = a
              · subst h1
                (first | exact PyNso (eP) e | exact PyNso e (eP) | cases PySos (eP) e | (rw [eP] at e; cases e))
                exact gP
              · by_cases h2 : b = c'
                · subst h2
                  (first | exact PyNso (ec) e | exact PyNso e (ec) | cases PySos (ec) e | (rw [ec] at e; cases e))
                  exact ⟨Heap.get?_push_of_some _ hoc, ⟨_, Heap.get?_push_of_some _ hoc⟩⟩
                · by_cases h3 : b = h'.objs.size
                  · subst h3
                    (first | exact PyNso (ef) e | exact PyNso e (ef) | cases PySos (ef) e | (rw [ef] at e; cases e))
                    exact ⟨Heap.get?_push_size _ (by rw [← hob]; rfl), ⟨_, Heap.get?_push_size _ (by rw [← hob]; rfl)⟩⟩
                  · rw [eo b h1 h2 h3] at e
                    refine (I.hok b u e).stay (fun d v hd z => kp d v ?_ z) (fun d z => ?_) fun d xs z => ?_
                    · rcases hd with w | w
                      · (first | exact ((w).trans (h1)) | (rw [w]; exact h1))
                      · exact ne_of w hH (by intro w; cases w)
                    · (first | exact ((eo d (ne_of z hH (by intro w; cases w)) (nH d _ z).1 (nH d _ z).2).trans (z)) | (rw [eo d (ne_of z hH (by intro w; cases w)) (nH d _ z).1 (nH d _ z).2]; exact z))
                    · (first | exact ((eo d (ne_of z hH (by intro w; cases w)) (nH d _ z).1 (nH d _ z).2).trans (z)) | (rw [eo d (ne_of z hH (by intro w; cases w)) (nH d _ z).1 (nH d _ z).2]; exact z))
          exact ⟨.ref h'.objs.size, H3, I3, rfl, h φ H3 _ l03 S3 ⟨h'.objs.size, ob, .own 0, c', oc, .own 0, [], rfl, ef, ec, ⟨⟨_, _, hob.symm⟩, vc, tc, hd1, hd2⟩, rfl⟩⟩
        | some cv =>
          obtain ⟨c', oc, u0, vc, tc, rfl, hHc, hd1, hd2⟩ := tg.2 pos cv hf
          refine PySem.W.kla_makeFunctionHit (mg := X.mg) hcl I.ok.glob hg hcode (C.keeps I.bk) hP tg.1 hf hb fun ctv h' tk hx hsz => ?_
          generalize hob : ({ cls := .type "function", data := .func (PySem.W.kla_fn "<lambda>" q' params body scope clos ((X.mg "__name__").getD .none) (.ref c') ctv) } : Obj) = ob
          have H0f : H h'.objs.size = none := noA _ hsz
          have I3 : Inv X pins σ (upd H h'.objs.size (.frz ob (.own 0))) { s with heap := h'.push ob, toks := tk } :=
            I.laid (fun b o e => Heap.get?_push_of_some _ (hx b o e)) hsz ⟨Heap.get?_push_size _ (by rw [← hob]; rfl), ⟨_, Heap.get?_push_size _ (by rw [← hob]; rfl)⟩⟩
          refine ⟨.ref h'.objs.size, _, I3, rfl, h φ _ _ (Le.new H0f) (S.lay H0f) ⟨h'.objs.size, ob, .own 0, c', oc, u0, [], rfl, upd_same, ?_, ⟨⟨_, _, hob.symm⟩, vc, tc, hd1, hd2⟩, rfl⟩⟩
          (first | exact ((upd_ne (ne_of_none hHc H0f)).trans (hHc)) | (rw [upd_ne (ne_of_none hHc H0f)]; exact hHc))
      · rw [if_neg hc] at h; exact h.elim
    | _ => exact h.elim
end
end Mi
namespace Mi
open PySem PySem.Spec PyProof.Rows L2
section
variable {K : PySem.W.Frag} {X : Cx} {pos : Pos}
private theorem RE.monoW {φ φ' : List Addr} {H H' : Hp} {ρ : En} {σ : St} (r : RE K φ H ρ σ) (l : LeW K φ H φ' H') : RE K φ' H' ρ σ := ⟨r.len, fun i w e => let ⟨v, h1, h2⟩ := r.get i w e; ⟨v, h1, h2.monoW l⟩⟩
inductive MMg (G : List Addr → Hp → Prop) (K : PySem.W.Frag) (xr : XR) (m : Ev) (σ : St) (H : Hp) (Q : VK) : Prop
  | mk (φ : List Addr) (A : Hx) (ρ : En) (S : Sim K φ A H) (re : RE K φ H ρ σ) (g : G φ H) (h : (m ρ A).post (PB K φ H Q) (EB K φ H xr))
noncomputable def tMg (G : List Addr → Hp → Prop) (K : PySem.W.Frag) (xr : XR) (m : Ev) : TE := fun σ H Q => MMg G K xr m σ H Q
inductive MEg (G : List Addr → Hp → Prop) (K : PySem.W.Frag) (em : Em) (D : Addr) (σ : St) (H : Hp) (Q : St → Hp → Prop) : Prop
  | mk (φ : List Addr) (A : Hx) (ρ : En) (acc : List W) (ys : List V) (S : Sim K φ A H) (re : RE K φ H ρ σ) (g : G φ H) (hD : H D = some (.lst ys)) (nD : ∀ k : Nat, φ[k]? ≠ some D) (rv : RVs K φ H acc ys)
    (h : (em ρ acc A).post (EmP K D φ H Q) noX)
noncomputable def tEg (G : List Addr → Hp → Prop) (K : PySem.W.Frag) (em : Em) : TEm := fun D σ H Q => MEg G K em D σ H Q
private theorem sm_eltG {G : List Addr → Hp → Prop} {elt : Expr} {gens : List Comprehension} {sc : Scope} {d : Nat} {me : Ev} (hx : ∀ e s, X.xe e s → False) (he : PE X elt (tMg G X.K xr0 me)) (hg : gens[d + 1]? = none) : PEm X elt gens sc pos d (tEg G X.K (emElt me)) :=
  PEm.imp (pem_emit hx he hg) fun D σ H Q ⟨φ, A, ρ, acc, ys, S, re, g, hD, nD, ra, h⟩ => by
    refine ⟨φ, A, ρ, S, re, g, post_mono (post_xr0 (post_bind.mp h)) (fun w A1 h1 φ1 H1 v l1 S1 q1 => ?_) fun _ _ z => z⟩
    obtain ⟨d1, n1⟩ := l1.off hD nD
    by_cases hz : acc.length < cpMost
    · rw [if_pos hz] at h1
      have hl := ra.length
      refine ⟨ys, d1, ?_, ?_⟩
      · rw [← hl]
        have : sizeLine = 16777216 := sizeLine_eq
        unfold cpMost at hz
        omega
      · exact h1 φ1 _ σ _ (l1.toD.trans (LeD.upd d1)) n1 (S1.off d1 n1) ⟨re.len, fun i w e => let ⟨v, a, b⟩ := re.get i w e; ⟨v, a, (b.mono l1).monoD (LeD.upd d1)⟩⟩ upd_same
          (((ra.mono l1).monoD (LeD.upd d1)).append (.one (q1.monoD (LeD.upd d1))))
    · rw [if_neg hz] at h1; exact h1.elim
private theorem emGo.readG {G : List Addr → Hp → Prop} {tw : Tg} {ifs : Ev} {em : Em} {j : Itx} {J : It} {K : PySem.W.Frag} {D : Addr} {φ : List Addr} {A : Hx} {H : Hp} {ρ : En} {σ : St} {acc : List W} {ys : List V} {Q : St → Hp → Prop} {f : Nat}
    (gm : ∀ φ H φ' H', LeW K φ H φ' H' → G φ H → G φ' H') (g : G φ H) (jr : ItR K φ H j J)
    (S : Sim K φ A H) (re : RE K φ H ρ σ) (hD : H D = some (.lst ys)) (nD : ∀ k : Nat, φ[k]? ≠ some D) (ra : RVs K φ H acc ys)
    (h : (emGo j tw ifs em f 0 ρ acc A).post (EmP K D φ H Q) noX) :
    tLoop J (tG K tw) (tT K xr0 ifs) (tEg G K em) D σ H Q := by
  refine ⟨fun i f σ' H' => EmW tw ifs em j K D φ H Q f i σ' H',
    ⟨f, φ, A, ρ, acc, ys, .refl, S, re, hD, nD, ra, h⟩, ?_⟩
  rintro i f σ2 H2 ⟨φ2, A2, ρ2, acc2, ys2, l2, S2, re2, hD2, nD2, ra2, h2⟩
  obtain ⟨j1, j2⟩ := jr i φ2 H2 A2 ⟨l2.ex, l2.tp, l2.fz⟩ S2
  cases ej : j.at_ A2 i with
  | none => cases f <;> (unfold emGo at h2; rw [ej] at h2; exact h2.elim)
  | some o =>
    cases o with
    | none =>
      left
      refine ⟨j2 ej, ?_⟩
      cases f <;> (unfold emGo at h2; rw [ej] at h2; exact h2 φ2 H2 σ2 ys2 l2 nD2 S2 re2 hD2 ra2)
    | some w =>
      right
      obtain ⟨go, yl⟩ := j1 w ej
      cases f with
      | zero => unfold emGo at h2; rw [ej] at h2; exact h2.elim
      | succ f =>
        unfold emGo at h2
        rw [ej] at h2
        refine ⟨go, fun σ' H' => EmW tw ifs em j K D φ H Q f (i + 1) σ' H', fun σ' H' z => ⟨f, Nat.lt_succ_self _, z⟩, fun x H3 y => ?_⟩
        obtain ⟨l3, S3, q3⟩ := yl x H3 y
        obtain ⟨hD3, nD3⟩ := l3.off hD2 nD2
        dsimp only at h2
        revert h2; cases et : tw w ρ2 with
        | none => intro h2; exact h2.elim
        | some ρ3 =>
          intro h2
          refine ⟨φ2, A2, ρ2, w, ρ3, S3, re2.mono l3, q3, et, fun σ3 re3 => ?_⟩
          refine tT.go S3 re3 (post_xr0 (post_bind.mp h2)) fun c A4 h4 => ?_
          cases c with
          | bl k =>
            refine ⟨k, rfl, fun φ4 H4 l4 S4 => ?_⟩
            obtain ⟨hD4, nD4⟩ := l4.off hD3 nD3
            have l04 := (l2.trans (l3.trans l4).toD)
            cases k with
            | true =>
              rw [if_pos rfl]
              refine ⟨φ4, A4, ρ3, acc2, ys2, S4, re3.mono l4, gm _ _ _ _ ⟨l04.ex, l04.tp, l04.fz⟩ g, hD4, nD4, ra2.mono (l3.trans l4), post_mono (post_bind.mp h4) (fun p A5 h5 φ5 H5 σ5 zs l5 n5 S5 re5 d5 r5 => ?_) fun _ _ z => z⟩
              exact ⟨φ5, A5, p.1, p.2, zs, l04.trans l5, S5, re5, d5, n5, r5, h5⟩
            | false =>
              rw [if_neg Bool.false_ne_true]
              exact ⟨φ4, A4, ρ3, acc2, ys2, l04, S4, re3.mono l4, hD4, nD4, ra2.mono (l3.trans l4), h4⟩
          | non => cases h4
          | int _ => cases h4
          | str _ => cases h4
          | tup _ => cases h4
          | ref _ => cases h4
          | clo _ _ _ => cases h4
          | xc _ => cases h4
end
structure Lm where
  N : List Str
  idx : List Nat
  params : Arguments
  body : Expr
  scope : Scope
  m : Ev
noncomputable def capE : List Nat → En → Option (List W)
  | [], _ => some []
  | j :: js, ρ => match ρ[j]?, capE js ρ with
    | some (some w), some ws => some (w :: ws)
    | _, _ => none
noncomputable def capV : List Nat → St → Option (List V)
  | [], _ => some []
  | j :: js, σ => match σ[j]?, capV js σ with
    | some (some w), some ws => some (w :: ws)
    | _, _ => none
private theorem capE_read {K : PySem.W.Frag} {φ : List Addr} {H : Hp} {ρ : En} {σ : St} (r : RE K φ H ρ σ) : ∀ {js : List Nat} {ws : List W}, capE js ρ = some ws → ∃ vs, capV js σ = some vs ∧ RVs K φ H ws vs
  | [], ws, e => by cases e; exact ⟨[], rfl, .nil⟩
  | j :: js, ws, e => by
    unfold capE at e
    cases ej : ρ[j]? with
    | none => (first | exact PyNso (ej) e | exact PyNso e (ej) | cases PySos (ej) e | (rw [ej] at e; cases e))
    | some ow => cases ow with
      | none => (first | exact PyNso (ej) e | exact PyNso e (ej) | cases PySos (ej) e | (rw [ej] at e; cases e))
      | some w =>
        rw [ej] at e
        revert e; cases er : capE js ρ with
        | none => intro e; cases e
        | some ws' =>
          intro e
          cases e
          obtain ⟨v, h1, h2⟩ := r.get j w ej
          obtain ⟨vs, h3, h4⟩ := capE_read r er
          exact ⟨v :: vs, by unfold capV; rw [h1, h3], .cons h2 h4⟩
private theorem capV_get {σ : St} : ∀ {js : List Nat} {vs : List V}, capV js σ = some vs → vs.length = js.length ∧ ∀ (i : Nat) (v : V), vs[i]? = some v → ∃ j, js[i]? = some j ∧ σ[j]? = some (some v)
  | [], vs, e => by cases e; exact ⟨rfl, fun i v h => by simp at h⟩
  | j :: js, vs, e => by
    unfold capV at e
    cases ej : σ[j]? with
    | none => (first | exact PyNso (ej) e | exact PyNso e (ej) | cases PySos (ej) e | (rw [ej] at e; cases e))
    | some ow => cases ow with
      | none => (first | exact PyNso (ej) e | exact PyNso e (ej) | cases PySos (ej) e | (rw [ej] at e; cases e))
      | some w =>
        rw [ej] at e
        revert e; cases er : capV js σ with
        | none => intro e; cases e
        | some ws' =>
          intro e
          cases e
          obtain ⟨h1, h2⟩ := capV_get er
          refine ⟨by simp [h1], fun i v h => ?_⟩
          cases i with
          | zero => simp at h; subst h; exact ⟨j, by simp, ej⟩
          | succ i => simp at h; obtain ⟨j', a, b⟩ := h2 i v h; exact ⟨j', by simpa using a, b⟩
noncomputable def lamF (ls : List Lm) (k : Nat) : Fn := fun ws A => match ls[k]? with
  | some t => t.m (ws.map some) A
  | none => .bad
noncomputable def PFk (env : Env) (q : Str) (ls : List Lm) (k : Nat) : Obj → Addr → Obj → List V → Prop := fun ob c oc vs => ∃ t, ls[k]? = some t ∧ PLam q t.params t.body t.scope (closeL env t.scope.names []) ob c oc vs
noncomputable def PGk (env : Env) (q : Str) (ls : List Lm) (σ : St) (k : Nat) : Obj → Addr → Obj → List V → Prop := fun ob c oc vs => ∃ t, ls[k]? = some t ∧ PLam q t.params t.body t.scope (closeL env t.scope.names []) ob c oc vs ∧ capV t.idx σ = some vs
structure LmOk (P : Program) (w : World) (K : PySem.W.Frag) (mg : Str → Option Value) (j : Nat) (q : Str) (t : Lm) : Prop where
  sc : LamScope t.N t.scope
  bind : ∀ (cl : List (Str × Addr)) (pm cdv ctv : Value), bindArgs (PySem.W.kla_fn "<lambda>" q t.params t.body t.scope cl pm cdv ctv) ⟨[], []⟩ = pure []
  body : ∀ (base : Heap) (cl : List (Str × Addr)) (a c : Addr) (A : Around) (outer : List Env) (s : Shared) (H : Hp) (E : XK), Room j (A.deeper (PySem.W.envX q t.scope s.heap.objs.size a (.ref c) cl)) → XeOk (cxL P w K mg base t.N q t.scope a (.ref c) cl A outer s H E) s.heap (XE1 K E) →
    SE (cxL P w K mg base t.N q t.scope a (.ref c) cl A outer s H E) (XE1 K E) t.body t.m
section
variable {P : Program} {w : World} {K : PySem.W.Frag} {mg : Str → Option Value} {base : Heap} {j : Nat} {q : Str} {ls : List Lm} {env : Env} {σ : St}
private theorem lam_ok (hl : ∀ t ∈ ls, LmOk P w K mg j q t) (hc : ∀ t ∈ ls, ∀ vs, capV t.idx σ = some vs → LamCells base t.N t.scope (closeL env t.scope.names []) vs) (k : Nat) : LamOk P w K mg base (j + 1) (PGk env q ls σ k) (lamF ls k) := by
  rintro a ob u c oc uc vs ⟨t, ht, ⟨⟨pm, ctv, rfl⟩, hoc⟩, hv⟩
  have mt : t ∈ ls := List.mem_of_getElem? ht
  have L := hl t mt
  refine ⟨⟨_, rfl⟩, _, ((fn_lam (name := "<lambda>") (params := t.params) (body := t.body) (pm := pm) (ctv := ctv) (a := a) (c := c) (u := u) (uc := uc) (m := t.m) L.sc (hc t mt vs hv) hoc fun A outer s H E hr xo => L.body base _ a c A outer s H E hr xo)).imp fun us H Q E h => ?_, fun s => .of_eq (L.bind _ _ _ _)⟩
  obtain ⟨h1, h2, h3, φ, A, ws, S, r, h⟩ := h
  refine ⟨h1, h2, h3, φ, A, ws, S, r, ?_⟩
  unfold lamF at h
  rw [ht] at h
  exact h
end
end Mi
namespace Mi
open PySem PySem.Spec PyProof.Rows L2
noncomputable abbrev PFam := Nat → Obj → Addr → Obj → List V → Prop
open Classical in
noncomputable def fRef (PG : PFam) (RF : Nat → List W → Hx → R W) : Fn := fun us A => match us with
  | [.clo k ws P] => if P = PG k then RF k ws A else .bad
  | _ => .bad
open Classical in
noncomputable def mEl (i : Nat) (PF : PFam) (ls : List Lm) (RF : Nat → List W → Hx → R W) (ρ0 : En) : Ev := fun ρ A => match ρ[i]? with
  | some (some (.clo k _ P)) => if P = PF k then (match ls[k]? with
    | some t => (match capE t.idx ρ0 with
      | some ws => RF k ws A
      | none => .bad)
    | none => .bad) else .bad
  | _ => .bad
structure LmIx (X : Cx) (t : Lm) : Prop where
  len : t.idx.length = t.N.length
  nm : ∀ (i : Nat) (x : Str) (j : Nat), t.N[i]? = some x → t.idx[i]? = some j → X.N[j]? = some x ∧ t.scope.names.lookup x = some .free
  free : ∀ y ∈ t.scope.names, y.2 = .free → X.env.kindOf y.1 = some .cell ∨ X.env.kindOf y.1 = some .free
section
variable {X : Cx} {pins : List (Addr × Obj)} {σ : St} {H : Hp} {s : Shared}
private theorem clos_get (I : Inv X pins σ H s) {t : Lm} (L : LmIx X t) {x : Str} {c : Addr} (h : (closeL X.env t.scope.names []).lookup x = some c) : X.env.cells.lookup x = some c := by
  rcases closeL_mem _ _ (PySem.mem_of_lookup h) with z | ⟨z, e⟩
  · cases z
  · obtain ⟨c', hc⟩ := I.ok.has x (L.free _ z rfl)
    rw [hc] at e ⊢
    exact congrArg some e.symm
private theorem cells_ok (I : Inv X pins σ H s) {base : Heap} (hb : ∀ x c v, X.env.cells.lookup x = some c → s.heap.IsCell c v → base.IsCell c v) {t : Lm} (L : LmIx X t) {vs : List V} (hv : capV t.idx σ = some vs) : LamCells base t.N t.scope (closeL X.env t.scope.names []) vs := by
  obtain ⟨v1, v2⟩ := capV_get hv
  refine ⟨v1.trans L.len, fun x y c h1 h2 => I.ok.inj x y c (clos_get I L h1) (clos_get I L h2), fun x h => ?_, fun x c h => ?_, fun i x v h1 h2 => ?_⟩
  · exact Option.isSome_iff_exists.mp (closeL_has _ _ (.inl (PySem.mem_of_lookup h)))
  · have e := clos_get I L h
    obtain ⟨v, z⟩ := I.cell x c e
    exact ⟨v, hb x c v e z⟩
  · obtain ⟨j, e1, e2⟩ := v2 i v h2
    obtain ⟨e3, e4⟩ := L.nm i x j h1 e1
    have fr := L.free _ (PySem.mem_of_lookup e4) rfl
    obtain ⟨m, hn, hl⟩ := I.loc
    obtain ⟨u, r, lk⟩ := hl j x v e3 e2 (.inr fr)
    obtain ⟨c, hc⟩ := Option.isSome_iff_exists.mp (closeL_has (env := X.env) t.scope.names [] (.inl (PySem.mem_of_lookup e4)))
    have ec := clos_get I L hc
    rcases lk with ⟨z, _⟩ | ⟨_, c', hc', cell⟩
    · exfalso
      rcases fr with k | k <;> ((first | exact PyNso (k) z | exact PyNso z (k) | cases PySos (k) z | (rw [k] at z; cases z)))
    · (first | exact PyNso (ec) hc' | exact PyNso hc' (ec) | cases PySos (ec) hc' | (rw [ec] at hc'; cases hc'))
      exact ⟨c, u, e4, hc, hb x c _ ec cell, r⟩
private theorem cell_nf (I : Inv X pins σ H s) (hfn : ∀ x, X.fn x = true) {x : Str} {c : Addr} (e : X.env.cells.lookup x = some c) : c ∉ frs X.stack := fun hm => by
  rcases List.mem_cons.mp (I.stkSub c hm) with z | z
  · exact I.cne x c e z
  · obtain ⟨_, o, ho, _⟩ := I.ok.funs.mem z
    exact absurd (Nat.lt_of_lt_of_le (Heap.lt_size ho) (I.ok.cab x c (hfn x) e)) (Nat.lt_irrefl _)
noncomputable def baseC (base h : Heap) (cells : List (Str × Addr)) : Heap := PySem.W.hideAll h ((List.range h.objs.size).filter fun b => (base.get? b).isNone && !(cells.any fun p => cells.lookup p.1 == some b))
private theorem baseC_of {base h : Heap} {cells : List (Str × Addr)} {b : Addr} {o : Obj} (e : (baseC base h cells).get? b = some o) : h.get? b = some o ∧ ((∃ o', base.get? b = some o') ∨ ∃ x, cells.lookup x = some b) := by
  have e1 := PySem.W.of_hideAll _ e
  refine ⟨e1, ?_⟩
  by_cases hm : b ∈ (List.range h.objs.size).filter fun b => (base.get? b).isNone && !(cells.any fun p => cells.lookup p.1 == some b)
  · unfold baseC at e
    (first | exact PyNso (PySem.W.hideAll_none _ hm) e | exact PyNso e (PySem.W.hideAll_none _ hm) | cases PySos (PySem.W.hideAll_none _ hm) e | (rw [PySem.W.hideAll_none _ hm] at e; cases e))
  · rw [List.mem_filter] at hm
    have hb : b ∈ List.range h.objs.size := List.mem_range.mpr (Heap.lt_size e1)
    cases hg : base.get? b with
    | some o' => exact .inl ⟨o', rfl⟩
    | none =>
      right
      by_cases hc : (cells.any fun p => cells.lookup p.1 == some b) = true
      · obtain ⟨p, _, hp⟩ := List.any_eq_true.mp hc
        exact ⟨p.1, beq_iff_eq.mp hp⟩
      · exact absurd ⟨hb, by rw [hg]; simpa using hc⟩ hm
private theorem baseC_base {base h : Heap} {cells : List (Str × Addr)} (k : ∀ b o, base.get? b = some o → h.get? b = some o) {b : Addr} {o : Obj} (e : base.get? b = some o) : (baseC base h cells).get? b = some o :=
  PySem.W.hideAll_get _ (k b o e) fun hm => by
    rw [List.mem_filter, e] at hm
    simp at hm
private theorem baseC_cell {base h : Heap} {cells : List (Str × Addr)} {x : Str} {c : Addr} {o : Obj} (l : cells.lookup x = some c) (e : h.get? c = some o) : (baseC base h cells).get? c = some o :=
  PySem.W.hideAll_get _ e fun hm => by
    rw [List.mem_filter, Bool.and_eq_true, Bool.not_eq_true'] at hm
    have := hm.2.2
    rw [List.any_eq_false] at this
    exact this _ (PySem.mem_of_lookup l) (by simpa using l)
variable {H3 : Hp} {s3 : Shared} {fp : List Addr} {N : List Str} {sc : Scope} {ls : List Lm} {j kk i : Nat} {q x f : Str} {ρ0 : En} {RF : Nat → List W → Hx → R W} {p p2 pos : Pos}
private theorem el_base (I3 : Inv X pins σ H3 s3) (f3 : ∀ b ∈ fp, FpOk X pins H3 b) (hfn : ∀ x, X.fn x = true) (hl : ∀ t ∈ ls, LmOk X.prog X.w X.K X.mg j q t) (hix : ∀ t ∈ ls, LmIx X t)
    {pins' : List (Addr × Obj)} {σ' : St} {H' : Hp} {s' : Shared} (I' : Inv (cpCx X N sc s3 H3 fp noxe) pins' σ' H' s') :
    Env0 X.prog X.w X.K X.mg (baseC X.base s'.heap X.env.cells) X.A X.stack s' H' ∧ ∀ k, LamOk X.prog X.w X.K X.mg (baseC X.base s'.heap X.env.cells) (j + 1) (PGk X.env q ls σ k) (lamF ls k) := by
  have un : Un (frs X.stack) fp H3 H' s3.heap s'.heap := I'.base
  have bk : ∀ b o, X.base.get? b = some o → s'.heap.get? b = some o := fun b o e => (show _ from I'.bk b o e)
  have cellk : ∀ y cc, X.env.cells.lookup y = some cc → ∀ o, s3.heap.get? cc = some o → s'.heap.get? cc = some o ∧ H' cc = none := fun y cc e o ho =>
    have nfp : cc ∉ fp := fun z => (f3 cc z).2.2.2.2.1 y cc e rfl
    ⟨un.keep cc o ho (I3.freeC y cc e) (cell_nf I3 hfn e) nfp, un.free cc o ho (I3.freeC y cc e) nfp⟩
  have kb : ∀ b o, X.base.get? b = some o → (baseC X.base s'.heap X.env.cells).get? b = some o := fun b o e => baseC_base bk e
  have md : Mod X.K X.mg (baseC X.base s'.heap X.env.cells) := by
    obtain ⟨mb, b1, b2⟩ := I3.mod.blt
    exact ⟨I3.mod.kin.keeps kb, I3.mod.glob.keeps kb, ⟨mb, b1.keeps kb, b2⟩, I3.mod.nolimit.keeps kb⟩
  have bs : ∀ b o, (baseC X.base s'.heap X.env.cells).get? b = some o → s'.heap.get? b = some o ∧ H' b = none := fun b o e => by
    obtain ⟨e1, e2⟩ := baseC_of e
    refine ⟨e1, ?_⟩
    rcases e2 with ⟨o', e2⟩ | ⟨y, e2⟩
    · exact (I'.bs b o' e2).2
    · obtain ⟨vv, oo, ho, _⟩ := I3.cell y b e2
      exact (cellk y b e2 oo ho).2
  refine ⟨⟨I'.ok.frames, md, bs, Nat.le_of_eq (PySem.W.hideAll_size _ _), frames_at (show s'.heap.FunFrames X.base X.stack from I'.stack) fun b hb => ?_, I'.stkFree, I'.hok, I'.bare⟩,
    fun k => lam_ok hl (fun t ht vs hvs => cells_ok I3 (fun y cc v e ⟨o, ho, hd⟩ => ⟨o, baseC_cell e (cellk y cc e o ho).1, hd⟩) (hix t ht) hvs) k⟩
  cases e : (baseC X.base s'.heap X.env.cells).get? b with
  | none => rfl
  | some o =>
    exfalso
    rcases (baseC_of e).2 with ⟨o', e2⟩ | ⟨y, e2⟩
    · have := (I3.stack.mem hb).1
      (first | exact PyNso (e2) this | exact PyNso this (e2) | cases PySos (e2) this | (rw [e2] at this; cases this))
    · exact cell_nf I3 hfn e2 hb
private theorem el_call (I3 : Inv X pins σ H3 s3) (f3 : ∀ b ∈ fp, FpOk X pins H3 b) (hfn : ∀ x, X.fn x = true) (hl : ∀ t ∈ ls, LmOk X.prog X.w X.K X.mg j q t) (hix : ∀ t ∈ ls, LmIx X t)
    (hR : ∀ base PG, (∀ k, LamOk X.prog X.w X.K X.mg base (j + 1) (PG k) (lamF ls k)) → FnM X.prog X.w X.K X.mg base kk f 1 (fRef PG RF)) (hr : Room kk X.A)
    (hi : N[i]? = some x) (hv : Vis (relabel sc X.env) x) (hg : Gl (cpCx X N sc s3 H3 fp noxe) f) (hdx : autoParam ((x == ("__debug__" : Str)) = false) PyProof.Rows.glB_def._auto_7) (hcx : autoParam ((x == ("__classdict__" : Str)) = false) PyProof.Rows.glB_def._auto_7) (hdf : autoParam ((f == ("__debug__" : Str)) = false) PyProof.Rows.glB_def._auto_7)
    (he : autoParam (starEach [.Name x p2] (cpCx X N sc s3 H3 fp noxe).env = (false, eval (.Name x p2) (cpCx X N sc s3 H3 fp noxe).env) :: starEach [] (cpCx X N sc s3 H3 fp noxe).env) PyProof.Rows.call_M_of_MD._auto_3) (hpl : autoParam ((backTo pos (starEach [] (cpCx X N sc s3 H3 fp noxe).env)).any (·.1) = false) PyProof.Rows.call_M_of_MD._auto_3) :
    PE (cpCx X N sc s3 H3 fp noxe) (.Call (.Name f p) [.Name x p2] [] pos) (tMg (fun φ H => RE X.K φ H ρ0 σ) X.K xr0 (mEl i (PFk X.env q ls) ls RF ρ0)) := by
  intro pins' s' σ' H' Q I' ⟨φ, A, ρ, S, re, re0, h⟩
  unfold mEl at h
  cases ei : ρ[i]? with
  | none => rw [ei] at h; exact h.elim
  | some ow => cases ow with
    | none => rw [ei] at h; exact h.elim
    | some w0 =>
      rw [ei] at h
      cases w0 with
      | clo k xs P =>
        dsimp only at h
        by_cases hP : P = PFk X.env q ls k
        · rw [if_pos hP] at h
          subst hP
          revert h; cases et : ls[k]? with
          | none => intro h; exact h.elim
          | some t =>
            intro h
            dsimp only at h
            revert h; cases ec : capE t.idx ρ0 with
            | none => intro h; exact h.elim
            | some ws =>
              intro h
              dsimp only at h
              obtain ⟨v, hv1, a, ob, u, c, oc, uc, vs0, rfl, g1, g2, ⟨t', et', gp⟩, _⟩ := re.get i _ ei
              (first | exact PyNso (et) et' | exact PyNso et' (et) | cases PySos (et) et' | (rw [et] at et'; cases et'))
              obtain ⟨vs, cv, rv⟩ := capE_read re0 ec
              obtain ⟨fa, fd, ps, F, hm, hk, hb⟩ := hR _ _ (el_base I3 f3 hfn hl hix I').2
              refine wpAny_Call_Name_kw (ld_glob I' hg hm ?_ hdf)
              refine PySem.W.callWith_K (h₀ := X.base) I3.mod.kin hk (thn (pa_cons (pe_var (X := cpCx X N sc s3 H3 fp noxe) hi hv hdx hcx) pa_nil he pos pins' s' σ' H' (fun vs' H1 => vs' = [.ref a] ∧ H1 = H') I' ⟨.ref a, hv1, rfl, rfl⟩) fun us s1 ⟨vs', H1, I1, r1, ev, eh⟩ => ⟨I1.kIn, ?_⟩) he hpl
              subst ev
              subst eh
              obtain ⟨e0, hL⟩ := el_base I3 f3 hfn hl hix I1
              obtain ⟨fa', fd', ps', F', hm', hk', hb'⟩ := hR _ _ hL
              (first | exact PyNso (hm) hm' | exact PyNso hm' (hm) | cases PySos (hm) hm' | (rw [hm] at hm'; cases hm'))
              have hsp : spM X.K 1 (fRef (PGk X.env q ls σ) RF) [.ref a] H1 Q E0 := by
                refine ⟨rfl, φ, A, [.clo k ws (PGk X.env q ls σ k)], S, .one ⟨a, ob, u, c, oc, uc, vs, rfl, g1, g2, ⟨t, et, gp, cv⟩, rv⟩, ?_⟩
                unfold fRef
                dsimp only
                rw [if_pos rfl]
                exact post_mono h (fun _ _ z => z) fun y A2 z φ2 H2 l2 S2 => (z φ2 H2 l2 S2).elim
              have hln := F'.len _ _ _ _ hsp
              have hu : us.length = ps'.length := by rw [← r1.length]; exact hln
              refine wpAny_call (codeAny_mono (F'.run X.A X.stack s1 H1 ⟨[] ++ us, []⟩ us [.ref a] Q E0 hr e0 ?_ r1 hsp) fun r s2 hq => ?_)
              · have := hb' s1 us (show _ from I1.kIn) (by (first | exact ((List.append_nil).trans (hu)) | (rw [List.append_nil]; exact hu)))
                rw [List.append_nil] at this
                exact this
              · cases r with
                | error e => exact False.elim hq
                | ok fl =>
                  cases fl with
                  | ret u1 => exact I1.after hq
                  | next => exact False.elim hq
                  | brk => exact False.elim hq
                  | cont => exact False.elim hq
        · rw [if_neg hP] at h; exact h.elim
      | _ => exact h.elim
end
end Mi
namespace Mi
open PySem PySem.Spec PyProof.Rows L2
noncomputable def cRefs (nl : Nat) (mi : Ei) (tw : Tg) (i : Nat) (PF : PFam) (ls : List Lm) (RF : Nat → List W → Hx → R W) : Eq' := fun ρ A => cItems nl [] mi tw (mLit (.bl true)) (emElt (mEl i PF ls RF ρ)) ρ A
section
variable {X : Cx} {xr : XR} {N : List Str} {sc : Scope} {ls : List Lm} {j kk i nl : Nat} {q x f : Str} {RF : Nat → List W → Hx → R W} {p p2 p3 p4 pos : Pos} {iter : Expr} {mi : Ei} {tw : Tg}
private theorem se_refs (hfn : ∀ x, X.fn x = true) (hl : ∀ t ∈ ls, LmOk X.prog X.w X.K X.mg j q t) (hix : ∀ t ∈ ls, LmIx X t)
    (hR : ∀ base PG, (∀ k, LamOk X.prog X.w X.K X.mg base (j + 1) (PG k) (lamF ls k)) → FnM X.prog X.w X.K X.mg base kk f 1 (fRef PG RF)) (hr : Room kk X.A) (hc : X.calm = true) (S : CpScope X sc) (hcap : capOk X.N N sc nl [] = true) (hw : SI X xr (.Name x p4) iter mi)
    (hgt : ∀ s H fp, SG (cpCx X N sc s H fp noxe) (.Name x p4) tw) (hi : N[i]? = some x) (hv : Vis (relabel sc X.env) x) (hg : ∀ s H fp, Gl (cpCx X N sc s H fp noxe) f) (hdx : autoParam ((x == ("__debug__" : Str)) = false) PyProof.Rows.glB_def._auto_7) (hcx : autoParam ((x == ("__classdict__" : Str)) = false) PyProof.Rows.glB_def._auto_7) (hdf : autoParam ((f == ("__debug__" : Str)) = false) PyProof.Rows.glB_def._auto_7)
    (he : autoParam (∀ env : Env, starEach [.Name x p2] env = (false, eval (.Name x p2) env) :: starEach [] env) PyProof.Rows.Assign_ListComp_rowsP._auto_1) (hpl : autoParam (∀ env : Env, (backTo p3 (starEach [] env)).any (·.1) = false) PyProof.Rows.Assign_ListComp_rowsP._auto_1)
    (hs : autoParam (∀ x, foldedSetIterable iter X.env x = pure x) PyProof.Rows.Assign_ListComp_rowsP._auto_1) :
    SE X xr (.ListComp (.Call (.Name f p) [.Name x p2] [] p3) [⟨.Name x p4, iter, [], 0⟩] sc pos) (mList (cRefs nl mi tw i (PFk X.env q ls) ls RF)) := by
  intro pins s σ H Q I h
  obtain ⟨φ, A, ρ, Sm, re, h⟩ := mList.read σ H Q h
  rw [eval_ListComp]
  refine cp_core (use := none) (N := N) (nl := nl) (cap := []) (wi := tI X.K xr mi) (g := tG X.K tw) (ti := tT X.K xr0 (mLit (.bl true))) (tm := tEg (fun φ H => RE X.K φ H ρ σ) X.K (emElt (mEl i (PFk X.env q ls) ls RF ρ))) hc S hcap (fun g' z => by cases z) hw
    (fun s3 H3 fp I3 f3 => ⟨hgt s3 H3 fp, sts_nil, sm_eltG (fun _ _ z => z) (el_call I3 f3 hfn hl hix hR hr hi hv (hg s3 H3 fp) hdx hcx hdf (he _) (hpl _)) rfl⟩) I (Q := Q) ?T (fun D C s' H' m I' q hn h1 h2 h3 h4 h5 => ?_) hs
  case T =>
    refine ⟨φ, A, ρ, Sm, re, post_mono (post_bind.mp h) (fun jt A1 h1 φ1 H1 J l1 S1 jr D hD hK => ?_) fun _ _ z => z⟩
    have ln : Le X.K φ1 H1 φ1 (upd H1 D (.lst [])) := Le.new hD
    have h1' := post_bind.mp h1
    refine emGo.readG (fun φ H φ' H' l g => RE.monoW g l) (re.mono (l1.trans ln)) (jr.mono ⟨ln.ex, ln.tp, ln.fz⟩) (S1.lay hD) ((re.mono (l1.trans ln)).ncap) upd_same (S1.notin hD hK) .nil ?_ (f := jt.len) (acc := [])
    revert h1'; cases er : emGo jt tw (mLit (.bl true)) (emElt (mEl i (PFk X.env q ls) ls RF ρ)) jt.len 0 (ncapE nl [] ρ) [] A1 with
    | ok p A2 =>
      intro h1'
      intro φ2 H2 σ2 zs l2 n2 S2 re2 d2 r2
      have l02 := l1.trans (Le.ofD hD l2)
      exact h1' φ2 H2 D zs l02 S2 (l1.st D hD) d2 n2 r2
    | exc x A2 => intro h1'; exact h1'.elim
    | bad => intro h1'; exact h1'.elim
  · exact ⟨m, hn, fun h' sb => ⟨.ref D, H', I'.turned (t' := s'.toks) (fun b o hb e => (sb.2 b hb).trans e) h1 h2 (.inr h3) h4 h5, rfl, q⟩⟩
end
end Mi
namespace Mi
open PySem PySem.Spec PyProof.Rows L2
private theorem law_callT {P : Program} {w : World} {K : PySem.W.Frag} {mg mb : Str → Option Value} {k : Nat} {fa a Pt : Addr} {fd : FuncData} {x : Str} {sp : Sp} {s₁ : Shared} {vs : List Value} {ns : List Int}
    (KX : K.In s₁.heap) (hns : s₁.heap.Ns mainGlobals mg) (hb : s₁.heap.Ns builtinsNs mb) (hbb : ∀ x : Str, x ≠ "__name__" → mb x = bootBuiltins x) (hlim : s₁.heap.NoLimit) (hg : s₁.gens = #[])
    (ha : s₁.heap.get? a = some { cls := .type "list", data := .seq vs.toArray }) (hi : IntsAre vs ns) (hl : ns.length ≤ sizeLine) (hr : Room k callerA)
    (hPt : s₁.heap.get? Pt = some (PySem.W.tabObj #[])) (hKP : K.lookup Pt = none) (hct : isCodeTable s₁.heap Pt) (hbm : BMain mg s₁.heap)
    (F : ∀ base : Heap, K.In base → base.Ns mainGlobals mg → BMain mg base → FnOk P w K mg base CX0 k fa fd [x] sp) (hbind : ∀ (s : Shared) (u : Value), BindsTo s fd ⟨[u], []⟩ [(x, u)])
    (hsp : ∀ H : Hp, H Pt = some (.tbl #[]) → SqR K H a (ns.map V.int) → sp [.ref a] H (fun v _ => v = .bl true) fun _ _ _ => False) :
    codeAny (model P w) callerA (.call (.ref fa) ⟨[.ref a], []⟩) (fun r s' => r = .ok (.ret (.bool true)) ∧ OldK s₁.heap s'.heap ∧ s'.os = s₁.os ∧ AllBare s'.gens) s₁ := by
  have rv := vals_ints hi
  have lenV := hi.length
  have naP : a ≠ Pt := fun z => by (first | exact PyNso (hPt) (z ▸ ha) | (rw [z, hPt] at ha; cases ha))
  have core : ∀ H : Hp, H Pt = some (.tbl #[]) → SqR K H a (ns.map V.int) → HOk P w H s₁.heap → (∀ b, H b ≠ none → b = a ∨ b = Pt) → (∀ u, H a = some u → K.lookup a = none ∧ ∃ o xs, u = .frz o (.lst xs)) →
      codeAny (model P w) callerA (.call (.ref fa) ⟨[.ref a], []⟩) (fun r s' => r = .ok (.ret (.bool true)) ∧ OldK s₁.heap s'.heap ∧ s'.os = s₁.os ∧ AllBare s'.gens) s₁ := by
    intro H hO hS hok hA hK
    have base_of : ∀ {b : Addr} {o : Obj}, s₁.heap.get? b = some o → H b = none → (hidT s₁.heap H).get? b = some o := fun e n => hidT_get e n
    have noA : ∀ {b : Addr} {o : Obj} {es : Array DictEntry} {ep : Nat}, s₁.heap.get? b = some o → o.data = .dict es ep → H b = none := fun {b o es ep} e d => by
      cases q : H b with
      | none => rfl
      | some u =>
        rcases hA b (by rw [q]; simp) with z | z
        · subst z
          (first | exact PyNso (ha) e | exact PyNso e (ha) | cases PySos (ha) e | (rw [ha] at e; cases e))
          have d' : Data.seq vs.toArray _ = Data.dict es ep := d
          cases d'
        · subst z
          (first | exact PyNso (hPt) e | exact PyNso e (hPt) | cases PySos (hPt) e | (rw [hPt] at e; cases e))
          cases d
    have nsK : ∀ {b : Addr} {m : Str → Option Value}, s₁.heap.Ns b m → (hidT s₁.heap H).Ns b m := fun {b m} ⟨o, es, ep, e, d, r⟩ => ⟨o, es, ep, base_of e (noA e d), d, r⟩
    have hKb : K.In (hidT s₁.heap H) := fun b o e => base_of (KX b o e) (by
      cases q : H b with
      | none => rfl
      | some u =>
        rcases hA b (by rw [q]; simp) with z | z
        · subst z
          (first | exact PyNso ((hK u q).1) e | exact PyNso e ((hK u q).1) | cases PySos ((hK u q).1) e | (rw [(hK u q).1] at e; cases e))
        · subst z
          (first | exact PyNso (hKP) e | exact PyNso e (hKP) | cases PySos (hKP) e | (rw [hKP] at e; cases e)))
    have hBb : BMain mg (hidT s₁.heap H) := by
      obtain ⟨bm, o, b1, b2, b3, b4, b5, b6, b7⟩ := hbm
      refine ⟨bm, o, b1, b2, b3, base_of b4 ?_, b5, b6, b7⟩
      cases q : H bm with
      | none => rfl
      | some u =>
        rcases hA bm (by rw [q]; simp) with z | z
        · subst z
          (first | exact PyNso (ha) b4 | exact PyNso b4 (ha) | cases PySos (ha) b4 | (rw [ha] at b4; cases b4))
          exact absurd b5 (by intro q; injection q with q; exact absurd q (by decide))
        · subst z
          (first | exact PyNso (hPt) b4 | exact PyNso b4 (hPt) | cases PySos (hPt) b4 | (rw [hPt] at b4; cases b4)); cases b5
    have hM : Mod K mg (hidT s₁.heap H) := ⟨hKb, nsK hns, ⟨mb, nsK hb, hbb⟩, let ⟨mc, h1, h2⟩ := hlim; ⟨mc, nsK h1, h2⟩⟩
    have e0 : Env0 P w K mg (hidT s₁.heap H) callerA [] s₁ H := ⟨rfl, hM, fun b o e => of_hidT e, Nat.le_of_eq (hidT_size _ _), trivial, fun b hb => absurd (show b ∈ ([] : List Addr) from hb) (by simp), hok, .of_eq hg⟩
    refine codeAny_mono ((F _ hKb (nsK hns) hBb).run callerA [] s₁ H ⟨[.ref a], []⟩ [.ref a] [.ref a] _ _ hr e0 (hbind s₁ (.ref a)) (.cons rfl .nil) (hsp H hO hS)) fun r s' h => ?_
    cases r with
    | error e => exact False.elim h
    | ok fl =>
      cases fl with
      | next => exact False.elim h
      | brk => exact False.elim h
      | cont => exact False.elim h
      | ret u =>
        obtain ⟨v, H', os, bare, un, hok', r', q⟩ := h
        have q' : v = .bl true := q
        subst q'
        obtain rfl : u = Value.bool true := r'
        refine ⟨rfl, ⟨fun b o e => ?_, fun b o e => un.there b o e (by simp)⟩, os, bare⟩
        cases q : H b with
        | none => exact .inl (un.keep b o e q (by intro z; exact absurd (show b ∈ ([] : List Addr) from z) (by simp)) (by simp))
        | some u =>
          rcases hA b (by rw [q]; simp) with z | z
          · subst z
            obtain ⟨ob, xs, rfl⟩ := (hK u q).2
            have z2 := un.frzs _ ob _ q
            obtain ⟨e1, _⟩ := hok _ _ q
            obtain ⟨e2, _⟩ := hok' _ _ z2
            (first | exact PyNso (e) e1 | exact PyNso e1 (e) | cases PySos (e) e1 | (rw [e] at e1; cases e1))
            exact .inl e2
          · subst z
            (first | exact PyNso (hPt) e | exact PyNso e (hPt) | cases PySos (hPt) e | (rw [hPt] at e; cases e))
            obtain ⟨more, z2⟩ := un.tbls _ _ hO
            exact .inr (.inl ⟨hct, rfl, #[], more, rfl, hok' _ _ z2⟩)
  cases hk : K.lookup a with
  | some o =>
    have e := KX a o hk
    (first | exact PyNso (ha) e | exact PyNso e (ha) | cases PySos (ha) e | (rw [ha] at e; cases e))
    refine core (fun b => if b = Pt then some (.tbl #[]) else none) (if_pos rfl) (.inr ⟨_, vs.toArray, _, hk, rfl, rfl, rfl, by (first | exact ((List.size_toArray).trans ((lenV).trans (hl))) | (rw [List.size_toArray, lenV]; exact hl)), by simpa using rv⟩) (fun b u z => ?_) (fun b z => ?_) fun u z => ?_
    · by_cases hb : b = Pt
      · have z' := (if_pos hb).symm.trans z
        cases z'
        rw [hb]
        exact hPt
      · have z' := (if_neg hb).symm.trans z
        cases z'
    · by_cases hb : b = Pt
      · exact .inr hb
      · exact absurd (if_neg hb) z
    · have z' := (if_neg naP).symm.trans z
      cases z'
  | none =>
    refine core (fun b => if b = Pt then some (.tbl #[]) else if b = a then some (.frz { cls := .type "list", data := .seq vs.toArray } (.lst (ns.map V.int))) else none) (if_pos rfl)
      (.inl ⟨{ cls := .type "list", data := .seq vs.toArray }, (if_neg naP).trans (if_pos rfl)⟩) (fun b u z => ?_) (fun b z => ?_) fun u z => ?_
    · by_cases hb : b = Pt
      · have z' := (if_pos hb).symm.trans z
        cases z'
        rw [hb]
        exact hPt
      · have z' := (if_neg hb).symm.trans z
        by_cases hb2 : b = a
        · have z2 := (if_pos hb2).symm.trans z'
          cases z2
          subst hb2
          exact ⟨ha, by (first | exact ((List.length_map).trans (hl)) | (rw [List.length_map]; exact hl)), vs, _, rv, ha⟩
        · have z2 := (if_neg hb2).symm.trans z'
          cases z2
    · by_cases hb : b = Pt
      · exact .inr hb
      · by_cases hb2 : b = a
        · exact .inl hb2
        · exact absurd ((if_neg hb).trans (if_neg hb2)) z
    · have z' := ((if_neg naP).trans (if_pos rfl)).symm.trans z
      cases z'
      exact ⟨hk, _, _, rfl⟩
inductive spT (K : PySem.W.Frag) (n : Nat) (fs : PFam → Fn) (vs : List V) (H : Hp) (Q : VK) (E : XK) : Prop
  | mk (len : vs.length = n) (φ : List Addr) (A : Hx) (ws : List W) (S : Sim K φ A H) (r : RVs K φ H ws vs) (q : ∀ PF, (fs PF ws A).post (PB K φ H Q) (EB K φ H (XE K E)))
private theorem spT.len {K : PySem.W.Frag} {n : Nat} {fs : PFam → Fn} {vs : List V} {H : Hp} {Q : VK} {E : XK} (h : spT K n fs vs H Q E) : vs.length = n := by cases h; assumption
noncomputable def LawOkT (q : Str) (fs : Addr → PFam → Fn) : Prop := ∀ ns : List Int, ns.length ≤ 63 → ∀ Pt PF, ∃ A, fs Pt PF [.ref 0] [.ro (ns.map W.int), .tab q Pt] = .ok (.bl true) A
private theorem law_startT {K : PySem.W.Frag} {H : Hp} {a Pt : Addr} {q : Str} {ns : List Int} (hP : H Pt = some (.tbl #[])) (hS : SqR K H a (ns.map V.int)) : Sim K [a, Pt] [.ro (ns.map W.int), .tab q Pt] H := by
  refine ⟨rfl, fun i j b o o' h1 h2 h3 h4 m1 m2 => ?_, fun n o h => ?_⟩
  · match i, j, h3, h4 with
    | 0, _, h3, _ => simp at h3; subst h3; cases m1
    | _, 0, _, h4 => simp at h4; subst h4; cases m2
    | 1, 1, _, _ => rfl
    | i + 2, _, h3, _ => simp at h3
    | _, j + 2, _, h4 => simp at h4
  · match n, h with
    | 0, h => simp at h; subst h; exact ⟨a, rfl, ns.map V.int, hS, RVs.ints.mpr rfl⟩
    | 1, h => simp at h; subst h; exact ⟨Pt, rfl, rfl, #[], hP, trivial, fun pos cv e => nomatch e⟩
    | n + 2, h => simp at h
section
variable {P : Program} {w : World} {K : PySem.W.Frag} {mg : Str → Option Value} {base : Heap}
private theorem tab_code {x : Str} {f c Pt : Addr} {oc : Value} {od : Option Addr} {fd : FuncData} {osl : Array (Option Value)} (hn : PySem.W.nsIn K mainGlobals x = some (some (.ref f))) (lk : K.lookup f = some ⟨oc, od, .func fd, osl⟩) (ht : PySem.W.tabIn K x = some (c, Pt)) : fd.code = .ref c := by
  unfold PySem.W.tabIn at ht
  rw [hn] at ht
  dsimp only at ht
  rw [lk] at ht
  dsimp only at ht
  split at ht
  · rename_i c2 hc
    split at ht
    · split at ht
      · cases ht; exact hc
      · cases ht
    · cases ht
  · cases ht
private theorem fnT {x q : Str} {st : Stmt} {f c Pt : Addr} {fd : FuncData} {N ps : List Str} {k : Nat} {ls : List Lm} {m : PFam → Ex} (F : Fun K x x st f fd) (hn : PySem.W.nsIn K mainGlobals x = some (some (.ref f))) (ht : PySem.W.tabIn K x = some (c, Pt)) (S : FnScope N ps (defScope st))
    (hbody : ∀ (A : Around) (outer : List Env) (s : Shared) (H : Hp) (E : XK), Room k (A.deeper (envOfC x (defScope st) s.heap.objs.size f (.ref c))) →
      SSs (cxOf CX0 P w K mg base N x (defScope st) f (.ref c) A outer s H E).nox xr0 (defBody st) (m (PFk (envOfC x (defScope st) s.heap.objs.size f (.ref c)) q ls))) :
    FnOk P w K mg base CX0 (k + 1) f fd ps (spT K ps.length fun PF => runB N.length (m PF)) := by
  obtain ⟨oc, od, kV, doc, pm, an, cdv, ct, osl, rfl, lk, hcd⟩ := F.ex
  have hcv : cdv = .ref c := tab_code hn lk ht
  subst hcv
  refine fn_of lk hcd S (fun vs H Q E h => h.len) fun A outer s H vs Q E hr ⟨hl, φ, A1, ws, Sm, r, h⟩ => ⟨_, PSs.nox (hbody A outer s H E hr), ?_⟩
  refine ⟨φ, A1, ws.map some ++ List.replicate (N.length - ws.length) none, Sm, RE.start r, ?_⟩
  have h' := post_bind.mp (h (PFk (envOfC x (defScope st) s.heap.objs.size f (.ref c)) q ls))
  show R.post _ (FB K φ H _) _
  revert h'; cases er : m (PFk (envOfC x (defScope st) s.heap.objs.size f (.ref c)) q ls) (ws.map some ++ List.replicate (N.length - ws.length) none) A1 with
  | ok fl A2 =>
    intro h'
    cases fl with
    | rt w => exact h'
    | nx ρ => exact fun φ' H' σ' l S' _ => h' φ' H' .non l S' rfl
    | bk ρ => exact h'.elim
    | ct ρ => exact h'.elim
  | exc y A2 => intro h'; exact h'.elim
  | bad => intro h'; exact h'.elim
end
noncomputable def lawTab (K : PySem.W.Frag) (x : Str) (Pt : Addr) : Bool := match PySem.W.tabIn K x with
  | some (c, P) => P == Pt && PySem.W.codeHdIn K c Pt
  | none => false
private theorem lawTab_of {K : PySem.W.Frag} {x : Str} {Pt : Addr} (h : lawTab K x Pt = true) : ∃ c, PySem.W.tabIn K x = some (c, Pt) ∧ PySem.W.codeHdIn K c Pt = true := by
  unfold lawTab at h
  split at h
  · rename_i c P e
    rw [Bool.and_eq_true, beq_iff_eq] at h
    obtain ⟨rfl, h2⟩ := h
    exact ⟨c, e, h2⟩
  · cases h
private theorem walkT {l : PySem.W.OpenLaw} {k : Nat} {q : Program} {loose : List Str} {XP : (Str → Option Value) → Heap → Prop} {YP : World → Heap → Prop} {d : DefRec} {Kp : Params → PySem.W.Frag} {x qn : Str} {fs : Addr → PFam → Fn} {Pt : Addr} (ok : LawOkT qn fs)
    (hn : l.most = some 63) (hdf : d.params.defaults = []) (hr : Room k callerA) (hY : ∀ (w : World) (h : Heap), YP w h → (Kp w.params).In h) (hT : ∀ (w : World) (h : Heap), YP w h → h.get? Pt = some (PySem.W.tabObj #[])) (ht : ∀ p, lawTab (Kp p) d.name Pt = true) (hKP : ∀ p, (Kp p).lookup Pt = none)
    (F : ∀ (w : World) (mg : Str → Option Value) (fa : Addr) (h : Heap), (Kp w.params).In h → h.Ns mainGlobals mg → mg d.name = some (.ref fa) → (∃ c, PySem.W.tabIn (Kp w.params) d.name = some (c, Pt) ∧ PySem.W.codeHdIn (Kp w.params) c Pt = true) →
      ∃ fd : FuncData, (∀ (s : Shared) (u : Value), BindsTo s fd ⟨[u], []⟩ [(x, u)]) ∧ ∀ base : Heap, (Kp w.params).In base → base.Ns mainGlobals mg → BMain mg base → FnOk l.prog w (Kp w.params) mg base CX0 k fa fd [x] (spT (Kp w.params) 1 (fs Pt))) :
    PySem.W.WalkO q loose XP YP l.row.toRowW d [] (fun f vs => PySem.call f vs) := by
  refine Att.attach_call (n := 63) hn hdf fun w s₀ s₁ mg mb fa o pm cd doc a vs ns G Y ho hd hcd' hmg hobj hints hlen hg => ?_
  have KX := hY w _ Y
  obtain ⟨fd, hb, hF⟩ := F w mg fa _ KX G.T.g hmg (lawTab_of (ht w.params))
  obtain ⟨c, _, hcd⟩ := lawTab_of (ht w.params)
  have hP := hT w _ Y
  have hc : isCodeTable s₁.heap Pt := ((PySem.W.codeHd_of_K KX hcd).tab hP).isCodeTable
  have hbm : BMain mg s₁.heap := by
    obtain ⟨bm, ob, b1, b2, b3, b4, b5, b6⟩ := G.T.bmain
    refine ⟨bm, ob, b1, b2, fun z => ?_, b3, b4, b5, b6⟩
    obtain ⟨o, es, ep, e, hd, _⟩ := G.T.g
    (first | exact PyNso (e) (z ▸ b3) | (rw [z, e] at b3; cases b3)); (first | exact PyNso (hd) b6 | exact PyNso b6 (hd) | cases PySos (hd) b6 | (rw [hd] at b6; cases b6))
  refine law_callT KX G.T.g G.T.b G.T.builtins G.T.nolimit hg hobj hints (Nat.le_trans hlen (by decide)) hr hP (hKP w.params) hc hbm hF hb fun H h1 h2 => ?_
  refine ⟨rfl, [a, Pt], [.ro (ns.map W.int), .tab qn Pt], [.ref 0], law_startT h1 h2, .one ⟨a, rfl, rfl⟩, fun PF => ?_⟩
  obtain ⟨A, e⟩ := ok ns hlen Pt PF
  rw [e]
  exact fun φ' H' v _ _ r => r
end Mi
namespace Mi
open PySem PySem.Spec PyProof.Rows L2
private theorem FnX.m {P : Program} {w : World} {K : PySem.W.Frag} {mg : Str → Option Value} {base : Heap} {k n : Nat} {x : Str} {f : Fn} (F : FnX P w K mg base k x n f) : FnM P w K mg base k x n fun ws A => (f ws A).nox := by
  obtain ⟨fa, fd, ps, F, hm, hk, hb⟩ := F
  have up : ∀ vs H Q E, spM K n (fun ws A => (f ws A).nox) vs H Q E → spX K n f vs H Q (fun _ _ _ => False) := fun vs H Q E ⟨hl, φ, A, ws, S, r, h⟩ => ⟨hl, φ, A, ws, S, r, by
    cases er : f ws A with
    | ok u A1 => (try dsimp only at h); rw [er] at h; exact h
    | exc y A1 => (try dsimp only at h); rw [er] at h; exact h.elim
    | bad => (try dsimp only at h); rw [er] at h; exact h.elim⟩
  refine ⟨fa, fd, ps, ⟨fun vs H Q E h => F.len vs H Q _ (up vs H Q E h), fun A outer s H args us vs Q E hr he hbt hv h => ?_⟩, hm, hk, hb⟩
  refine codeAny_mono (F.run A outer s H args us vs Q _ hr he hbt hv (up vs H Q E h)) fun r s' h' => ?_
  cases r with
  | error e =>
    unfold CR at h'
    obtain ⟨_, _, _, _, _, _, _, _, _, _, z⟩ := h'
    exact z.elim
  | ok fl => cases fl <;> exact h'
private theorem FnX.mono {P : Program} {w : World} {K : PySem.W.Frag} {mg : Str → Option Value} {base : Heap} {j k n : Nat} {x : Str} {f : Fn} (F : FnX P w K mg base j x n f) (h : j ≤ k) : FnX P w K mg base k x n f := by cases F with | mk fa fd ps F a b c => exact ⟨fa, fd, ps, F.mono h, a, b, c⟩
noncomputable abbrev bmV : List Value := [.type "ValueError", .type "Exception", .type "BaseException", .type "object"]
noncomputable abbrev newV : String := "ValueError.__new__"
section
variable {K : PySem.W.Frag} {cs : List Str} {top x nm : Str}
noncomputable def clsAt (K : PySem.W.Frag) (x : Str) : Addr := match PySem.W.nsIn K mainGlobals x with
  | some (some (.ref C)) => C
  | _ => 0
noncomputable def isAt (K : PySem.W.Frag) (x : Str) : Bool := PySem.W.nsIn K mainGlobals x == some (some (.ref (clsAt K x)))
noncomputable def isF (cs : List Str) (x : Str) : Str → Option Bool := fun nm => if cs.contains nm then some (nm == x) else none
noncomputable def isV (cs : List Str) : Str → Option Bool := fun nm => if cs.contains nm then some true else none
noncomputable def clsRow (K : PySem.W.Frag) (cs : List Str) (x : Str) : Bool := isAt K x && PySem.W.kitOne K (.type "NoneType") (.ref (clsAt K x)) == some false && cs.all fun nm => PySem.W.kitOne K (.ref (clsAt K nm)) (.ref (clsAt K x)) == some (nm == x)
noncomputable def excRow (K : PySem.W.Frag) (top nm : Str) : Bool := isAt K nm && excKit K (clsAt K nm) && Mi.excB K (clsAt K nm) bmV newV && upIn K (clsAt K nm) (clsAt K top) && PySem.W.kitOne K (.ref (clsAt K nm)) (.type "ValueError") == some true
noncomputable def topRow (K : PySem.W.Frag) (top : Str) : Bool := isAt K top && Mi.excB K (clsAt K top) bmV newV && PySem.W.kitOne K (.type "NoneType") (.type "ValueError") == some false
private theorem isAt_of (h : isAt K x = true) : ClsOf K x (.ref (clsAt K x)) := beq_iff_eq.mp h
private theorem cls_uniq {C : Addr} (h : ClsOf K x (.ref C)) : C = clsAt K x := by
  unfold clsAt
  unfold ClsOf at h
  rw [h]
structure ExcFacts (K : PySem.W.Frag) (top nm : Str) : Prop where
  at_ : ClsOf K nm (.ref (clsAt K nm))
  kit : excKit K (clsAt K nm) = true
  exc : Mi.excB K (clsAt K nm) bmV newV = true
  up : upIn K (clsAt K nm) (clsAt K top) = true
  val : PySem.W.kitOne K (.ref (clsAt K nm)) (.type "ValueError") = some true
private theorem exc_of (h : excRow K top nm = true) : ExcFacts K top nm := by
  unfold excRow at h
  simp only [Bool.and_eq_true, beq_iff_eq] at h
  obtain ⟨⟨⟨⟨h1, h2⟩, h3⟩, h4⟩, h5⟩ := h
  exact ⟨isAt_of h1, h2, h3, h4, h5⟩
structure Cls (K : PySem.W.Frag) (cs : List Str) (top : Str) : Prop where
  exc : ∀ nm, cs.contains nm = true → ExcFacts K top nm
  top_at : ClsOf K top (.ref (clsAt K top))
  top_exc : Mi.excB K (clsAt K top) bmV newV = true
  non : PySem.W.kitOne K (.type "NoneType") (.type "ValueError") = some false
private theorem cls_mk (h : cs.all (excRow K top ·) = true) (t : topRow K top = true) : Cls K cs top := by
  unfold topRow at t
  simp only [Bool.and_eq_true, beq_iff_eq] at t
  obtain ⟨⟨t1, t2⟩, t3⟩ := t
  exact ⟨fun nm e => exc_of (List.all_eq_true.mp h nm (List.contains_iff_mem.mp e)), isAt_of t1, t2, t3⟩
private theorem Cls.isx (c : Cls K cs top) (h : clsRow K cs x = true) : IsxOk K (isF cs x) (.ref (clsAt K x)) := by
  unfold clsRow at h
  simp only [Bool.and_eq_true, beq_iff_eq] at h
  obtain ⟨⟨h1, h2⟩, h3⟩ := h
  refine ⟨h2, fun nm C b e hc => ?_⟩
  unfold isF at e
  by_cases hm : cs.contains nm = true
  · (first | exact PyNso (if_pos hm) e | exact PyNso e (if_pos hm) | cases PySos (if_pos hm) e | (rw [if_pos hm] at e; cases e))
    cases cls_uniq hc
    exact ⟨(c.exc nm hm).kit, beq_iff_eq.mp (List.all_eq_true.mp h3 nm (List.contains_iff_mem.mp hm))⟩
  · (first | exact PyNso (if_neg hm) e | exact PyNso e (if_neg hm) | cases PySos (if_neg hm) e | (rw [if_neg hm] at e; cases e))
private theorem cls_at (h : clsRow K cs x = true) : ClsOf K x (.ref (clsAt K x)) := by
  unfold clsRow at h
  simp only [Bool.and_eq_true, beq_iff_eq] at h
  exact isAt_of h.1.1
private theorem Cls.isv (c : Cls K cs top) : IsxOk K (isV cs) (.type "ValueError") := by
  refine ⟨c.non, fun nm C b e hc => ?_⟩
  unfold isV at e
  by_cases hm : cs.contains nm = true
  · (first | exact PyNso (if_pos hm) e | exact PyNso e (if_pos hm) | cases PySos (if_pos hm) e | (rw [if_pos hm] at e; cases e))
    cases cls_uniq hc
    exact ⟨(c.exc nm hm).kit, (c.exc nm hm).val⟩
  · (first | exact PyNso (if_neg hm) e | exact PyNso e (if_neg hm) | cases PySos (if_neg hm) e | (rw [if_neg hm] at e; cases e))
private theorem Cls.under (c : Cls K cs top) : ∀ nm, cs.contains nm = true → ∀ C, ClsOf K nm (.ref C) → ∃ bmC newC, Mi.excB K C bmC newC = true ∧ upIn K C (clsAt K top) = true := fun nm hm C hc => by
  cases cls_uniq hc
  exact ⟨_, _, (c.exc nm hm).exc, (c.exc nm hm).up⟩
end
section
variable {X : Cx} {g : Heap} {xr : XR} {e : Expr} {es : List Expr} {mr : Ea} {x top : Str} {np cpos pos : Pos} {n : Nat}
private theorem ss_raiseC (xo : XeOk X g xr) (c : ExcFacts X.K top x) (ha : SA X xr (e :: es) mr) (hl : ALen mr n) (hn : autoParam (n ≤ sizeLine) PyProof.Rows.glB_def._auto_7) (hg : autoParam (Gl X x) PyProof.Rows.call_M_of_MD._auto_3) (hcalm : autoParam (X.calm = true) PyProof.Rows.call_M_of_MD._auto_3)
    (hdb : autoParam ((x == ("__debug__" : Str)) = false) PyProof.Rows.glB_def._auto_7) (he : autoParam (starEach (e :: es) X.env = (false, eval e X.env) :: starEach es X.env) PyProof.Rows.call_M_of_MD._auto_3) (hpl : autoParam ((backTo cpos (starEach es X.env)).any (·.1) = false) PyProof.Rows.call_M_of_MD._auto_3) :
    SS X xr (.Raise (some (.Call (.Name x np) (e :: es) [] cpos)) none pos) (xRaise x mr) := ss_raise xo c.at_ c.exc PySem.F.excBase_ValueError ha hl hn hg hcalm hdb he hpl
end
section
variable {X : Cx} {xr : XR} {e : Expr} {es : List Expr} {m : Ev} {ms : List Ev}
private theorem sj_nil : SJ X xr [] [] := .nil
private theorem sj_cons (h : SE X xr e m) (r : SJ X xr es ms) : SJ X xr (e :: es) (m :: ms) := .cons h r
end
end Mi
namespace Mi
open PySem PySem.Spec PyProof.Rows L2
noncomputable def lmIxB (M : List Str) (sc : Scope) (t : Lm) : Bool := t.idx.length == t.N.length && ((List.range t.N.length).all fun i => match t.N[i]?, t.idx[i]? with
  | some x, some j => M[j]? == some x && t.scope.names.lookup x == some .free
  | _, _ => false) && t.scope.names.all fun y => !(y.2 == .free) || (sc.names.lookup y.1 == some .cell || sc.names.lookup y.1 == some .free)
private theorem lmIx_of {X : Cx} {t : Lm} (h : lmIxB X.N X.env.scope t = true) : LmIx X t := by
  unfold lmIxB at h
  rw [Bool.and_eq_true, Bool.and_eq_true] at h
  obtain ⟨⟨h1, h2⟩, h3⟩ := h
  refine ⟨beq_iff_eq.mp h1, fun i x j e1 e2 => ?_, fun y hy e => ?_⟩
  · have hi : i < t.N.length := (List.getElem?_eq_some_iff.mp e1).1
    have q := List.all_eq_true.mp h2 i (List.mem_range.mpr hi)
    rw [e1, e2] at q
    dsimp only at q
    rw [Bool.and_eq_true] at q
    exact ⟨beq_iff_eq.mp q.1, beq_iff_eq.mp q.2⟩
  · have q := List.all_eq_true.mp h3 y hy
    rw [e] at q
    rw [Bool.or_eq_true, Bool.or_eq_true] at q
    rcases q with q | q | q
    · cases q
    · exact .inl (beq_iff_eq.mp q)
    · exact .inr (beq_iff_eq.mp q)
private theorem all_nil {α : Type} {p : α → Prop} : ∀ t ∈ ([] : List α), p t := fun _ h => nomatch h
private theorem all_cons {α : Type} {p : α → Prop} {a : α} {l : List α} (h : p a) (r : ∀ t ∈ l, p t) : ∀ t ∈ a :: l, p t := fun t ht => by
  rcases List.mem_cons.mp ht with e | e
  · (first | exact ((e).trans (h)) | (rw [e]; exact h))
  · exact r t e
private theorem PFk_eq {env : Env} {q : Str} {ls : List Lm} {k : Nat} {t : Lm} (ht : ls[k]? = some t) : PFk env q ls k = PLam q t.params t.body t.scope (closeL env t.scope.names []) := by
  funext ob c oc vs
  refine propext ⟨fun ⟨t', e, h⟩ => ?_, fun h => ⟨t, ht, h⟩⟩
  (first | exact PyNso (ht) e | exact PyNso e (ht) | cases PySos (ht) e | (rw [ht] at e; cases e))
  exact h
section
variable {X : Cx} {xr : XR} {n k : Nat} {q : Str} {Pt c : Addr} {ls : List Lm} {t : Lm} {pos : Pos}
private theorem se_lamK (ht : ls[k]? = some t) (L : lmIxB X.N X.env.scope t = true) (hB : BMain X.mg X.base) (hcode : X.env.code = .ref c) (C : PySem.W.CodeHd X.base c Pt) (hq : X.env.qual ++ "<lambda>" = q) (hdef : defaultsOf t.params X.env = ([], [])) :
    SE X xr (.Lambda t.params t.body t.scope pos) (mLam n q Pt k (PFk X.env q ls k)) := by
  intro pins s σ H Q I h
  rw [PFk_eq ht] at h
  exact se_lam hB hcode C (closure_ok fun y hy e => I.ok.has _ ((lmIx_of L).free y hy e)) hq hdef pins s σ H Q I h
end
noncomputable def pass0' : Stmt := .Pass ⟨0, 0, 0, 0⟩
noncomputable def none0 : Expr := .Constant .none 0 ⟨0, 0, 0, 0⟩
noncomputable def subS (s : Stmt) (i : Nat) : Stmt := match s with
  | .For _ _ b _ _ => b.getD i pass0'
  | .If _ b _ _ => b.getD i pass0'
  | .While _ b _ _ => b.getD i pass0'
  | _ => pass0'
noncomputable def valS (s : Stmt) : Expr := match s with
  | .Assign _ v _ => v
  | .Expr v _ => v
  | .Return (some v) _ => v
  | _ => none0
noncomputable def argE (e : Expr) (i : Nat) : Expr := match e with
  | .Call _ a _ _ => a.getD i none0
  | .List es _ => es.getD i none0
  | .Tuple es _ _ => es.getD i none0
  | .BinOp a _ b _ => if i = 0 then a else b
  | _ => none0
noncomputable def lamP (e : Expr) : Arguments := match e with
  | .Lambda a _ _ _ => a
  | _ => { posonlyargs := [], args := [], vararg := none, kwonlyargs := [], kw_defaults := [], kwarg := none, defaults := [] }
noncomputable def lamB (e : Expr) : Expr := match e with
  | .Lambda _ b _ _ => b
  | _ => none0
noncomputable def lamS (e : Expr) : Scope := match e with
  | .Lambda _ _ s _ => s
  | _ => { kind := .function, names := [], isGenerator := false, isCoroutine := false }
noncomputable def lmOf (e : Expr) (N : List Str) (idx : List Nat) (m : Ev) : Lm := ⟨N, idx, lamP e, lamB e, lamS e, m⟩
end Mi
namespace Mi
open PySem PySem.Spec PyProof.Rows L2
private theorem fnBad {P : Program} {w : World} {K : PySem.W.Frag} {mg : Str → Option Value} {base : Heap} {x : Str} {st : Stmt} {f : Addr} {fd : FuncData} {ps : List Str} {k : Nat} (F : Fun K x x st f fd) (hm : mg x = some (.ref f))
    (hb : ∀ (kV doc pm : Value) (an : Option Addr) (cdv ct : Value) (us : List Value), us.length = ps.length → bindArgs (PySem.W.fnOf x x (defArgs st) (defBody st) (defScope st) .none kV doc pm an cdv ct) ⟨us, []⟩ = pure (ps.zip us)) : FnM P w K mg base k x ps.length (fun _ _ => .bad) :=
  ⟨f, fd, ps, ⟨fun vs H Q E h => h.1, fun A outer s H args us vs Q E _ _ _ _ h => by obtain ⟨_, _, _, _, _, _, z⟩ := h; exact z.elim⟩, hm, F.kp, F.binds hb⟩
end Mi
namespace Mi
open PySem PySem.Spec PyProof.Rows L2
private theorem kit_any {K : PySem.W.Frag} (t a b : Ty) : PySem.W.kitAny K (.type t.nm) [.type a.nm, .type b.nm] = some (subT t a || subT t b) := by
  unfold PySem.W.kitAny
  rw [kit_one]
  cases subT t a with
  | true => rfl
  | false =>
    dsimp only
    unfold PySem.W.kitAny
    rw [kit_one]
    cases subT t b <;> rfl
section
variable {X : Cx} {xr : XR} {e a b : Expr} {m ma mb : Ev} {pos p p1 p2 pt : Pos} {x x1 x2 : Str} {kt : Nat}
private theorem TyR.kitx {pins : List (Addr × Obj)} {σ : St} {H : Hp} {s : Shared} {x : V} {u : Value} {t : Ty} (I : Inv X pins σ H s) (r : RelV x u) (h : TyR X.K H x t) : ∃ Hq : Heap → Prop, PySem.W.KitX X.K u (.type t.nm) Hq ∧ Hq s.heap ∧ u ≠ .builtin "__main__.__loader__#opaque" := by
  rcases h with h | ⟨a, xs, rfl, h, rfl⟩
  · generalize hT : Value.type t.nm = T at h
    cases h with
    | non => cases (show u = Value.none from r); exact ⟨_, PySem.W.kitx_none, True.intro, fun z => nomatch z⟩
    | bl y => cases (show u = Value.bool y from r); exact ⟨_, PySem.W.kitx_bool, True.intro, fun z => nomatch z⟩
    | int i => obtain ⟨t, q⟩ := (show ∃ t, u = Value.int i t from r); cases q; exact ⟨_, PySem.W.kitx_int, True.intro, fun z => nomatch z⟩
    | str y => obtain ⟨t, q⟩ := (show ∃ t, u = Value.str y t from r); cases q; exact ⟨_, PySem.W.kitx_str, True.intro, fun z => nomatch z⟩
    | flt y => obtain ⟨t, q⟩ := (show ∃ t, u = Value.float y t from r); cases q; exact ⟨_, PySem.W.kitx_float, True.intro, fun z => nomatch z⟩
    | @lst a xs ea =>
      cases (show u = Value.ref a from r)
      obtain ⟨_, _, n, _, h1⟩ := (show ObjOk X.prog X.w H s.heap a (.lst xs) from I.hok a _ ea)
      exact ⟨_, PySem.W.kitx_list, ⟨_, h1, rfl⟩, fun z => nomatch z⟩
    | @frz a ob xs ea =>
      cases (show u = Value.ref a from r)
      obtain ⟨_, _, _, n, _, h1⟩ := (show ObjOk X.prog X.w H s.heap a (.frz ob (.lst xs)) from I.hok a _ ea)
      exact ⟨_, PySem.W.kitx_list, ⟨_, h1, rfl⟩, fun z => nomatch z⟩
    | @tup a xs ea =>
      cases (show u = Value.ref a from r)
      obtain ⟨_, _, _, p⟩ := (show ObjOk X.prog X.w H s.heap a (.tup xs) from I.hok a _ ea)
      obtain ⟨o, h1, h2, _⟩ := p
      exact ⟨_, PySem.W.kitx_tuple, ⟨o, h1, h2.1⟩, fun z => nomatch z⟩
    | @dK a kvs ea =>
      cases (show u = Value.ref a from r)
      obtain ⟨_, _, _, _, o, _, _, h1, h2, _⟩ := (show ObjOk X.prog X.w H s.heap a (.dK kvs) from I.hok a _ ea)
      exact ⟨_, PySem.W.kitx_dict, ⟨o, h1, h2.1⟩, fun z => nomatch z⟩
    | @dT a kvs ea =>
      cases (show u = Value.ref a from r)
      obtain ⟨_, _, _, _, o, _, _, h1, h2, _⟩ := (show ObjOk X.prog X.w H s.heap a (.dT kvs) from I.hok a _ ea)
      exact ⟨_, PySem.W.kitx_dict, ⟨o, h1, h2.1⟩, fun z => nomatch z⟩
    | ins => cases hT
  · cases (show u = Value.ref a from r)
    obtain ⟨its, _, ⟨o, h1, h2, _⟩, _⟩ := I.tuple h
    exact ⟨_, PySem.W.kitx_tuple, ⟨o, h1, h2⟩, fun z => nomatch z⟩
noncomputable def rIs2 (K : PySem.W.Frag) (a b : Ty) : List V → Hp → VK → Prop := fun xs H Q => ∃ x t l, xs = [x, .ref l] ∧ SqT K H l [.ty (Ty.nm a), .ty (Ty.nm b)] ∧ TyR K H x t ∧ Q (.bl (subT t a || subT t b)) H
private theorem call_is2 {a b : Ty} : CallR X (.builtin "isinstance") (rIs2 X.K a b) := by
  intro pins s σ H xs us Q I r h
  obtain ⟨x, t, l, rfl, hs, ht, q⟩ := h
  obtain ⟨u, u', rfl, ru, ru'⟩ := vals2 r
  cases (show u' = Value.ref l from ru')
  obtain ⟨its, rv, ⟨o, h1, h2, k, h3⟩, _⟩ := I.tuple hs
  obtain ⟨u1, u2, rfl, r1, r2⟩ := vals2 rv
  cases (show u1 = Value.type a.nm from r1)
  cases (show u2 = Value.type b.nm from r2)
  obtain ⟨Hq, Z, hz, ne⟩ := ht.kitx I ru
  obtain ⟨o1, o2, o3, o4⟩ := o
  cases (show o1 = _ from h2)
  cases (show o3 = _ from h3)
  exact PySem.W.kia_tup Z I.kIn hz h1 (kit_any t a b) ne fun tk => ⟨.bl (subT t a || subT t b), H, I.tok tk, rfl, q⟩
noncomputable def mIs2 (t t2 : Ty) (m : Ev) : Ev := fun ρ A => (m ρ A).bind fun w A1 => match tyW w A1 with
  | some t' => .ok (.bl (subT t' t || subT t' t2)) A1
  | none => .bad
private theorem se_is2 (t t2 : Ty) (hm : X.mg "isinstance" = none) (hm1 : X.mg x1 = none) (hm2 : X.mg x2 = none) (hx1 : bootBuiltins x1 = some (.type t.nm)) (hx2 : bootBuiltins x2 = some (.type t2.nm)) (ha : SE X xr e m) (hg : autoParam (Gl X "isinstance") PyProof.Rows.call_M_of_MD._auto_3) (hg1 : autoParam (Gl X x1) PyProof.Rows.call_M_of_MD._auto_3) (hg2 : autoParam (Gl X x2) PyProof.Rows.call_M_of_MD._auto_3)
    (hn1 : autoParam (x1 ≠ "__name__") PyProof.Rows.glB_def._auto_7) (hd1 : autoParam ((x1 == ("__debug__" : Str)) = false) PyProof.Rows.glB_def._auto_7) (hn2 : autoParam (x2 ≠ "__name__") PyProof.Rows.glB_def._auto_7) (hd2 : autoParam ((x2 == ("__debug__" : Str)) = false) PyProof.Rows.glB_def._auto_7)
    (h0 : autoParam (starEach [.Name x1 p1, .Name x2 p2] X.env = (false, eval (.Name x1 p1) X.env) :: starEach [.Name x2 p2] X.env) PyProof.Rows.call_M_of_MD._auto_3) (h00 : autoParam (starEach [.Name x2 p2] X.env = (false, eval (.Name x2 p2) X.env) :: starEach [] X.env) PyProof.Rows.call_M_of_MD._auto_3)
    (h1 : autoParam (starEach [e, .Tuple [.Name x1 p1, .Name x2 p2] kt pt] X.env = (false, eval e X.env) :: starEach [.Tuple [.Name x1 p1, .Name x2 p2] kt pt] X.env) PyProof.Rows.call_M_of_MD._auto_3) (h2 : autoParam ((backTo pos (starEach [.Tuple [.Name x1 p1, .Name x2 p2] kt pt] X.env)).any (·.1) = false) PyProof.Rows.call_M_of_MD._auto_3) :
    SE X xr (.Call (.Name "isinstance" p) [e, .Tuple [.Name x1 p1, .Name x2 p2] kt pt] [] pos) (mIs2 t t2 m) :=
  PE.imp (pe_callB call_is2 hg hm (by rfl) (pa_cons ha (pa_cons (pe_tup (pa_cons (pe_bltn hg1 hm1 hx1 (v := .ty t.nm) rfl hn1 hd1) (pa_cons (pe_bltn hg2 hm2 hx2 (v := .ty t2.nm) rfl hn2 hd2) pa_nil h00) h0)) pa_nil) h1) (by decide) (by decide) h1 h2) fun σ H Q ⟨φ, A, ρ, S, re, h⟩ => by
    refine tM.go S re (post_bind.mp h) fun w A1 φ1 H1 v h1 l1 S1 q1 => ?_
    revert h1; cases et : tyW w A1 with
    | none => intro h1; exact h1.elim
    | some t' =>
      intro h1
      refine ⟨by show 2 ≤ sizeLine; decide, fun l hl => ⟨v, t', l, rfl, SqT.of upd_same, ?_, h1 φ1 _ _ (l1.trans (Le.new hl)) (S1.lay hl) rfl⟩⟩
      exact tyW_read (S1.lay hl) (q1.mono (Le.new hl)) et
noncomputable def xAsg (m : Ev) (tw : Tg) : Ex := fun ρ A => (m ρ A).bind fun w A1 => match tw w ρ with
  | some ρ' => .ok (.nx ρ') A1
  | none => .bad
private theorem ss_asg {tg : Expr} {tw : Tg} (he : SE X xr e m) (hg : SG X tg tw) (hs : autoParam (swapsWithSole [tg] e pos.line X.env = pure false) PyProof.Rows.call_M_of_MD._auto_3) (hw : autoParam (swappedStores [tg] e X.env = pure none) PyProof.Rows.call_M_of_MD._auto_3) (h1 : autoParam ((assignEach [tg] X.env).map (·.2) = [assign tg X.env]) PyProof.Rows.call_M_of_MD._auto_3) : SS X xr (.Assign [tg] e pos) (xAsg m tw) :=
  PS.imp (ps_asg he hg hs hw h1) fun D σ H ⟨φ, A, ρ, S, re, h⟩ => by
    refine tM.go S re (post_bind.mp h) fun w A1 φ1 H1 v h1 l1 S1 q1 => ?_
    revert h1; cases et : tw w ρ with
    | none => intro h1; exact h1.elim
    | some ρ' =>
      intro h1
      exact ⟨φ1, A1, ρ, w, ρ', S1, re.mono l1, q1, et, fun σ' re' => h1 φ1 H1 σ' l1 S1 re'⟩
noncomputable def xPar (i j : Nat) (ma mb : Ev) : Ex := fun ρ A => (ma ρ A).bind fun x A1 => (mb ρ A1).bind fun y A2 => .ok (.nx ((ρ.set i (some x)).set j (some y))) A2
private theorem ss_par (i j : Nat) {x y : Str} {px py pt2 : Pos} {k2 : Nat} (hc : X.calm = true) (hN : X.N.Nodup) (ha : SE X xr a ma) (hb : SE X xr b mb) (hi : autoParam (X.N[i]? = some x) PyProof.Rows.call_M_of_MD._auto_3) (hj : autoParam (X.N[j]? = some y) PyProof.Rows.call_M_of_MD._auto_3) (hij : autoParam (i ≠ j) PyProof.Rows.glB_def._auto_7)
    (hx : autoParam (X.env.scope.names.lookup x = some .local) PyProof.Rows.call_M_of_MD._auto_3) (hy : autoParam (X.env.scope.names.lookup y = some .local) PyProof.Rows.call_M_of_MD._auto_3)
    (hw : autoParam (swappedStores [.Tuple [.Name x px, .Name y py] kt pt] (.Tuple [a, b] k2 pt2) X.env = pure (some [x, y])) PyProof.Rows.call_M_of_MD._auto_3)
    (hs : autoParam (swapsWithSole [.Tuple [.Name x px, .Name y py] kt pt] (.Tuple [a, b] k2 pt2) pos.line X.env = pure false) PyProof.Rows.call_M_of_MD._auto_3)
    (h1 : autoParam (starEach [a, b] X.env = (false, eval a X.env) :: starEach [b] X.env) PyProof.Rows.call_M_of_MD._auto_3) (h2 : autoParam (starEach [b] X.env = (false, eval b X.env) :: starEach [] X.env) PyProof.Rows.call_M_of_MD._auto_3) :
    SS X xr (.Assign [.Tuple [.Name x px, .Name y py] kt pt] (.Tuple [a, b] k2 pt2) pos) (xPar i j ma mb) :=
  PS.imp (ps_par hc hN hi hj hij hx hy (pa_cons ha (pa_cons hb pa_nil h2) h1) hw hs) fun D σ H ⟨φ, A, ρ, S, re, h⟩ => by
    refine tM.go S re (post_bind.mp h) fun w A1 φ1 H1 v h1 l1 S1 q1 => ?_
    refine tM.go S1 (re.mono l1) (post_mono (post_bind.mp h1) (fun _ _ z => z) fun _ _ z => z.mono l1) fun w2 A2 φ2 H2 v2 h2 l2 S2 q2 => ?_
    exact ⟨v, v2, rfl, h2 φ2 H2 _ (l1.trans l2) S2 (((re.mono (l1.trans l2)).set (q1.mono l2)).set q2)⟩
end
end Mi
namespace Y
open PySem PySem.Spec PyProof.Rows L2 Mi
@[irreducible] noncomputable def YJ (X : Cx) (xr : XR) (es : List Expr) (ms : List Ev) : Prop := Mi.SJ X xr es ms
private theorem YJ_eq : @YJ = @Mi.SJ := by
  funext X xr es ms
  unfold YJ
  rfl
section
private theorem se_callX {X : Cx} {g : Heap} {xr : XR} {e : Expr} {es : List Expr} {pos : Pos} {k n : Nat} {x : Str} {p : Pos} {f : Fn} {mr : Ea} (xo : XeOk X g xr) (F : FnX X.prog X.w X.K X.mg X.base k x n f) (hr : Room k X.A) (ha : YA X xr (e :: es) mr) (hl : ALen mr n) (hg : autoParam (Gl X x) PyProof.Rows.call_M_of_MD._auto_3)
    (hdb : autoParam ((x == ("__debug__" : Str)) = false) PyProof.Rows.glB_def._auto_7) (he : autoParam (starEach (e :: es) X.env = (false, eval e X.env) :: starEach es X.env) PyProof.Rows.call_M_of_MD._auto_3) (hpl : autoParam ((backTo pos (starEach es X.env)).any (·.1) = false) PyProof.Rows.call_M_of_MD._auto_3) :
    YE X xr (.Call (.Name x p) (e :: es) [] pos) (mCall f mr) := by
  (try simp only [YE_eq, YA_eq, YT_eq, YW_eq, YS_eq, YSs_eq, YI_eq, YG_eq, YF_eq, YQ_eq, YTs_eq, YM_eq, YJ_eq] at *)
  exact Mi.se_callX xo F hr ha hl hg hdb he hpl
private theorem st_nox {X : Cx} {xr : XR} {e : Expr} {m : Ev} (h : YT X.nox xr0 e m) : YT X xr e fun ρ A => (m ρ A).nox := by
  (try simp only [YE_eq, YA_eq, YT_eq, YW_eq, YS_eq, YSs_eq, YI_eq, YG_eq, YF_eq, YQ_eq, YTs_eq, YM_eq, YJ_eq] at *)
  exact Mi.st_nox h
private theorem ss_noxs {X : Cx} {xr : XR} {m1 : Ex} {sts : List Stmt} (h : YSs X.nox xr0 sts m1) : YSs X xr sts fun ρ A => (m1 ρ A).nox := by
  (try simp only [YE_eq, YA_eq, YT_eq, YW_eq, YS_eq, YSs_eq, YI_eq, YG_eq, YF_eq, YQ_eq, YTs_eq, YM_eq, YJ_eq] at *)
  exact Mi.ss_noxs h
private theorem se_fmt {X : Cx} {xr : XR} {e : Expr} {m : Ev} {pos : Pos} (h : YE X xr e m) : YE X xr (.FormattedValue e (-1) none pos) (mFmt m) := by
  (try simp only [YE_eq, YA_eq, YT_eq, YW_eq, YS_eq, YSs_eq, YI_eq, YG_eq, YF_eq, YQ_eq, YTs_eq, YM_eq, YJ_eq] at *)
  exact Mi.se_fmt h
private theorem sj_nil {X : Cx} {xr : XR} : YJ X xr [] [] := by
  (try simp only [YE_eq, YA_eq, YT_eq, YW_eq, YS_eq, YSs_eq, YI_eq, YG_eq, YF_eq, YQ_eq, YTs_eq, YM_eq, YJ_eq] at *)
  exact Mi.sj_nil
private theorem sj_cons {X : Cx} {xr : XR} {e : Expr} {es : List Expr} {m : Ev} {ms : List Ev} (h : YE X xr e m) (r : YJ X xr es ms) : YJ X xr (e :: es) (m :: ms) := by
  (try simp only [YE_eq, YA_eq, YT_eq, YW_eq, YS_eq, YSs_eq, YI_eq, YG_eq, YF_eq, YQ_eq, YTs_eq, YM_eq, YJ_eq] at *)
  exact Mi.sj_cons h r
private theorem se_joined {X : Cx} {xr : XR} {v₁ : Expr} {v₂ : Expr} {es : List Expr} {m₁ : Ev} {m₂ : Ev} {ms : List Ev} {pos : Pos} (h1 : YE X xr v₁ m₁) (h2 : YE X xr v₂ m₂) (j : YJ X xr es ms) : YE X xr (.JoinedStr (v₁ :: v₂ :: es) pos) (mJ (m₁ :: m₂ :: ms) Str.empty) := by
  (try simp only [YE_eq, YA_eq, YT_eq, YW_eq, YS_eq, YSs_eq, YI_eq, YG_eq, YF_eq, YQ_eq, YTs_eq, YM_eq, YJ_eq] at *)
  exact Mi.se_joined h1 h2 j
private theorem ss_raiseC {X : Cx} {g : Heap} {xr : XR} {e : Expr} {es : List Expr} {mr : Ea} {x : Str} {top : Str} {np : Pos} {cpos : Pos} {pos : Pos} {n : Nat} (xo : XeOk X g xr) (c : ExcFacts X.K top x) (ha : YA X xr (e :: es) mr) (hl : ALen mr n) (hn : autoParam (n ≤ sizeLine) PyProof.Rows.glB_def._auto_7) (hg : autoParam (Gl X x) PyProof.Rows.call_M_of_MD._auto_3) (hcalm : autoParam (X.calm = true) PyProof.Rows.call_M_of_MD._auto_3)
    (hdb : autoParam ((x == ("__debug__" : Str)) = false) PyProof.Rows.glB_def._auto_7) (he : autoParam (starEach (e :: es) X.env = (false, eval e X.env) :: starEach es X.env) PyProof.Rows.call_M_of_MD._auto_3) (hpl : autoParam ((backTo cpos (starEach es X.env)).any (·.1) = false) PyProof.Rows.call_M_of_MD._auto_3) :
    YS X xr (.Raise (some (.Call (.Name x np) (e :: es) [] cpos)) none pos) (xRaise x mr) := by
  (try simp only [YE_eq, YA_eq, YT_eq, YW_eq, YS_eq, YSs_eq, YI_eq, YG_eq, YF_eq, YQ_eq, YTs_eq, YM_eq, YJ_eq] at *)
  exact Mi.ss_raiseC xo c ha hl hn hg hcalm hdb he hpl
private theorem fnX {P : Program} {w : World} {K : PySem.W.Frag} {mg : Str → Option Value} {base : Heap} {x : Str} {st : Stmt} {f : Addr} {fd : FuncData} {N ps : List Str} {k : Nat} {m : Ex} (F : Fun K x x st f fd) (hm : mg x = some (.ref f)) (S : FnScope N ps (defScope st))
    (hb : ∀ (kV doc pm : Value) (an : Option Addr) (cdv ct : Value) (us : List Value), us.length = ps.length → bindArgs (PySem.W.fnOf x x (defArgs st) (defBody st) (defScope st) .none kV doc pm an cdv ct) ⟨us, []⟩ = pure (ps.zip us))
    (hbody : ∀ (cdv : Value) (A : Around) (outer : List Env) (s : Shared) (H : Hp) (E : XK), Room k (A.deeper (envOfC x (defScope st) s.heap.objs.size f cdv)) →
      XeOk (cxOf (CXe P w) P w K mg base N x (defScope st) f cdv A outer s H E) s.heap (XE1 K E) → YSs (cxOf (CXe P w) P w K mg base N x (defScope st) f cdv A outer s H E) (XE1 K E) (defBody st) m) :
    FnX P w K mg base (k + 1) x ps.length (runX N.length m) := by
  (try simp only [YE_eq, YA_eq, YT_eq, YW_eq, YS_eq, YSs_eq, YI_eq, YG_eq, YF_eq, YQ_eq, YTs_eq, YM_eq, YJ_eq] at *)
  exact Mi.fnX F hm S hb hbody
private theorem ss_try {X : Cx} {xr : XR} {L : Addr} {D : Addr} {i : Nat} {j : Nat} {l : Nat} {kk : Nat} {x : Str} {n : Str} {y : Str} {xD : Str} {cs : List Str} {PG : Nat → Obj → Addr → Obj → List V → Prop} {lam : Nat → Fn} {bmD : List Value} {newD : String} {np : Pos} {cp : Pos} {ep : Pos} {dp : Pos} {yp : Pos} {np2 : Pos} {ap : Pos} {hp : Pos} {pos : Pos} (hL : ∀ k, LamOk X.prog X.w X.K X.mg X.base kk (PG k) (lam k)) (hr : Room kk X.A) (hst : X.stack = X.env :: X.outer) (hFr : X.env.frame = some L) (hD : ClsOf X.K xD (.ref D)) (exD : Mi.excB X.K D bmD newD = true) (hbD : bmD.contains (.type "BaseException") = true)
    (hcs : ∀ c, cs.contains c = true → ∀ C, ClsOf X.K c (.ref C) → ∃ bmC newC, Mi.excB X.K C bmC newC = true ∧ upIn X.K C D = true)
    (hN : X.N.Nodup) (hi : X.N[i]? = some x) (hx : X.env.scope.names.lookup x = some .local) (hl : X.N[l]? = some n) (hn : X.env.scope.names.lookup n = some .local) (hj : X.N[j]? = some y) (hy : X.env.scope.names.lookup y = some .local)
    (hg : Gl X xD) (hs1 : autoParam (swapsWith (.Call (.Name x np) [] [] cp) none ep.line X.env = pure false) PyProof.Rows.call_M_of_MD._auto_3) (hs2 : autoParam (swapsWith (.Name n np2) (some (.Name y yp)) ap.line X.env = pure false) PyProof.Rows.call_M_of_MD._auto_3)
    (hdx : autoParam ((x == ("__debug__" : Str)) = false) PyProof.Rows.glB_def._auto_7) (hdn : autoParam ((n == ("__debug__" : Str)) = false) PyProof.Rows.glB_def._auto_7) (hdD : autoParam ((xD == ("__debug__" : Str)) = false) PyProof.Rows.glB_def._auto_7) :
    YS X xr (.Try [.Expr (.Call (.Name x np) [] [] cp) ep] [.ExceptHandler (some (.Name xD dp)) (some n) [.Assign [.Name y yp] (.Name n np2) ap] hp] [] [] pos) (xTry i j l cs PG lam) := by
  (try simp only [YE_eq, YA_eq, YT_eq, YW_eq, YS_eq, YSs_eq, YI_eq, YG_eq, YF_eq, YQ_eq, YTs_eq, YM_eq, YJ_eq] at *)
  exact Mi.ss_try hL hr hst hFr hD exD hbD hcs hN hi hx hl hn hj hy hg hs1 hs2 hdx hdn hdD
private theorem se_isx {X : Cx} {xr : XR} {e : Expr} {m : Ev} {pos : Pos} {p : Pos} {p' : Pos} {f : Str → Option Bool} {x : Str} {C : Addr} (hx : IsxOk X.K f (.ref C)) (hc : ClsOf X.K x (.ref C)) (hm : X.mg "isinstance" = none) (ha : YE X xr e m) (hg : autoParam (Gl X "isinstance") PyProof.Rows.call_M_of_MD._auto_3) (hg' : autoParam (Gl X x) PyProof.Rows.call_M_of_MD._auto_3) (hd : autoParam ((x == ("__debug__" : Str)) = false) PyProof.Rows.glB_def._auto_7)
    (h1 : autoParam (starEach [e, .Name x p'] X.env = (false, eval e X.env) :: starEach [.Name x p'] X.env) PyProof.Rows.call_M_of_MD._auto_3) (h2 : autoParam ((backTo pos (starEach [.Name x p'] X.env)).any (·.1) = false) PyProof.Rows.call_M_of_MD._auto_3) :
    YE X xr (.Call (.Name "isinstance" p) [e, .Name x p'] [] pos) (mIsX f m) := by
  (try simp only [YE_eq, YA_eq, YT_eq, YW_eq, YS_eq, YSs_eq, YI_eq, YG_eq, YF_eq, YQ_eq, YTs_eq, YM_eq, YJ_eq] at *)
  exact Mi.se_isx hx hc hm ha hg hg' hd h1 h2
private theorem se_isxT {X : Cx} {xr : XR} {e : Expr} {m : Ev} {pos : Pos} {p : Pos} {p' : Pos} {f : Str → Option Bool} {x : Str} {T : String} (hx : IsxOk X.K f (.type T)) (hm : X.mg "isinstance" = none) (hm' : X.mg x = none) (hb : bootBuiltins x = some (.type T)) (ha : YE X xr e m) (hg : autoParam (Gl X "isinstance") PyProof.Rows.call_M_of_MD._auto_3) (hg' : autoParam (Gl X x) PyProof.Rows.call_M_of_MD._auto_3) (hn : autoParam (x ≠ "__name__") PyProof.Rows.glB_def._auto_7) (hd : autoParam ((x == ("__debug__" : Str)) = false) PyProof.Rows.glB_def._auto_7)
    (h1 : autoParam (starEach [e, .Name x p'] X.env = (false, eval e X.env) :: starEach [.Name x p'] X.env) PyProof.Rows.call_M_of_MD._auto_3) (h2 : autoParam ((backTo pos (starEach [.Name x p'] X.env)).any (·.1) = false) PyProof.Rows.call_M_of_MD._auto_3) :
    YE X xr (.Call (.Name "isinstance" p) [e, .Name x p'] [] pos) (mIsX f m) := by
  (try simp only [YE_eq, YA_eq, YT_eq, YW_eq, YS_eq, YSs_eq, YI_eq, YG_eq, YF_eq, YQ_eq, YTs_eq, YM_eq, YJ_eq] at *)
  exact Mi.se_isxT hx hm hm' hb ha hg hg' hn hd h1 h2
private theorem se_lamK {X : Cx} {xr : XR} {n : Nat} {k : Nat} {q : Str} {Pt : Addr} {c : Addr} {ls : List Lm} {t : Lm} {pos : Pos} (ht : ls[k]? = some t) (L : lmIxB X.N X.env.scope t = true) (hB : BMain X.mg X.base) (hcode : X.env.code = .ref c) (C : PySem.W.CodeHd X.base c Pt) (hq : X.env.qual ++ "<lambda>" = q) (hdef : defaultsOf t.params X.env = ([], [])) :
    YE X xr (.Lambda t.params t.body t.scope pos) (mLam n q Pt k (PFk X.env q ls k)) := by
  (try simp only [YE_eq, YA_eq, YT_eq, YW_eq, YS_eq, YSs_eq, YI_eq, YG_eq, YF_eq, YQ_eq, YTs_eq, YM_eq, YJ_eq] at *)
  exact Mi.se_lamK ht L hB hcode C hq hdef
private theorem se_refs {X : Cx} {xr : XR} {N : List Str} {sc : Scope} {ls : List Lm} {j : Nat} {kk : Nat} {i : Nat} {nl : Nat} {q : Str} {x : Str} {f : Str} {RF : Nat → List W → Hx → R W} {p : Pos} {p2 : Pos} {p3 : Pos} {p4 : Pos} {pos : Pos} {iter : Expr} {mi : Ei} {tw : Tg} (hfn : ∀ x, X.fn x = true) (hl : ∀ t ∈ ls, LmOk X.prog X.w X.K X.mg j q t) (hix : ∀ t ∈ ls, LmIx X t)
    (hR : ∀ base PG, (∀ k, LamOk X.prog X.w X.K X.mg base (j + 1) (PG k) (lamF ls k)) → FnM X.prog X.w X.K X.mg base kk f 1 (fRef PG RF)) (hr : Room kk X.A) (hc : X.calm = true) (S : CpScope X sc) (hcap : capOk X.N N sc nl [] = true) (hw : YI X xr (.Name x p4) iter mi)
    (hgt : ∀ s H fp, YG (cpCx X N sc s H fp noxe) (.Name x p4) tw) (hi : N[i]? = some x) (hv : Vis (relabel sc X.env) x) (hg : ∀ s H fp, Gl (cpCx X N sc s H fp noxe) f) (hdx : autoParam ((x == ("__debug__" : Str)) = false) PyProof.Rows.glB_def._auto_7) (hcx : autoParam ((x == ("__classdict__" : Str)) = false) PyProof.Rows.glB_def._auto_7) (hdf : autoParam ((f == ("__debug__" : Str)) = false) PyProof.Rows.glB_def._auto_7)
    (he : autoParam (∀ env : Env, starEach [.Name x p2] env = (false, eval (.Name x p2) env) :: starEach [] env) PyProof.Rows.Assign_ListComp_rowsP._auto_1) (hpl : autoParam (∀ env : Env, (backTo p3 (starEach [] env)).any (·.1) = false) PyProof.Rows.Assign_ListComp_rowsP._auto_1)
    (hs : autoParam (∀ x, foldedSetIterable iter X.env x = pure x) PyProof.Rows.Assign_ListComp_rowsP._auto_1) :
    YE X xr (.ListComp (.Call (.Name f p) [.Name x p2] [] p3) [⟨.Name x p4, iter, [], 0⟩] sc pos) (mList (cRefs nl mi tw i (PFk X.env q ls) ls RF)) := by
  (try simp only [YE_eq, YA_eq, YT_eq, YW_eq, YS_eq, YSs_eq, YI_eq, YG_eq, YF_eq, YQ_eq, YTs_eq, YM_eq, YJ_eq] at *)
  exact Mi.se_refs hfn hl hix hR hr hc S hcap hw hgt hi hv hg hdx hcx hdf he hpl hs
private theorem fnT {P : Program} {w : World} {K : PySem.W.Frag} {mg : Str → Option Value} {base : Heap} {x q : Str} {st : Stmt} {f c Pt : Addr} {fd : FuncData} {N ps : List Str} {k : Nat} {ls : List Lm} {m : PFam → Ex} (F : Fun K x x st f fd) (hn : PySem.W.nsIn K mainGlobals x = some (some (.ref f))) (ht : PySem.W.tabIn K x = some (c, Pt)) (S : FnScope N ps (defScope st))
    (hbody : ∀ (A : Around) (outer : List Env) (s : Shared) (H : Hp) (E : XK), Room k (A.deeper (envOfC x (defScope st) s.heap.objs.size f (.ref c))) →
      YSs (cxOf CX0 P w K mg base N x (defScope st) f (.ref c) A outer s H E).nox xr0 (defBody st) (m (PFk (envOfC x (defScope st) s.heap.objs.size f (.ref c)) q ls))) :
    FnOk P w K mg base CX0 (k + 1) f fd ps (spT K ps.length fun PF => runB N.length (m PF)) := by
  (try simp only [YE_eq, YA_eq, YT_eq, YW_eq, YS_eq, YSs_eq, YI_eq, YG_eq, YF_eq, YQ_eq, YTs_eq, YM_eq, YJ_eq] at *)
  exact Mi.fnT F hn ht S hbody
private theorem se_is2 {X : Cx} {xr : XR} {e : Expr} {m : Ev} {pos : Pos} {p : Pos} {p1 : Pos} {p2 : Pos} {pt : Pos} {x1 : Str} {x2 : Str} {kt : Nat} (t t2 : Ty) (hm : X.mg "isinstance" = none) (hm1 : X.mg x1 = none) (hm2 : X.mg x2 = none) (hx1 : bootBuiltins x1 = some (.type t.nm)) (hx2 : bootBuiltins x2 = some (.type t2.nm)) (ha : YE X xr e m) (hg : autoParam (Gl X "isinstance") PyProof.Rows.call_M_of_MD._auto_3) (hg1 : autoParam (Gl X x1) PyProof.Rows.call_M_of_MD._auto_3) (hg2 : autoParam (Gl X x2) PyProof.Rows.call_M_of_MD._auto_3)
    (hn1 : autoParam (x1 ≠ "__name__") PyProof.Rows.glB_def._auto_7) (hd1 : autoParam ((x1 == ("__debug__" : Str)) = false) PyProof.Rows.glB_def._auto_7) (hn2 : autoParam (x2 ≠ "__name__") PyProof.Rows.glB_def._auto_7) (hd2 : autoParam ((x2 == ("__debug__" : Str)) = false) PyProof.Rows.glB_def._auto_7)
    (h0 : autoParam (starEach [.Name x1 p1, .Name x2 p2] X.env = (false, eval (.Name x1 p1) X.env) :: starEach [.Name x2 p2] X.env) PyProof.Rows.call_M_of_MD._auto_3) (h00 : autoParam (starEach [.Name x2 p2] X.env = (false, eval (.Name x2 p2) X.env) :: starEach [] X.env) PyProof.Rows.call_M_of_MD._auto_3)
    (h1 : autoParam (starEach [e, .Tuple [.Name x1 p1, .Name x2 p2] kt pt] X.env = (false, eval e X.env) :: starEach [.Tuple [.Name x1 p1, .Name x2 p2] kt pt] X.env) PyProof.Rows.call_M_of_MD._auto_3) (h2 : autoParam ((backTo pos (starEach [.Tuple [.Name x1 p1, .Name x2 p2] kt pt] X.env)).any (·.1) = false) PyProof.Rows.call_M_of_MD._auto_3) :
    YE X xr (.Call (.Name "isinstance" p) [e, .Tuple [.Name x1 p1, .Name x2 p2] kt pt] [] pos) (mIs2 t t2 m) := by
  (try simp only [YE_eq, YA_eq, YT_eq, YW_eq, YS_eq, YSs_eq, YI_eq, YG_eq, YF_eq, YQ_eq, YTs_eq, YM_eq, YJ_eq] at *)
  exact Mi.se_is2 t t2 hm hm1 hm2 hx1 hx2 ha hg hg1 hg2 hn1 hd1 hn2 hd2 h0 h00 h1 h2
private theorem ss_asg {X : Cx} {xr : XR} {e : Expr} {m : Ev} {pos : Pos} {tg : Expr} {tw : Tg} (he : YE X xr e m) (hg : YG X tg tw) (hs : autoParam (swapsWithSole [tg] e pos.line X.env = pure false) PyProof.Rows.call_M_of_MD._auto_3) (hw : autoParam (swappedStores [tg] e X.env = pure none) PyProof.Rows.call_M_of_MD._auto_3) (h1 : autoParam ((assignEach [tg] X.env).map (·.2) = [assign tg X.env]) PyProof.Rows.call_M_of_MD._auto_3) : YS X xr (.Assign [tg] e pos) (xAsg m tw) := by
  (try simp only [YE_eq, YA_eq, YT_eq, YW_eq, YS_eq, YSs_eq, YI_eq, YG_eq, YF_eq, YQ_eq, YTs_eq, YM_eq, YJ_eq] at *)
  exact Mi.ss_asg he hg hs hw h1
private theorem ss_par {X : Cx} {xr : XR} {a : Expr} {b : Expr} {ma : Ev} {mb : Ev} {pos : Pos} {pt : Pos} {kt : Nat} (i j : Nat) {x y : Str} {px py pt2 : Pos} {k2 : Nat} (hc : X.calm = true) (hN : X.N.Nodup) (ha : YE X xr a ma) (hb : YE X xr b mb) (hi : autoParam (X.N[i]? = some x) PyProof.Rows.call_M_of_MD._auto_3) (hj : autoParam (X.N[j]? = some y) PyProof.Rows.call_M_of_MD._auto_3) (hij : autoParam (i ≠ j) PyProof.Rows.glB_def._auto_7)
    (hx : autoParam (X.env.scope.names.lookup x = some .local) PyProof.Rows.call_M_of_MD._auto_3) (hy : autoParam (X.env.scope.names.lookup y = some .local) PyProof.Rows.call_M_of_MD._auto_3)
    (hw : autoParam (swappedStores [.Tuple [.Name x px, .Name y py] kt pt] (.Tuple [a, b] k2 pt2) X.env = pure (some [x, y])) PyProof.Rows.call_M_of_MD._auto_3)
    (hs : autoParam (swapsWithSole [.Tuple [.Name x px, .Name y py] kt pt] (.Tuple [a, b] k2 pt2) pos.line X.env = pure false) PyProof.Rows.call_M_of_MD._auto_3)
    (h1 : autoParam (starEach [a, b] X.env = (false, eval a X.env) :: starEach [b] X.env) PyProof.Rows.call_M_of_MD._auto_3) (h2 : autoParam (starEach [b] X.env = (false, eval b X.env) :: starEach [] X.env) PyProof.Rows.call_M_of_MD._auto_3) :
    YS X xr (.Assign [.Tuple [.Name x px, .Name y py] kt pt] (.Tuple [a, b] k2 pt2) pos) (xPar i j ma mb) := by
  (try simp only [YE_eq, YA_eq, YT_eq, YW_eq, YS_eq, YSs_eq, YI_eq, YG_eq, YF_eq, YQ_eq, YTs_eq, YM_eq, YJ_eq] at *)
  exact Mi.ss_par i j hc hN ha hb hi hj hij hx hy hw hs h1 h2
end
end Y
namespace G
open PySem L2 Mi
noncomputable def top (i : Nat) : Stmt := PySem.Challenge.pw_nearkinds_k62_weights_of_words_by_rule.main.body.getD i (.Pass ⟨0, 0, 0, 0⟩)
structure Bu (mg : Str → Option Value) : Prop where
  b_ValueError : mg "ValueError" = none
  b_all : mg "all" = none
  b_bool : mg "bool" = none
  b_int : mg "int" = none
  b_isinstance : mg "isinstance" = none
  b_len : mg "len" = none
  b_list : mg "list" = none
  b_max : mg "max" = none
  b_min : mg "min" = none
  b_range : mg "range" = none
  b_sum : mg "sum" = none
  b_tuple : mg "tuple" = none
  b_zip : mg "zip" = none
  c_MOST_NUMBER_BY_RULE : ∃ t, mg "MOST_NUMBER_BY_RULE" = some (.int 9 t)
  c_MOST_SIGNS_BY_RULE : ∃ t, mg "MOST_SIGNS_BY_RULE" = some (.int 12 t)
noncomputable abbrev cs_law : List Str := ["NoNumber", "NoKind"]
noncomputable abbrev rows_law : List Str := ["NoTable", "NotSteady", "NoPlace", "NoKind", "NoMix", "NoNumber", "NoLot", "NoKinds", "NoPaper", "NoParting", "NoClosed", "TooMany", "NoText", "NoLine", "NoDeed", "NoWeights", "NotWhole", "NoNumbers"]
private theorem rw_NoTable {K : PySem.W.Frag} (R : rows_law.all (clsRow K cs_law) = true) : clsRow K cs_law "NoTable" = true := List.all_eq_true.mp R _ (by decide +kernel)
private theorem rw_NotSteady {K : PySem.W.Frag} (R : rows_law.all (clsRow K cs_law) = true) : clsRow K cs_law "NotSteady" = true := List.all_eq_true.mp R _ (by decide +kernel)
private theorem rw_NoPlace {K : PySem.W.Frag} (R : rows_law.all (clsRow K cs_law) = true) : clsRow K cs_law "NoPlace" = true := List.all_eq_true.mp R _ (by decide +kernel)
private theorem rw_NoKind {K : PySem.W.Frag} (R : rows_law.all (clsRow K cs_law) = true) : clsRow K cs_law "NoKind" = true := List.all_eq_true.mp R _ (by decide +kernel)
private theorem rw_NoMix {K : PySem.W.Frag} (R : rows_law.all (clsRow K cs_law) = true) : clsRow K cs_law "NoMix" = true := List.all_eq_true.mp R _ (by decide +kernel)
private theorem rw_NoNumber {K : PySem.W.Frag} (R : rows_law.all (clsRow K cs_law) = true) : clsRow K cs_law "NoNumber" = true := List.all_eq_true.mp R _ (by decide +kernel)
private theorem rw_NoLot {K : PySem.W.Frag} (R : rows_law.all (clsRow K cs_law) = true) : clsRow K cs_law "NoLot" = true := List.all_eq_true.mp R _ (by decide +kernel)
private theorem rw_NoKinds {K : PySem.W.Frag} (R : rows_law.all (clsRow K cs_law) = true) : clsRow K cs_law "NoKinds" = true := List.all_eq_true.mp R _ (by decide +kernel)
private theorem rw_NoPaper {K : PySem.W.Frag} (R : rows_law.all (clsRow K cs_law) = true) : clsRow K cs_law "NoPaper" = true := List.all_eq_true.mp R _ (by decide +kernel)
private theorem rw_NoParting {K : PySem.W.Frag} (R : rows_law.all (clsRow K cs_law) = true) : clsRow K cs_law "NoParting" = true := List.all_eq_true.mp R _ (by decide +kernel)
private theorem rw_NoClosed {K : PySem.W.Frag} (R : rows_law.all (clsRow K cs_law) = true) : clsRow K cs_law "NoClosed" = true := List.all_eq_true.mp R _ (by decide +kernel)
private theorem rw_TooMany {K : PySem.W.Frag} (R : rows_law.all (clsRow K cs_law) = true) : clsRow K cs_law "TooMany" = true := List.all_eq_true.mp R _ (by decide +kernel)
private theorem rw_NoText {K : PySem.W.Frag} (R : rows_law.all (clsRow K cs_law) = true) : clsRow K cs_law "NoText" = true := List.all_eq_true.mp R _ (by decide +kernel)
private theorem rw_NoLine {K : PySem.W.Frag} (R : rows_law.all (clsRow K cs_law) = true) : clsRow K cs_law "NoLine" = true := List.all_eq_true.mp R _ (by decide +kernel)
private theorem rw_NoDeed {K : PySem.W.Frag} (R : rows_law.all (clsRow K cs_law) = true) : clsRow K cs_law "NoDeed" = true := List.all_eq_true.mp R _ (by decide +kernel)
private theorem rw_NoWeights {K : PySem.W.Frag} (R : rows_law.all (clsRow K cs_law) = true) : clsRow K cs_law "NoWeights" = true := List.all_eq_true.mp R _ (by decide +kernel)
private theorem rw_NotWhole {K : PySem.W.Frag} (R : rows_law.all (clsRow K cs_law) = true) : clsRow K cs_law "NotWhole" = true := List.all_eq_true.mp R _ (by decide +kernel)
private theorem rw_NoNumbers {K : PySem.W.Frag} (R : rows_law.all (clsRow K cs_law) = true) : clsRow K cs_law "NoNumbers" = true := List.all_eq_true.mp R _ (by decide +kernel)
private theorem nocell_of {l : List (Str × NameKind)} (h : (l.all fun y => !(y.2 == .cell)) = true) : ∀ y ∈ l, y.2 ≠ .cell := fun y hy e => by
  have q := List.all_eq_true.mp h y hy
  (first | exact PyNso (e) q | exact PyNso q (e) | cases PySos (e) q | (rw [e] at q; cases q))
private theorem yE {X : Cx} {xr : XR} {e : Expr} {m : Ev} (h : Y.YE X xr e m) : SE X xr e m := by rw [Y.YE_eq] at h; exact h
noncomputable abbrev s_is_whole : Stmt := top 1
private theorem sc_is_whole : FnScope ["thing"] ["thing"] (defScope s_is_whole) := ⟨rfl, rfl, rfl, by decide +kernel, rfl, by decide +kernel, by decide +kernel⟩
noncomputable def m_is_whole : Ex := xSeq (xRet (mAnd (mIs .int (mVar 0)) (mNot (mIs .bl (mVar 0))))) (xNil)
private theorem r_is_whole {P : Program} {w : World} {K : PySem.W.Frag} {mg : Str → Option Value} {base : Heap} {k : Nat} (T : Bu mg) {f : Addr} {fd : FuncData} (F : Fun K "is_whole" "is_whole" s_is_whole f fd) (hm : mg "is_whole" = some (.ref f)) : FnM P w K mg base (k + 1) "is_whole" 1 (runB 1 (m_is_whole)) :=
  Y.fnM F hm sc_is_whole (fun _ _ _ _ _ _ us hl => (len1 hl).elim fun a q => by subst q; rfl) fun cdv A outer s H E hr => Y.ss_cons (Y.ss_ret (Y.se_and (Y.se_is .int T.b_isinstance T.b_int (by rfl) (Y.se_var 0)) (Y.se_one (Y.se_not (Y.se_is .bl T.b_isinstance T.b_bool (by rfl) (Y.se_var 0)))))) (Y.ss_nil)
noncomputable abbrev s_is_whole_between : Stmt := top 2
private theorem sc_is_whole_between : FnScope ["thing", "least", "greatest"] ["thing", "least", "greatest"] (defScope s_is_whole_between) := ⟨rfl, rfl, rfl, by decide +kernel, rfl, by decide +kernel, by decide +kernel⟩
noncomputable def m_is_whole_between (f_is_whole : Fn) : Ex := xSeq (xRet (mAnd (mCall f_is_whole (aCons (mVar 0) (aNil))) (mChain gLe gLe (mVar 1) (mVar 0) (mVar 2)))) (xNil)
private theorem r_is_whole_between {P : Program} {w : World} {K : PySem.W.Frag} {mg : Str → Option Value} {base : Heap} {k : Nat} (T : Bu mg) {f : Addr} {fd : FuncData} (F : Fun K "is_whole_between" "is_whole_between" s_is_whole_between f fd) (hm : mg "is_whole_between" = some (.ref f)) {f_is_whole : Fn} (F_is_whole : FnM P w K mg base k "is_whole" 1 f_is_whole) : FnM P w K mg base (k + 1) "is_whole_between" 3 (runB 3 (m_is_whole_between f_is_whole)) :=
  Y.fnM F hm sc_is_whole_between (fun _ _ _ _ _ _ us hl => (len3 hl).elim fun a h => h.elim fun b h => h.elim fun c q => by subst q; rfl) fun cdv A outer s H E hr => Y.ss_cons (Y.ss_ret (Y.se_and (Y.se_call F_is_whole hr (Y.sa_cons (Y.se_var 0) (Y.sa_nil)) (al_cons al_nil)) (Y.se_one (Y.se_c2 c_le c_le (Y.se_var 1) (Y.se_var 0) (Y.se_var 2))))) (Y.ss_nil)
noncomputable abbrev s_require_number : Stmt := top 26
private theorem sc_require_number : FnScope ["number", "least", "greatest"] ["number", "least", "greatest"] (defScope s_require_number) := ⟨rfl, rfl, rfl, by decide +kernel, rfl, by decide +kernel, by decide +kernel⟩
noncomputable def m_require_number (f_is_whole_between : Fn) : Ex := xSeq (xIf ((fun ρ A => ((mNot (mCall f_is_whole_between (aCons (mVar 0) (aCons (mVar 1) (aCons (mVar 2) (aNil)))))) ρ A).nox)) (xSeq (xRaise "NoNumber" (aCons (mJ [mLit (.str "this is no whole number from "), mFmt (mVar 1), mLit (.str " to "), mFmt (mVar 2)] Str.empty) (aNil))) (xNil)) (xNil)) (xNil)
private theorem r_require_number {P : Program} {w : World} {K : PySem.W.Frag} {mg : Str → Option Value} {base : Heap} {k : Nat} (T : Bu mg) (C : Cls K cs_law "NearError") {f : Addr} {fd : FuncData} (F : Fun K "require_number" "require_number" s_require_number f fd) (hm : mg "require_number" = some (.ref f)) {f_is_whole_between : Fn} (F_is_whole_between : FnM P w K mg base k "is_whole_between" 3 f_is_whole_between) : FnX P w K mg base (k + 1) "require_number" 3 (runX 3 (m_require_number f_is_whole_between)) :=
  Y.fnX F hm sc_require_number (fun _ _ _ _ _ _ us hl => (len3 hl).elim fun a h => h.elim fun b h => h.elim fun c q => by subst q; rfl) fun cdv A outer s H E hr xo => Y.ss_cons (Y.ss_if (Y.st_nox (Y.st_not (Y.st_val (Y.se_call F_is_whole_between hr (Y.sa_cons (Y.se_var 0) (Y.sa_cons (Y.se_var 1) (Y.sa_cons (Y.se_var 2) (Y.sa_nil)))) (al_cons (al_cons (al_cons al_nil))))))) (Y.ss_cons (Y.ss_raiseC xo (C.exc "NoNumber" (by decide +kernel)) (Y.sa_cons (Y.se_joined (Y.se_str) (Y.se_fmt (Y.se_var 1)) (Y.sj_cons (Y.se_str) (Y.sj_cons (Y.se_fmt (Y.se_var 2)) (Y.sj_nil)))) (Y.sa_nil)) (al_cons al_nil)) (Y.ss_nil)) (Y.ss_nil)) (Y.ss_nil)
noncomputable abbrev s_require_kind_to : Stmt := top 27
private theorem sc_require_kind_to : FnScope ["kind", "greatest"] ["kind", "greatest"] (defScope s_require_kind_to) := ⟨rfl, rfl, rfl, by decide +kernel, rfl, by decide +kernel, by decide +kernel⟩
noncomputable def m_require_kind_to (f_is_whole_between : Fn) : Ex := xSeq (xIf ((fun ρ A => ((mNot (mCall f_is_whole_between (aCons (mVar 0) (aCons (mLit (.int 0)) (aCons (mVar 1) (aNil)))))) ρ A).nox)) (xSeq (xRaise "NoKind" (aCons (mJ [mLit (.str "this is no kind from 0 to "), mFmt (mVar 1)] Str.empty) (aNil))) (xNil)) (xNil)) (xNil)
private theorem r_require_kind_to {P : Program} {w : World} {K : PySem.W.Frag} {mg : Str → Option Value} {base : Heap} {k : Nat} (T : Bu mg) (C : Cls K cs_law "NearError") {f : Addr} {fd : FuncData} (F : Fun K "require_kind_to" "require_kind_to" s_require_kind_to f fd) (hm : mg "require_kind_to" = some (.ref f)) {f_is_whole_between : Fn} (F_is_whole_between : FnM P w K mg base k "is_whole_between" 3 f_is_whole_between) : FnX P w K mg base (k + 1) "require_kind_to" 2 (runX 2 (m_require_kind_to f_is_whole_between)) :=
  Y.fnX F hm sc_require_kind_to (fun _ _ _ _ _ _ us hl => (len2 hl).elim fun a h => h.elim fun b q => by subst q; rfl) fun cdv A outer s H E hr xo => Y.ss_cons (Y.ss_if (Y.st_nox (Y.st_not (Y.st_val (Y.se_call F_is_whole_between hr (Y.sa_cons (Y.se_var 0) (Y.sa_cons (Y.se_int) (Y.sa_cons (Y.se_var 1) (Y.sa_nil)))) (al_cons (al_cons (al_cons al_nil))))))) (Y.ss_cons (Y.ss_raiseC xo (C.exc "NoKind" (by decide +kernel)) (Y.sa_cons (Y.se_joined (Y.se_str) (Y.se_fmt (Y.se_var 1)) (Y.sj_nil)) (Y.sa_nil)) (al_cons al_nil)) (Y.ss_nil)) (Y.ss_nil)) (Y.ss_nil)
noncomputable abbrev s_raised : Stmt := top 28
private theorem sc_raised : FnScope ["base", "times", "result", "turn"] ["base", "times"] (defScope s_raised) := ⟨rfl, rfl, rfl, by decide +kernel, rfl, by decide +kernel, by decide +kernel⟩
noncomputable def m_raised : Ex := xSeq (xSet 2 (mLit (.int 1))) (xSeq (xFor (mRng1 (mVar 1)) (gVar 3) (xSeq (xSet 2 (mBin gMul (mVar 2) (mVar 0))) (xNil))) (xSeq (xRet (mVar 2)) (xNil)))
private theorem r_raised {P : Program} {w : World} {K : PySem.W.Frag} {mg : Str → Option Value} {base : Heap} {k : Nat} (T : Bu mg) {f : Addr} {fd : FuncData} (F : Fun K "raised" "raised" s_raised f fd) (hm : mg "raised" = some (.ref f)) : FnM P w K mg base (k + 1) "raised" 2 (runB 4 (m_raised)) :=
  Y.fnM F hm sc_raised (fun _ _ _ _ _ _ us hl => (len2 hl).elim fun a h => h.elim fun b q => by subst q; rfl) fun cdv A outer s H E hr => Y.ss_cons (Y.ss_set 2 sc_raised.nd (Y.se_int)) (Y.ss_cons (Y.ss_for PassesOwn.never rfl (Y.si_rng1 rfl T.b_range (Y.se_var 1)) (Y.sg_var 3 sc_raised.nd) (Y.ss_cons (Y.ss_set 2 sc_raised.nd (Y.se_mul (Y.se_var 2) (Y.se_var 0))) (Y.ss_nil))) (Y.ss_cons (Y.ss_ret (Y.se_var 2)) (Y.ss_nil)))
noncomputable abbrev s_count_lots : Stmt := top 29
private theorem sc_count_lots : FnScope ["some", "many", "result", "step"] ["some", "many"] (defScope s_count_lots) := ⟨rfl, rfl, rfl, by decide +kernel, rfl, by decide +kernel, by decide +kernel⟩
noncomputable def m_count_lots : Ex := xSeq (xSet 2 (mLit (.int 1))) (xSeq (xFor (mRng1 (mVar 0)) (gVar 3) (xSeq (xSet 2 (mBin gDiv (mBin gMul (mVar 2) (mBin gSub (mVar 1) (mVar 3))) (mBin gAdd (mVar 3) (mLit (.int 1))))) (xNil))) (xSeq (xRet (mVar 2)) (xNil)))
private theorem r_count_lots {P : Program} {w : World} {K : PySem.W.Frag} {mg : Str → Option Value} {base : Heap} {k : Nat} (T : Bu mg) {f : Addr} {fd : FuncData} (F : Fun K "count_lots" "count_lots" s_count_lots f fd) (hm : mg "count_lots" = some (.ref f)) : FnM P w K mg base (k + 1) "count_lots" 2 (runB 4 (m_count_lots)) :=
  Y.fnM F hm sc_count_lots (fun _ _ _ _ _ _ us hl => (len2 hl).elim fun a h => h.elim fun b q => by subst q; rfl) fun cdv A outer s H E hr => Y.ss_cons (Y.ss_set 2 sc_count_lots.nd (Y.se_int)) (Y.ss_cons (Y.ss_for PassesOwn.never rfl (Y.si_rng1 rfl T.b_range (Y.se_var 0)) (Y.sg_var 3 sc_count_lots.nd) (Y.ss_cons (Y.ss_set 2 sc_count_lots.nd (Y.se_div (Y.se_mul (Y.se_var 2) (Y.se_sub (Y.se_var 1) (Y.se_var 3))) (Y.se_add (Y.se_var 3) (Y.se_int)))) (Y.ss_nil))) (Y.ss_cons (Y.ss_ret (Y.se_var 2)) (Y.ss_nil)))
noncomputable abbrev s_words_weight : Stmt := top 30
private theorem sc_words_weight : FnScope ["many", "signs", "kind", "number"] ["many", "signs", "kind", "number"] (defScope s_words_weight) := ⟨rfl, rfl, rfl, by decide +kernel, rfl, by decide +kernel, by decide +kernel⟩
noncomputable def m_words_weight (f_count_lots : Fn) (f_raised : Fn) (fX_require_kind_to : Fn) (fX_require_number : Fn) : Ex := xSeq (xDo (mCall fX_require_number (aCons (mVar 0) (aCons (mLit (.int 1)) (aCons (mLit (.int 12)) (aNil)))))) (xSeq (xDo (mCall fX_require_number (aCons (mVar 1) (aCons (mLit (.int 2)) (aCons (mLit (.int 9)) (aNil)))))) (xSeq (xDo (mCall fX_require_kind_to (aCons (mVar 2) (aCons (mVar 0) (aNil))))) (xSeq (xDo (mCall fX_require_kind_to (aCons (mVar 3) (aCons (mVar 0) (aNil))))) ((fun ρ A => ((xSeq (xRet (mQ gSum (cItems 1 [0, 1, 2, 3] (mRng1 (mBin gAdd (mVar 2) (mLit (.int 1)))) (gVar 0) (mLit (.bl true)) (emElt (mBin gMul (mBin gMul (mBin gMul (mCall f_raised (aCons (mUn gNeg (mLit (.int 1))) (aCons (mVar 0) (aNil)))) (mCall f_raised (aCons (mBin gSub (mVar 2) (mLit (.int 1))) (aCons (mBin gSub (mVar 3) (mVar 0)) (aNil))))) (mCall f_count_lots (aCons (mVar 0) (aCons (mVar 4) (aNil))))) (mCall f_count_lots (aCons (mBin gSub (mVar 3) (mVar 0)) (aCons (mBin gSub (mVar 1) (mVar 4)) (aNil))))))))) (xNil)) ρ A).nox)))))
private theorem r_words_weight {P : Program} {w : World} {K : PySem.W.Frag} {mg : Str → Option Value} {base : Heap} {k : Nat} (T : Bu mg) (C : Cls K cs_law "NearError") {f : Addr} {fd : FuncData} (F : Fun K "words_weight" "words_weight" s_words_weight f fd) (hm : mg "words_weight" = some (.ref f)) {f_count_lots : Fn} (F_count_lots : FnM P w K mg base k "count_lots" 2 f_count_lots) {f_raised : Fn} (F_raised : FnM P w K mg base k "raised" 2 f_raised) {fX_require_kind_to : Fn} (X_require_kind_to : FnX P w K mg base k "require_kind_to" 2 fX_require_kind_to) {fX_require_number : Fn} (X_require_number : FnX P w K mg base k "require_number" 3 fX_require_number) : FnX P w K mg base (k + 1) "words_weight" 4 (runX 4 (m_words_weight f_count_lots f_raised fX_require_kind_to fX_require_number)) :=
  Y.fnX F hm sc_words_weight (fun _ _ _ _ _ _ us hl => (len4 hl).elim fun a h => h.elim fun b h => h.elim fun c h => h.elim fun d q => by subst q; rfl) fun cdv A outer s H E hr xo => Y.ss_cons (Y.ss_expr (Y.se_callX xo X_require_number hr (Y.sa_cons (Y.se_var 0) (Y.sa_cons (Y.se_int) (Y.sa_cons (Y.se_glob rfl T.c_MOST_SIGNS_BY_RULE.choose_spec) (Y.sa_nil)))) (al_cons (al_cons (al_cons al_nil))))) (Y.ss_cons (Y.ss_expr (Y.se_callX xo X_require_number hr (Y.sa_cons (Y.se_var 1) (Y.sa_cons (Y.se_int) (Y.sa_cons (Y.se_glob rfl T.c_MOST_NUMBER_BY_RULE.choose_spec) (Y.sa_nil)))) (al_cons (al_cons (al_cons al_nil))))) (Y.ss_cons (Y.ss_expr (Y.se_callX xo X_require_kind_to hr (Y.sa_cons (Y.se_var 2) (Y.sa_cons (Y.se_var 0) (Y.sa_nil))) (al_cons (al_cons al_nil)))) (Y.ss_cons (Y.ss_expr (Y.se_callX xo X_require_kind_to hr (Y.sa_cons (Y.se_var 3) (Y.sa_cons (Y.se_var 0) (Y.sa_nil))) (al_cons (al_cons al_nil)))) (Y.ss_noxs (Y.ss_cons (Y.ss_ret (Y.se_sum rfl T.b_sum (Y.sq_F (Y.sf_comp (N := ["some", "many", "signs", "kind", "number"]) 1 [0, 1, 2, 3] rfl (cps (by kernel_rfl)) (by kernel_rfl) (Y.si_rng1 rfl T.b_range (Y.se_add (Y.se_var 2) (Y.se_int))) (fun _ _ _ => ⟨Y.sg_var 0 (by decide +kernel : (["some", "many", "signs", "kind", "number"] : List Str).Nodup), Y.sts_nil, Y.sm_elt (fun _ _ z => z) (Y.se_mul (Y.se_mul (Y.se_mul (Y.se_call F_raised hr (Y.sa_cons (Y.se_neg (Y.se_int)) (Y.sa_cons (Y.se_var 0) (Y.sa_nil))) (al_cons (al_cons al_nil))) (Y.se_call F_raised hr (Y.sa_cons (Y.se_sub (Y.se_var 2) (Y.se_int)) (Y.sa_cons (Y.se_sub (Y.se_var 3) (Y.se_var 0)) (Y.sa_nil))) (al_cons (al_cons al_nil)))) (Y.se_call F_count_lots hr (Y.sa_cons (Y.se_var 0) (Y.sa_cons (Y.se_var 4) (Y.sa_nil))) (al_cons (al_cons al_nil)))) (Y.se_call F_count_lots hr (Y.sa_cons (Y.se_sub (Y.se_var 3) (Y.se_var 0)) (Y.sa_cons (Y.se_sub (Y.se_var 1) (Y.se_var 4)) (Y.sa_nil))) (al_cons (al_cons al_nil)))) rfl⟩))))) (Y.ss_nil))))))
noncomputable abbrev s__law_cell_at : Stmt := top 32
private theorem sc__law_cell_at : FnScope ["_law_script", "_law_k"] ["_law_script", "_law_k"] (defScope s__law_cell_at) := ⟨rfl, rfl, rfl, by decide +kernel, rfl, by decide +kernel, by decide +kernel⟩
noncomputable def m__law_cell_at : Ex := xSeq (xIf (mBin gLt (mVar 1) (mQ gLen (mSeq (mVar 0)))) (xSeq (xRet (mBin gIx (mVar 0) (mVar 1))) (xNil)) (xNil)) (xSeq (xRet (mLit (.int 0))) (xNil))
private theorem r__law_cell_at {P : Program} {w : World} {K : PySem.W.Frag} {mg : Str → Option Value} {base : Heap} {k : Nat} (T : Bu mg) {f : Addr} {fd : FuncData} (F : Fun K "_law_cell_at" "_law_cell_at" s__law_cell_at f fd) (hm : mg "_law_cell_at" = some (.ref f)) : FnM P w K mg base (k + 1) "_law_cell_at" 2 (runB 2 (m__law_cell_at)) :=
  Y.fnM F hm sc__law_cell_at (fun _ _ _ _ _ _ us hl => (len2 hl).elim fun a h => h.elim fun b q => by subst q; rfl) fun cdv A outer s H E hr => Y.ss_cons (Y.ss_if (Y.st_c c_lt (Y.se_var 1) (Y.se_len T.b_len (Y.sq_E (Y.se_var 0)))) (Y.ss_cons (Y.ss_ret (Y.se_ix (Y.se_var 0) (Y.se_var 1))) (Y.ss_nil)) (Y.ss_nil)) (Y.ss_cons (Y.ss_ret (Y.se_int)) (Y.ss_nil))
noncomputable abbrev s__law_state : Stmt := top 33
private theorem sc__law_state : FnScope ["_law_script", "_law_k", "_law_cell"] ["_law_script", "_law_k"] (defScope s__law_state) := ⟨rfl, rfl, rfl, by decide +kernel, rfl, by decide +kernel, by decide +kernel⟩
noncomputable def m__law_state (f__law_cell_at : Fn) : Ex := xSeq (xSet 2 (mCall f__law_cell_at (aCons (mVar 0) (aCons (mVar 1) (aNil))))) (xSeq (xIf (mBin gGe (mVar 2) (mBin gPow (mLit (.int 10)) (mLit (.int 18)))) (xSeq (xRet (mLst (aCons (mBin gSub (mVar 2) (mBin gPow (mLit (.int 10)) (mLit (.int 18)))) (aCons (mLit (.bl true)) (aNil))))) (xNil)) (xNil)) (xSeq (xRet (mLst (aCons (mBin gModI (mVar 2) (mLit (.int 2147483647))) (aCons (mLit (.bl false)) (aNil))))) (xNil)))
private theorem r__law_state {P : Program} {w : World} {K : PySem.W.Frag} {mg : Str → Option Value} {base : Heap} {k : Nat} (T : Bu mg) {f : Addr} {fd : FuncData} (F : Fun K "_law_state" "_law_state" s__law_state f fd) (hm : mg "_law_state" = some (.ref f)) {f__law_cell_at : Fn} (F__law_cell_at : FnM P w K mg base k "_law_cell_at" 2 f__law_cell_at) : FnM P w K mg base (k + 1) "_law_state" 2 (runB 3 (m__law_state f__law_cell_at)) :=
  Y.fnM F hm sc__law_state (fun _ _ _ _ _ _ us hl => (len2 hl).elim fun a h => h.elim fun b q => by subst q; rfl) fun cdv A outer s H E hr => Y.ss_cons (Y.ss_set 2 sc__law_state.nd (Y.se_call F__law_cell_at hr (Y.sa_cons (Y.se_var 0) (Y.sa_cons (Y.se_var 1) (Y.sa_nil))) (al_cons (al_cons al_nil)))) (Y.ss_cons (Y.ss_if (Y.st_c c_ge (Y.se_var 2) (Y.se_pow (Y.se_int) (Y.se_int))) (Y.ss_cons (Y.ss_ret (Y.se_lstN (Y.sa_cons (Y.se_sub (Y.se_var 2) (Y.se_pow (Y.se_int) (Y.se_int))) (Y.sa_cons (Y.se_bl) (Y.sa_nil))) (al_cons (al_cons al_nil)))) (Y.ss_nil)) (Y.ss_nil)) (Y.ss_cons (Y.ss_ret (Y.se_lstN (Y.sa_cons (Y.se_mod (Y.se_var 2) (Y.se_int)) (Y.sa_cons (Y.se_bl) (Y.sa_nil))) (al_cons (al_cons al_nil)))) (Y.ss_nil)))
noncomputable abbrev s__law_take : Stmt := top 34
private theorem sc__law_take : FnScope ["_law_state_here", "_law_many", "_law_found", "_law_stirred"] ["_law_state_here", "_law_many"] (defScope s__law_take) := ⟨rfl, rfl, rfl, by decide +kernel, rfl, by decide +kernel, by decide +kernel⟩
noncomputable def m__law_take : Ex := xSeq (xIf (mBin gIx (mVar 0) (mLit (.int 1))) (xSeq (xSet 2 (mBin gModI (mBin gIx (mVar 0) (mLit (.int 0))) (mVar 1))) (xSeq (xStore gPut (mBin gDiv (mBin gIx (mVar 0) (mLit (.int 0))) (mVar 1)) (mVar 0) (mLit (.int 0))) (xSeq (xRet (mVar 2)) (xNil)))) (xNil)) (xSeq (xStore gPut (mBin gModI (mBin gAdd (mBin gMul (mBin gIx (mVar 0) (mLit (.int 0))) (mLit (.int 48271))) (mLit (.int 29))) (mLit (.int 2147483647))) (mVar 0) (mLit (.int 0))) (xSeq (xSet 3 (mBin gModI (mBin gAdd (mBin gAdd (mBin gMul (mBin gIx (mVar 0) (mLit (.int 0))) (mBin gIx (mVar 0) (mLit (.int 0)))) (mBin gMul (mLit (.int 39373)) (mBin gIx (mVar 0) (mLit (.int 0))))) (mLit (.int 7))) (mLit (.int 2147483629)))) (xSeq (xSet 3 (mBin gModI (mBin gAdd (mBin gMul (mVar 3) (mVar 3)) (mBin gMul (mLit (.int 16807)) (mVar 3))) (mLit (.int 2147483587)))) (xSeq (xRet (mBin gModI (mBin gDiv (mVar 3) (mLit (.int 8))) (mVar 1))) (xNil)))))
private theorem r__law_take {P : Program} {w : World} {K : PySem.W.Frag} {mg : Str → Option Value} {base : Heap} {k : Nat} (T : Bu mg) {f : Addr} {fd : FuncData} (F : Fun K "_law_take" "_law_take" s__law_take f fd) (hm : mg "_law_take" = some (.ref f)) : FnM P w K mg base (k + 1) "_law_take" 2 (runB 4 (m__law_take)) :=
  Y.fnM F hm sc__law_take (fun _ _ _ _ _ _ us hl => (len2 hl).elim fun a h => h.elim fun b q => by subst q; rfl) fun cdv A outer s H E hr => Y.ss_cons (Y.ss_if (Y.st_val (Y.se_ix (Y.se_var 0) (Y.se_int))) (Y.ss_cons (Y.ss_set 2 sc__law_take.nd (Y.se_mod (Y.se_ix (Y.se_var 0) (Y.se_int)) (Y.se_var 1))) (Y.ss_cons (Y.ss_put (Y.se_div (Y.se_ix (Y.se_var 0) (Y.se_int)) (Y.se_var 1)) (Y.se_var 0) (Y.se_int)) (Y.ss_cons (Y.ss_ret (Y.se_var 2)) (Y.ss_nil)))) (Y.ss_nil)) (Y.ss_cons (Y.ss_put (Y.se_mod (Y.se_add (Y.se_mul (Y.se_ix (Y.se_var 0) (Y.se_int)) (Y.se_int)) (Y.se_int)) (Y.se_int)) (Y.se_var 0) (Y.se_int)) (Y.ss_cons (Y.ss_set 3 sc__law_take.nd (Y.se_mod (Y.se_add (Y.se_add (Y.se_mul (Y.se_ix (Y.se_var 0) (Y.se_int)) (Y.se_ix (Y.se_var 0) (Y.se_int))) (Y.se_mul (Y.se_int) (Y.se_ix (Y.se_var 0) (Y.se_int)))) (Y.se_int)) (Y.se_int))) (Y.ss_cons (Y.ss_set 3 sc__law_take.nd (Y.se_mod (Y.se_add (Y.se_mul (Y.se_var 3) (Y.se_var 3)) (Y.se_mul (Y.se_int) (Y.se_var 3))) (Y.se_int))) (Y.ss_cons (Y.ss_ret (Y.se_mod (Y.se_div (Y.se_var 3) (Y.se_int)) (Y.se_var 1))) (Y.ss_nil)))))
noncomputable abbrev s__law_same : Stmt := top 35
private theorem sc__law_same : FnScope ["_law_found", "_law_due_here"] ["_law_found", "_law_due_here"] (defScope s__law_same) := ⟨rfl, rfl, rfl, by decide +kernel, rfl, by decide +kernel, by decide +kernel⟩
noncomputable def m__law_same (f__law_same : Fn) : Ex := xSeq (xIf (mIs2 .tup .lst (mVar 1)) (xSeq xBad (xSeq xBad (xSeq xBad (xNil)))) (xNil)) (xSeq (xRet (mAnd (mBin gEq (mVar 0) (mVar 1)) (mBin gEq (mIs .bl (mVar 0)) (mIs .bl (mVar 1))))) (xNil))
private theorem r__law_same {P : Program} {w : World} {K : PySem.W.Frag} {mg : Str → Option Value} {base : Heap} {k : Nat} (T : Bu mg) {f : Addr} {fd : FuncData} (F : Fun K "_law_same" "_law_same" s__law_same f fd) (hm : mg "_law_same" = some (.ref f)) {f__law_same : Fn} (F__law_same : FnM P w K mg base k "_law_same" 2 f__law_same) : FnM P w K mg base (k + 1) "_law_same" 2 (runB 2 (m__law_same f__law_same)) :=
  Y.fnM F hm sc__law_same (fun _ _ _ _ _ _ us hl => (len2 hl).elim fun a h => h.elim fun b q => by subst q; rfl) fun cdv A outer s H E hr => Y.ss_cons (Y.ss_if (Y.st_val (Y.se_is2 .tup .lst T.b_isinstance T.b_tuple T.b_list (by rfl) (by rfl) (Y.se_var 1))) (Y.ss_cons Y.ss_bad (Y.ss_cons Y.ss_bad (Y.ss_cons Y.ss_bad Y.ss_nil))) (Y.ss_nil)) (Y.ss_cons (Y.ss_ret (Y.se_and (Y.se_c (c_eqD hr) (Y.se_var 0) (Y.se_var 1)) (Y.se_one (Y.se_c (c_eqD hr) (Y.se_is .bl T.b_isinstance T.b_bool (by rfl) (Y.se_var 0)) (Y.se_is .bl T.b_isinstance T.b_bool (by rfl) (Y.se_var 1)))))) (Y.ss_nil))
noncomputable abbrev s__law_refused : Stmt := top 36
private theorem sc__law_refused : FnScope ["_law_call", "_law_error", "e", "_law_marks"] ["_law_call"] (defScope s__law_refused) := ⟨rfl, rfl, rfl, by decide +kernel, rfl, by decide +kernel, by decide +kernel⟩
noncomputable def mr__law_refused : Ex := xSeq (xSet 3 (mLst (aCons (mIsX (isF cs_law "NoTable") (mVar 1)) (aCons (mIsX (isF cs_law "NotSteady") (mVar 1)) (aCons (mIsX (isF cs_law "NoPlace") (mVar 1)) (aNil)))))) (xSeq (xSet 3 (mBin gAdd (mVar 3) (mLst (aCons (mIsX (isF cs_law "NoKind") (mVar 1)) (aCons (mIsX (isF cs_law "NoMix") (mVar 1)) (aCons (mIsX (isF cs_law "NoNumber") (mVar 1)) (aNil))))))) (xSeq (xSet 3 (mBin gAdd (mVar 3) (mLst (aCons (mIsX (isF cs_law "NoLot") (mVar 1)) (aCons (mIsX (isF cs_law "NoKinds") (mVar 1)) (aCons (mIsX (isF cs_law "NoPaper") (mVar 1)) (aNil))))))) (xSeq (xSet 3 (mBin gAdd (mVar 3) (mLst (aCons (mIsX (isF cs_law "NoParting") (mVar 1)) (aCons (mIsX (isF cs_law "NoClosed") (mVar 1)) (aCons (mIsX (isF cs_law "TooMany") (mVar 1)) (aNil))))))) (xSeq (xSet 3 (mBin gAdd (mVar 3) (mLst (aCons (mIsX (isF cs_law "NoText") (mVar 1)) (aCons (mIsX (isF cs_law "NoLine") (mVar 1)) (aCons (mIsX (isF cs_law "NoDeed") (mVar 1)) (aNil))))))) (xSeq (xSet 3 (mBin gAdd (mVar 3) (mLst (aCons (mIsX (isF cs_law "NoWeights") (mVar 1)) (aCons (mIsX (isF cs_law "NotWhole") (mVar 1)) (aCons (mIsX (isF cs_law "NoNumbers") (mVar 1)) (aNil))))))) (xSeq (xIf (mNot (mIsX (isV cs_law) (mVar 1))) (xSeq (xRet (mLit .non)) (xNil)) (xNil)) (xSeq (xRet (mList (cItems 1 [3] (mRng1 (mLit (.int 18))) (gVar 0) (mBin gIx (mVar 1) (mVar 0)) (emElt (mVar 0))))) (xNil))))))))
noncomputable def m__law_refused (PG : PFam) (lam : Nat → Fn) : Ex := xSeq (xSet 1 (mLit .non)) (xSeq (xTry 0 1 2 cs_law PG lam) mr__law_refused)
private theorem r__law_refused {P : Program} {w : World} {K : PySem.W.Frag} {mg : Str → Option Value} {base : Heap} {k : Nat} (T : Bu mg) (C : Cls K cs_law "NearError") (R : rows_law.all (clsRow K cs_law) = true) {f : Addr} {fd : FuncData} (F : Fun K "_law_refused" "_law_refused" s__law_refused f fd) (hm : mg "_law_refused" = some (.ref f)) {PG : PFam} {lam : Nat → Fn} {kk : Nat} (hkk : kk ≤ k) (hL : ∀ k, LamOk P w K mg base kk (PG k) (lam k)) : FnM P w K mg base (k + 1) "_law_refused" 1 (runB 4 (m__law_refused PG lam)) :=
  Y.fnM F hm sc__law_refused (fun _ _ _ _ _ _ us hl => (len1 hl).elim fun a q => by subst q; rfl) fun cdv A outer s H E hr => Y.ss_cons (Y.ss_set 1 sc__law_refused.nd (Y.se_non)) (Y.ss_cons (Y.ss_try hL (hr.mono hkk) rfl rfl C.top_at C.top_exc (by decide +kernel) C.under sc__law_refused.nd rfl rfl rfl rfl rfl rfl rfl) (Y.ss_cons (Y.ss_set 3 sc__law_refused.nd (Y.se_lstN (Y.sa_cons (Y.se_isx (C.isx (rw_NoTable R)) (cls_at (rw_NoTable R)) T.b_isinstance (Y.se_var 1)) (Y.sa_cons (Y.se_isx (C.isx (rw_NotSteady R)) (cls_at (rw_NotSteady R)) T.b_isinstance (Y.se_var 1)) (Y.sa_cons (Y.se_isx (C.isx (rw_NoPlace R)) (cls_at (rw_NoPlace R)) T.b_isinstance (Y.se_var 1)) (Y.sa_nil)))) (al_cons (al_cons (al_cons al_nil))))) (Y.ss_cons (Y.ss_set 3 sc__law_refused.nd (Y.se_add (Y.se_var 3) (Y.se_lstN (Y.sa_cons (Y.se_isx (C.isx (rw_NoKind R)) (cls_at (rw_NoKind R)) T.b_isinstance (Y.se_var 1)) (Y.sa_cons (Y.se_isx (C.isx (rw_NoMix R)) (cls_at (rw_NoMix R)) T.b_isinstance (Y.se_var 1)) (Y.sa_cons (Y.se_isx (C.isx (rw_NoNumber R)) (cls_at (rw_NoNumber R)) T.b_isinstance (Y.se_var 1)) (Y.sa_nil)))) (al_cons (al_cons (al_cons al_nil)))))) (Y.ss_cons (Y.ss_set 3 sc__law_refused.nd (Y.se_add (Y.se_var 3) (Y.se_lstN (Y.sa_cons (Y.se_isx (C.isx (rw_NoLot R)) (cls_at (rw_NoLot R)) T.b_isinstance (Y.se_var 1)) (Y.sa_cons (Y.se_isx (C.isx (rw_NoKinds R)) (cls_at (rw_NoKinds R)) T.b_isinstance (Y.se_var 1)) (Y.sa_cons (Y.se_isx (C.isx (rw_NoPaper R)) (cls_at (rw_NoPaper R)) T.b_isinstance (Y.se_var 1)) (Y.sa_nil)))) (al_cons (al_cons (al_cons al_nil)))))) (Y.ss_cons (Y.ss_set 3 sc__law_refused.nd (Y.se_add (Y.se_var 3) (Y.se_lstN (Y.sa_cons (Y.se_isx (C.isx (rw_NoParting R)) (cls_at (rw_NoParting R)) T.b_isinstance (Y.se_var 1)) (Y.sa_cons (Y.se_isx (C.isx (rw_NoClosed R)) (cls_at (rw_NoClosed R)) T.b_isinstance (Y.se_var 1)) (Y.sa_cons (Y.se_isx (C.isx (rw_TooMany R)) (cls_at (rw_TooMany R)) T.b_isinstance (Y.se_var 1)) (Y.sa_nil)))) (al_cons (al_cons (al_cons al_nil)))))) (Y.ss_cons (Y.ss_set 3 sc__law_refused.nd (Y.se_add (Y.se_var 3) (Y.se_lstN (Y.sa_cons (Y.se_isx (C.isx (rw_NoText R)) (cls_at (rw_NoText R)) T.b_isinstance (Y.se_var 1)) (Y.sa_cons (Y.se_isx (C.isx (rw_NoLine R)) (cls_at (rw_NoLine R)) T.b_isinstance (Y.se_var 1)) (Y.sa_cons (Y.se_isx (C.isx (rw_NoDeed R)) (cls_at (rw_NoDeed R)) T.b_isinstance (Y.se_var 1)) (Y.sa_nil)))) (al_cons (al_cons (al_cons al_nil)))))) (Y.ss_cons (Y.ss_set 3 sc__law_refused.nd (Y.se_add (Y.se_var 3) (Y.se_lstN (Y.sa_cons (Y.se_isx (C.isx (rw_NoWeights R)) (cls_at (rw_NoWeights R)) T.b_isinstance (Y.se_var 1)) (Y.sa_cons (Y.se_isx (C.isx (rw_NotWhole R)) (cls_at (rw_NotWhole R)) T.b_isinstance (Y.se_var 1)) (Y.sa_cons (Y.se_isx (C.isx (rw_NoNumbers R)) (cls_at (rw_NoNumbers R)) T.b_isinstance (Y.se_var 1)) (Y.sa_nil)))) (al_cons (al_cons (al_cons al_nil)))))) (Y.ss_cons (Y.ss_if (Y.st_not (Y.st_val (Y.se_isxT C.isv T.b_isinstance T.b_ValueError (by rfl) (Y.se_var 1)))) (Y.ss_cons (Y.ss_ret (Y.se_non)) (Y.ss_nil)) (Y.ss_nil)) (Y.ss_cons (Y.ss_ret (Y.se_list (Y.sf_comp (N := ["_law_k", "_law_marks"]) 1 [3] rfl (cps (by kernel_rfl)) (by kernel_rfl) (Y.si_rng1 rfl T.b_range (Y.se_int)) (fun _ _ _ => ⟨Y.sg_var 0 (by decide +kernel : (["_law_k", "_law_marks"] : List Str).Nodup), Y.sts_one (Y.st_val (Y.se_ix (Y.se_var 1) (Y.se_var 0))), Y.sm_elt (fun _ _ z => z) (Y.se_var 0) rfl⟩)))) (Y.ss_nil))))))))))
noncomputable abbrev s__law_due : Stmt := top 37
private theorem sc__law_due : FnScope ["_law_many", "_law_signs", "_law_kind", "_law_place", "_law_row", "_law_at", "_law_weight"] ["_law_many", "_law_signs", "_law_kind", "_law_place"] (defScope s__law_due) := ⟨rfl, rfl, rfl, by decide +kernel, rfl, by decide +kernel, by decide +kernel⟩
noncomputable def m__law_due : Ex := xSeq (xSet 4 (mBin gAdd (mLst (aCons (mLit (.int 1)) (aNil))) (mBin gMul (mLst (aCons (mLit (.int 0)) (aNil))) (mVar 0)))) (xSeq (xFor (mRng1 (mVar 0)) (gVar 5) (xSeq (xSet 6 (mIf (mBin gLt (mVar 5) (mVar 3)) (mUn gNeg (mLit (.int 1))) (mBin gSub (mVar 1) (mLit (.int 1))))) (xSeq (xSet 4 (mList (cItems 1 [4, 6] (mRng1 (mBin gAdd (mVar 0) (mLit (.int 1)))) (gVar 0) (mLit (.bl true)) (emElt (mBin gAdd (mBin gIx (mVar 1) (mVar 0)) (mBin gMul (mVar 2) (mBin gIx (mBin gAdd (mLst (aCons (mLit (.int 0)) (aNil))) (mVar 1)) (mVar 0)))))))) (xNil)))) (xSeq (xRet (mBin gIx (mVar 4) (mVar 2))) (xNil)))
private theorem r__law_due {P : Program} {w : World} {K : PySem.W.Frag} {mg : Str → Option Value} {base : Heap} {k : Nat} (T : Bu mg) {f : Addr} {fd : FuncData} (F : Fun K "_law_due" "_law_due" s__law_due f fd) (hm : mg "_law_due" = some (.ref f)) : FnM P w K mg base (k + 1) "_law_due" 4 (runB 7 (m__law_due)) :=
  Y.fnM F hm sc__law_due (fun _ _ _ _ _ _ us hl => (len4 hl).elim fun a h => h.elim fun b h => h.elim fun c h => h.elim fun d q => by subst q; rfl) fun cdv A outer s H E hr => Y.ss_cons (Y.ss_set 4 sc__law_due.nd (Y.se_add (Y.se_lstN (Y.sa_cons (Y.se_int) (Y.sa_nil)) (al_cons al_nil)) (Y.se_mul (Y.se_lstN (Y.sa_cons (Y.se_int) (Y.sa_nil)) (al_cons al_nil)) (Y.se_var 0)))) (Y.ss_cons (Y.ss_for PassesOwn.never rfl (Y.si_rng1 rfl T.b_range (Y.se_var 0)) (Y.sg_var 5 sc__law_due.nd) (Y.ss_cons (Y.ss_set 6 sc__law_due.nd (Y.se_if (Y.st_c c_lt (Y.se_var 5) (Y.se_var 3)) (Y.se_neg (Y.se_int)) (Y.se_sub (Y.se_var 1) (Y.se_int)))) (Y.ss_cons (Y.ss_set 4 sc__law_due.nd (Y.se_list (Y.sf_comp (N := ["_law_step", "_law_row", "_law_weight"]) 1 [4, 6] rfl (cps (by kernel_rfl)) (by kernel_rfl) (Y.si_rng1 rfl T.b_range (Y.se_add (Y.se_var 0) (Y.se_int))) (fun _ _ _ => ⟨Y.sg_var 0 (by decide +kernel : (["_law_step", "_law_row", "_law_weight"] : List Str).Nodup), Y.sts_nil, Y.sm_elt (fun _ _ z => z) (Y.se_add (Y.se_ix (Y.se_var 1) (Y.se_var 0)) (Y.se_mul (Y.se_var 2) (Y.se_ix (Y.se_add (Y.se_lstN (Y.sa_cons (Y.se_int) (Y.sa_nil)) (al_cons al_nil)) (Y.se_var 1)) (Y.se_var 0)))) rfl⟩)))) (Y.ss_nil)))) (Y.ss_cons (Y.ss_ret (Y.se_ix (Y.se_var 4) (Y.se_var 2))) (Y.ss_nil)))
noncomputable abbrev s_law : Stmt := top 38
private theorem sc_law : FnScope ["_law_script", "_law_k", "_law_state_here", "_law_many", "_law_signs", "_law_turn", "_law_kind", "_law_place", "_law_bad", "_law_none", "_law_calls", "_law_odd"] ["_law_script"] (defScope s_law) := ⟨rfl, rfl, rfl, by decide +kernel, rfl, by decide +kernel, by decide +kernel⟩
noncomputable abbrev qn_law : Str := (("law" : Str) ++ (".<locals>." : Str)) ++ ("<lambda>" : Str)
noncomputable def t_law_0 (fX_words_weight : Fn) : Lm := lmOf (argE (valS (subS ((defBody s_law).getD 0 pass0') 5)) 0) ["_law_bad", "_law_none"] [8, 9] (mCall fX_words_weight (aCons (mVar 0) (aCons (mVar 0) (aCons (mVar 1) (aCons (mVar 1) (aNil))))))
noncomputable def t_law_1 (fX_words_weight : Fn) : Lm := lmOf (argE (valS (subS ((defBody s_law).getD 0 pass0') 6)) 0) ["_law_signs", "_law_bad", "_law_none"] [4, 8, 9] (mCall fX_words_weight (aCons (mVar 1) (aCons (mVar 0) (aCons (mVar 2) (aCons (mLit (.int 0)) (aNil))))))
noncomputable def t_law_2 (fX_words_weight : Fn) : Lm := lmOf (argE (valS (subS ((defBody s_law).getD 0 pass0') 8)) 0) ["_law_many", "_law_none", "_law_odd"] [3, 9, 11] (mCall fX_words_weight (aCons (mVar 0) (aCons (mVar 2) (aCons (mLit (.int 0)) (aCons (mVar 1) (aNil))))))
noncomputable def t_law_3 (fX_words_weight : Fn) : Lm := lmOf (argE (valS (subS ((defBody s_law).getD 0 pass0') 10)) 0) ["_law_many", "_law_signs", "_law_none"] [3, 4, 9] (mCall fX_words_weight (aCons (mVar 0) (aCons (mVar 1) (aCons (mVar 2) (aCons (mLit (.int 0)) (aNil))))))
noncomputable def t_law_4 (fX_words_weight : Fn) : Lm := lmOf (argE (valS (subS ((defBody s_law).getD 0 pass0') 11)) 0) ["_law_many", "_law_signs", "_law_none"] [3, 4, 9] (mCall fX_words_weight (aCons (mVar 0) (aCons (mVar 1) (aCons (mLit (.int 0)) (aCons (mVar 2) (aNil))))))
noncomputable def ls_law (fX_words_weight : Fn) : List Lm := [t_law_0 fX_words_weight, t_law_1 fX_words_weight, t_law_2 fX_words_weight, t_law_3 fX_words_weight, t_law_4 fX_words_weight]
private theorem lo_law_0 {P : Program} {w : World} {K : PySem.W.Frag} {mg : Str → Option Value} {k : Nat} (T : Bu mg) {fX_words_weight : Fn} (X_words_weight : ∀ base, FnX P w K mg base k "words_weight" 4 fX_words_weight) : LmOk P w K mg k qn_law (t_law_0 fX_words_weight) :=
  ⟨⟨rfl, rfl, rfl, nocell_of (by kernel_rfl)⟩, fun _ _ _ _ => rfl, fun base cl a c A outer s H E hr xo => yE (Y.se_callX xo (X_words_weight base) hr (Y.sa_cons (Y.se_var 0) (Y.sa_cons (Y.se_var 0) (Y.sa_cons (Y.se_var 1) (Y.sa_cons (Y.se_var 1) (Y.sa_nil))))) (al_cons (al_cons (al_cons (al_cons al_nil)))))⟩
private theorem lo_law_1 {P : Program} {w : World} {K : PySem.W.Frag} {mg : Str → Option Value} {k : Nat} (T : Bu mg) {fX_words_weight : Fn} (X_words_weight : ∀ base, FnX P w K mg base k "words_weight" 4 fX_words_weight) : LmOk P w K mg k qn_law (t_law_1 fX_words_weight) :=
  ⟨⟨rfl, rfl, rfl, nocell_of (by kernel_rfl)⟩, fun _ _ _ _ => rfl, fun base cl a c A outer s H E hr xo => yE (Y.se_callX xo (X_words_weight base) hr (Y.sa_cons (Y.se_var 1) (Y.sa_cons (Y.se_var 0) (Y.sa_cons (Y.se_var 2) (Y.sa_cons (Y.se_int) (Y.sa_nil))))) (al_cons (al_cons (al_cons (al_cons al_nil)))))⟩
private theorem lo_law_2 {P : Program} {w : World} {K : PySem.W.Frag} {mg : Str → Option Value} {k : Nat} (T : Bu mg) {fX_words_weight : Fn} (X_words_weight : ∀ base, FnX P w K mg base k "words_weight" 4 fX_words_weight) : LmOk P w K mg k qn_law (t_law_2 fX_words_weight) :=
  ⟨⟨rfl, rfl, rfl, nocell_of (by kernel_rfl)⟩, fun _ _ _ _ => rfl, fun base cl a c A outer s H E hr xo => yE (Y.se_callX xo (X_words_weight base) hr (Y.sa_cons (Y.se_var 0) (Y.sa_cons (Y.se_var 2) (Y.sa_cons (Y.se_int) (Y.sa_cons (Y.se_var 1) (Y.sa_nil))))) (al_cons (al_cons (al_cons (al_cons al_nil)))))⟩
private theorem lo_law_3 {P : Program} {w : World} {K : PySem.W.Frag} {mg : Str → Option Value} {k : Nat} (T : Bu mg) {fX_words_weight : Fn} (X_words_weight : ∀ base, FnX P w K mg base k "words_weight" 4 fX_words_weight) : LmOk P w K mg k qn_law (t_law_3 fX_words_weight) :=
  ⟨⟨rfl, rfl, rfl, nocell_of (by kernel_rfl)⟩, fun _ _ _ _ => rfl, fun base cl a c A outer s H E hr xo => yE (Y.se_callX xo (X_words_weight base) hr (Y.sa_cons (Y.se_var 0) (Y.sa_cons (Y.se_var 1) (Y.sa_cons (Y.se_var 2) (Y.sa_cons (Y.se_int) (Y.sa_nil))))) (al_cons (al_cons (al_cons (al_cons al_nil)))))⟩
private theorem lo_law_4 {P : Program} {w : World} {K : PySem.W.Frag} {mg : Str → Option Value} {k : Nat} (T : Bu mg) {fX_words_weight : Fn} (X_words_weight : ∀ base, FnX P w K mg base k "words_weight" 4 fX_words_weight) : LmOk P w K mg k qn_law (t_law_4 fX_words_weight) :=
  ⟨⟨rfl, rfl, rfl, nocell_of (by kernel_rfl)⟩, fun _ _ _ _ => rfl, fun base cl a c A outer s H E hr xo => yE (Y.se_callX xo (X_words_weight base) hr (Y.sa_cons (Y.se_var 0) (Y.sa_cons (Y.se_var 1) (Y.sa_cons (Y.se_int) (Y.sa_cons (Y.se_var 2) (Y.sa_nil))))) (al_cons (al_cons (al_cons (al_cons al_nil)))))⟩
private theorem ls_ok {P : Program} {w : World} {K : PySem.W.Frag} {mg : Str → Option Value} {k : Nat} (T : Bu mg) {fX_words_weight : Fn} (X_words_weight : ∀ base, FnX P w K mg base k "words_weight" 4 fX_words_weight) : ∀ t ∈ ls_law fX_words_weight, LmOk P w K mg k qn_law t :=
  all_cons (lo_law_0 T X_words_weight) (all_cons (lo_law_1 T X_words_weight) (all_cons (lo_law_2 T X_words_weight) (all_cons (lo_law_3 T X_words_weight) (all_cons (lo_law_4 T X_words_weight) (all_nil)))))
noncomputable def m_law (f__law_due : Fn) (f__law_same : Fn) (f__law_state : Fn) (f__law_take : Fn) (f_words_weight : Fn) (fX_words_weight : Fn) (RF : Nat → List W → Hx → R W) (Pt : Addr) (PF : PFam) : Ex := xSeq (xFor (mRng1 (mBin gMax2 (mLit (.int 1)) (mBin gMin2 (mQ gLen (mSeq (mVar 0))) (mLit (.int 6))))) (gVar 1) (xSeq (xSet 2 (mCall f__law_state (aCons (mVar 0) (aCons (mVar 1) (aNil))))) (xSeq (xAsg (mTup (aCons (mBin gAdd (mLit (.int 1)) (mCall f__law_take (aCons (mVar 2) (aCons (mLit (.int 12)) (aNil))))) (aCons (mBin gAdd (mLit (.int 2)) (mCall f__law_take (aCons (mVar 2) (aCons (mLit (.int 8)) (aNil))))) (aNil)))) (gPair 3 4)) (xSeq (xFor (mRng1 (mLit (.int 6))) (gVar 5) (xSeq (xPar 6 7 (mCall f__law_take (aCons (mVar 2) (aCons (mBin gAdd (mVar 3) (mLit (.int 1))) (aNil)))) (mCall f__law_take (aCons (mVar 2) (aCons (mBin gAdd (mVar 3) (mLit (.int 1))) (aNil))))) (xSeq (xIf (mNot (mCall f__law_same (aCons (mCall f_words_weight (aCons (mVar 3) (aCons (mVar 4) (aCons (mVar 6) (aCons (mVar 7) (aNil)))))) (aCons (mCall f__law_due (aCons (mVar 3) (aCons (mVar 4) (aCons (mVar 6) (aCons (mVar 7) (aNil)))))) (aNil))))) (xSeq (xRet (mLit (.bl false))) (xNil)) (xNil)) (xNil)))) (xSeq (xSet 8 (mBin gIx (mLst (aCons (mLit (.int 0)) (aCons (mLit (.int 13)) (aCons (mUn gNeg (mLit (.int 1))) (aCons (mLit (.bl true)) (aCons (mLit .non) (aCons (mLit (.str "2")) (aCons (mTup (aCons (mLit (.int 2)) (aNil))) (aCons (mBin gPow (mLit (.int 10)) (mLit (.int 29))) (aNil)))))))))) (mCall f__law_take (aCons (mVar 2) (aCons (mLit (.int 8)) (aNil)))))) (xSeq (xSet 9 (mBin gIx (mLst (aCons (mBin gAdd (mVar 3) (mLit (.int 1))) (aCons (mUn gNeg (mLit (.int 1))) (aCons (mLit (.bl true)) (aCons (mLit .non) (aCons (mLit (.str "0")) (aCons (mTup (aCons (mLit (.int 0)) (aNil))) (aNil)))))))) (mCall f__law_take (aCons (mVar 2) (aCons (mLit (.int 6)) (aNil)))))) (xSeq (xSet 10 (mLst (aCons (mLam 1 qn_law Pt 0 (PF 0)) (aNil)))) (xSeq (xDo (mMeth gAppend (mVar 10) (mLam 1 qn_law Pt 1 (PF 1)))) (xSeq (xSet 11 (mBin gIx (mLst (aCons (mLit (.int 1)) (aCons (mIf (mBin gEq (mVar 8) (mLit (.int 13))) (mLit (.int 10)) (mVar 8)) (aNil)))) (mCall f__law_take (aCons (mVar 2) (aCons (mLit (.int 2)) (aNil)))))) (xSeq (xDo (mMeth gAppend (mVar 10) (mLam 1 qn_law Pt 2 (PF 2)))) (xSeq (xIf (mBin gNe (mList (cRefs 1 (mIt (mVar 10)) (gVar 0) 0 PF (ls_law fX_words_weight) RF)) (mBin gMul (mLst (aCons (mLst (aCons (mLit (.int 5)) (aNil))) (aNil))) (mLit (.int 3)))) (xSeq (xRet (mLit (.bl false))) (xNil)) (xNil)) (xSeq (xSet 10 (mLst (aCons (mLam 1 qn_law Pt 3 (PF 3)) (aNil)))) (xSeq (xDo (mMeth gAppend (mVar 10) (mLam 1 qn_law Pt 4 (PF 4)))) (xSeq (xIf (mBin gNe (mList (cRefs 1 (mIt (mVar 10)) (gVar 0) 0 PF (ls_law fX_words_weight) RF)) (mBin gMul (mLst (aCons (mLst (aCons (mLit (.int 3)) (aNil))) (aNil))) (mLit (.int 2)))) (xSeq (xRet (mLit (.bl false))) (xNil)) (xNil)) (xNil))))))))))))))) (xSeq (xRet (mLit (.bl true))) (xNil))
private theorem o_law {P : Program} {w : World} {K : PySem.W.Frag} {mg : Str → Option Value} {base : Heap} {k : Nat} (T : Bu mg) {f c Pt : Addr} {fd : FuncData} (F : Fun K "law" "law" s_law f fd) (hn : PySem.W.nsIn K mainGlobals "law" = some (some (.ref f))) (ht : PySem.W.tabIn K "law" = some (c, Pt)) (hB : BMain mg base) (hC : PySem.W.CodeHd base c Pt) {f__law_due : Fn} (F__law_due : FnM P w K mg base k "_law_due" 4 f__law_due) {f__law_same : Fn} (F__law_same : FnM P w K mg base k "_law_same" 2 f__law_same) {f__law_state : Fn} (F__law_state : FnM P w K mg base k "_law_state" 2 f__law_state) {f__law_take : Fn} (F__law_take : FnM P w K mg base k "_law_take" 2 f__law_take) {f_words_weight : Fn} (F_words_weight : FnM P w K mg base k "words_weight" 4 f_words_weight) {fX_words_weight : Fn} {RF : Nat → List W → Hx → R W} {j kk : Nat} (hkk : kk ≤ k) (hls : ∀ t ∈ ls_law fX_words_weight, LmOk P w K mg j qn_law t) (hR : ∀ base PG, (∀ k, LamOk P w K mg base (j + 1) (PG k) (lamF (ls_law fX_words_weight) k)) → FnM P w K mg base kk "_law_refused" 1 (fRef PG RF)) : FnOk P w K mg base CX0 (k + 1) f fd ["_law_script"] (spT K 1 fun PF => runB 12 (m_law f__law_due f__law_same f__law_state f__law_take f_words_weight fX_words_weight RF Pt PF)) :=
  Y.fnT (ls := ls_law fX_words_weight) F hn ht sc_law fun A outer s H E hr => Y.ss_cons (Y.ss_for PassesOwn.never rfl (Y.si_rng1 rfl T.b_range (Y.se_max2 rfl T.b_max (Y.se_int) (Y.se_min2 rfl T.b_min (Y.se_len T.b_len (Y.sq_E (Y.se_var 0))) (Y.se_int)))) (Y.sg_var 1 sc_law.nd) (Y.ss_cons (Y.ss_set 2 sc_law.nd (Y.se_call F__law_state hr (Y.sa_cons (Y.se_var 0) (Y.sa_cons (Y.se_var 1) (Y.sa_nil))) (al_cons (al_cons al_nil)))) (Y.ss_cons (Y.ss_asg (Y.se_tupN (Y.sa_cons (Y.se_add (Y.se_int) (Y.se_call F__law_take hr (Y.sa_cons (Y.se_var 2) (Y.sa_cons (Y.se_int) (Y.sa_nil))) (al_cons (al_cons al_nil)))) (Y.sa_cons (Y.se_add (Y.se_int) (Y.se_call F__law_take hr (Y.sa_cons (Y.se_var 2) (Y.sa_cons (Y.se_int) (Y.sa_nil))) (al_cons (al_cons al_nil)))) (Y.sa_nil))) (al_cons (al_cons al_nil))) (Y.sg_pair 3 4 rfl sc_law.nd)) (Y.ss_cons (Y.ss_for PassesOwn.never rfl (Y.si_rng1 rfl T.b_range (Y.se_int)) (Y.sg_var 5 sc_law.nd) (Y.ss_cons (Y.ss_par 6 7 rfl sc_law.nd (Y.se_call F__law_take hr (Y.sa_cons (Y.se_var 2) (Y.sa_cons (Y.se_add (Y.se_var 3) (Y.se_int)) (Y.sa_nil))) (al_cons (al_cons al_nil))) (Y.se_call F__law_take hr (Y.sa_cons (Y.se_var 2) (Y.sa_cons (Y.se_add (Y.se_var 3) (Y.se_int)) (Y.sa_nil))) (al_cons (al_cons al_nil)))) (Y.ss_cons (Y.ss_if (Y.st_not (Y.st_val (Y.se_call F__law_same hr (Y.sa_cons (Y.se_call F_words_weight hr (Y.sa_cons (Y.se_var 3) (Y.sa_cons (Y.se_var 4) (Y.sa_cons (Y.se_var 6) (Y.sa_cons (Y.se_var 7) (Y.sa_nil))))) (al_cons (al_cons (al_cons (al_cons al_nil))))) (Y.sa_cons (Y.se_call F__law_due hr (Y.sa_cons (Y.se_var 3) (Y.sa_cons (Y.se_var 4) (Y.sa_cons (Y.se_var 6) (Y.sa_cons (Y.se_var 7) (Y.sa_nil))))) (al_cons (al_cons (al_cons (al_cons al_nil))))) (Y.sa_nil))) (al_cons (al_cons al_nil))))) (Y.ss_cons (Y.ss_ret (Y.se_bl)) (Y.ss_nil)) (Y.ss_nil)) (Y.ss_nil)))) (Y.ss_cons (Y.ss_set 8 sc_law.nd (Y.se_ix (Y.se_lstN (Y.sa_cons (Y.se_int) (Y.sa_cons (Y.se_int) (Y.sa_cons (Y.se_neg (Y.se_int)) (Y.sa_cons (Y.se_bl) (Y.sa_cons (Y.se_non) (Y.sa_cons (Y.se_str) (Y.sa_cons (Y.se_tupN (Y.sa_cons (Y.se_int) (Y.sa_nil)) (al_cons al_nil)) (Y.sa_cons (Y.se_pow (Y.se_int) (Y.se_int)) (Y.sa_nil))))))))) (al_cons (al_cons (al_cons (al_cons (al_cons (al_cons (al_cons (al_cons al_nil))))))))) (Y.se_call F__law_take hr (Y.sa_cons (Y.se_var 2) (Y.sa_cons (Y.se_int) (Y.sa_nil))) (al_cons (al_cons al_nil))))) (Y.ss_cons (Y.ss_set 9 sc_law.nd (Y.se_ix (Y.se_lstN (Y.sa_cons (Y.se_add (Y.se_var 3) (Y.se_int)) (Y.sa_cons (Y.se_neg (Y.se_int)) (Y.sa_cons (Y.se_bl) (Y.sa_cons (Y.se_non) (Y.sa_cons (Y.se_str) (Y.sa_cons (Y.se_tupN (Y.sa_cons (Y.se_int) (Y.sa_nil)) (al_cons al_nil)) (Y.sa_nil))))))) (al_cons (al_cons (al_cons (al_cons (al_cons (al_cons al_nil))))))) (Y.se_call F__law_take hr (Y.sa_cons (Y.se_var 2) (Y.sa_cons (Y.se_int) (Y.sa_nil))) (al_cons (al_cons al_nil))))) (Y.ss_cons (Y.ss_set 10 sc_law.nd (Y.se_lstN (Y.sa_cons (Y.se_lamK (ls := ls_law fX_words_weight) (t := t_law_0 fX_words_weight) rfl (by kernel_rfl) hB rfl hC rfl rfl) (Y.sa_nil)) (al_cons al_nil))) (Y.ss_cons (Y.ss_expr (Y.se_append (Y.se_var 10) (Y.se_lamK (ls := ls_law fX_words_weight) (t := t_law_1 fX_words_weight) rfl (by kernel_rfl) hB rfl hC rfl rfl))) (Y.ss_cons (Y.ss_set 11 sc_law.nd (Y.se_ix (Y.se_lstN (Y.sa_cons (Y.se_int) (Y.sa_cons (Y.se_if (Y.st_c (c_eqD hr) (Y.se_var 8) (Y.se_int)) (Y.se_int) (Y.se_var 8)) (Y.sa_nil))) (al_cons (al_cons al_nil))) (Y.se_call F__law_take hr (Y.sa_cons (Y.se_var 2) (Y.sa_cons (Y.se_int) (Y.sa_nil))) (al_cons (al_cons al_nil))))) (Y.ss_cons (Y.ss_expr (Y.se_append (Y.se_var 10) (Y.se_lamK (ls := ls_law fX_words_weight) (t := t_law_2 fX_words_weight) rfl (by kernel_rfl) hB rfl hC rfl rfl))) (Y.ss_cons (Y.ss_if (Y.st_c (c_neD hr) (Y.se_refs (N := ["_law_call"]) (q := qn_law) (fun _ => rfl) hls (all_cons (lmIx_of (by kernel_rfl)) (all_cons (lmIx_of (by kernel_rfl)) (all_cons (lmIx_of (by kernel_rfl)) (all_cons (lmIx_of (by kernel_rfl)) (all_cons (lmIx_of (by kernel_rfl)) (all_nil)))))) hR (hr.mono hkk) rfl (cps (by kernel_rfl)) (by kernel_rfl) (Y.si_E (Y.se_var 10)) (fun _ _ _ => Y.sg_var 0 (by decide +kernel : (["_law_call"] : List Str).Nodup)) rfl (Or.inl rfl) (fun _ _ _ => rfl)) (Y.se_mul (Y.se_lstN (Y.sa_cons (Y.se_lstN (Y.sa_cons (Y.se_int) (Y.sa_nil)) (al_cons al_nil)) (Y.sa_nil)) (al_cons al_nil)) (Y.se_int))) (Y.ss_cons (Y.ss_ret (Y.se_bl)) (Y.ss_nil)) (Y.ss_nil)) (Y.ss_cons (Y.ss_set 10 sc_law.nd (Y.se_lstN (Y.sa_cons (Y.se_lamK (ls := ls_law fX_words_weight) (t := t_law_3 fX_words_weight) rfl (by kernel_rfl) hB rfl hC rfl rfl) (Y.sa_nil)) (al_cons al_nil))) (Y.ss_cons (Y.ss_expr (Y.se_append (Y.se_var 10) (Y.se_lamK (ls := ls_law fX_words_weight) (t := t_law_4 fX_words_weight) rfl (by kernel_rfl) hB rfl hC rfl rfl))) (Y.ss_cons (Y.ss_if (Y.st_c (c_neD hr) (Y.se_refs (N := ["_law_call"]) (q := qn_law) (fun _ => rfl) hls (all_cons (lmIx_of (by kernel_rfl)) (all_cons (lmIx_of (by kernel_rfl)) (all_cons (lmIx_of (by kernel_rfl)) (all_cons (lmIx_of (by kernel_rfl)) (all_cons (lmIx_of (by kernel_rfl)) (all_nil)))))) hR (hr.mono hkk) rfl (cps (by kernel_rfl)) (by kernel_rfl) (Y.si_E (Y.se_var 10)) (fun _ _ _ => Y.sg_var 0 (by decide +kernel : (["_law_call"] : List Str).Nodup)) rfl (Or.inl rfl) (fun _ _ _ => rfl)) (Y.se_mul (Y.se_lstN (Y.sa_cons (Y.se_lstN (Y.sa_cons (Y.se_int) (Y.sa_nil)) (al_cons al_nil)) (Y.sa_nil)) (al_cons al_nil)) (Y.se_int))) (Y.ss_cons (Y.ss_ret (Y.se_bl)) (Y.ss_nil)) (Y.ss_nil)) (Y.ss_nil))))))))))))))) (Y.ss_cons (Y.ss_ret (Y.se_bl)) (Y.ss_nil))
noncomputable def R_is_whole : Fn := runB 1 (m_is_whole)
noncomputable def F_is_whole : Fn := iso R_is_whole
noncomputable def R_raised : Fn := runB 4 (m_raised)
noncomputable def F_raised : Fn := iso R_raised
noncomputable def R_count_lots : Fn := runB 4 (m_count_lots)
noncomputable def F_count_lots : Fn := iso R_count_lots
noncomputable def R__law_cell_at : Fn := runB 2 (m__law_cell_at)
noncomputable def F__law_cell_at : Fn :=  R__law_cell_at
noncomputable def R__law_take : Fn := runB 4 (m__law_take)
noncomputable def F__law_take : Fn := isoL R__law_take
noncomputable def R__law_same : Fn := runB 2 (m__law_same (fun _ _ => .bad))
noncomputable def F__law_same : Fn := iso R__law_same
noncomputable def R__law_due : Fn := runB 7 (m__law_due)
noncomputable def F__law_due : Fn := iso R__law_due
noncomputable def R_is_whole_between : Fn := runB 3 (m_is_whole_between F_is_whole)
noncomputable def F_is_whole_between : Fn := iso R_is_whole_between
noncomputable def R__law_state : Fn := runB 3 (m__law_state F__law_cell_at)
noncomputable def F__law_state : Fn :=  R__law_state
noncomputable def RX_require_number : Fn := runX 3 (m_require_number F_is_whole_between)
noncomputable def RX_require_kind_to : Fn := runX 2 (m_require_kind_to F_is_whole_between)
noncomputable def RX_words_weight : Fn := runX 4 (m_words_weight F_count_lots F_raised RX_require_kind_to RX_require_number)
noncomputable def F_words_weight : Fn := iso (fun ws A => (RX_words_weight ws A).nox)
structure Tx (K : PySem.W.Frag) : Prop where
  d_is_whole : FD K "is_whole" s_is_whole
  d_raised : FD K "raised" s_raised
  d_count_lots : FD K "count_lots" s_count_lots
  d__law_cell_at : FD K "_law_cell_at" s__law_cell_at
  d__law_take : FD K "_law_take" s__law_take
  d__law_same : FD K "_law_same" s__law_same
  d__law_due : FD K "_law_due" s__law_due
  d_is_whole_between : FD K "is_whole_between" s_is_whole_between
  d__law_state : FD K "_law_state" s__law_state
  d_require_number : FD K "require_number" s_require_number
  d_require_kind_to : FD K "require_kind_to" s_require_kind_to
  d_words_weight : FD K "words_weight" s_words_weight
  d__law_refused : FD K "_law_refused" s__law_refused
  d_law : FD K "law" s_law
  n_ValueError : PySem.W.nsIn K mainGlobals "ValueError" = some none
  n_all : PySem.W.nsIn K mainGlobals "all" = some none
  n_bool : PySem.W.nsIn K mainGlobals "bool" = some none
  n_int : PySem.W.nsIn K mainGlobals "int" = some none
  n_isinstance : PySem.W.nsIn K mainGlobals "isinstance" = some none
  n_len : PySem.W.nsIn K mainGlobals "len" = some none
  n_list : PySem.W.nsIn K mainGlobals "list" = some none
  n_max : PySem.W.nsIn K mainGlobals "max" = some none
  n_min : PySem.W.nsIn K mainGlobals "min" = some none
  n_range : PySem.W.nsIn K mainGlobals "range" = some none
  n_sum : PySem.W.nsIn K mainGlobals "sum" = some none
  n_tuple : PySem.W.nsIn K mainGlobals "tuple" = some none
  n_zip : PySem.W.nsIn K mainGlobals "zip" = some none
  q_MOST_NUMBER_BY_RULE : CD K "MOST_NUMBER_BY_RULE" 9
  q_MOST_SIGNS_BY_RULE : CD K "MOST_SIGNS_BY_RULE" 12
  x_exc : cs_law.all (excRow K "NearError" ·) = true
  x_top : topRow K "NearError" = true
  x_row : rows_law.all (clsRow K cs_law) = true
section
variable {P : Program} {w : World} {K : PySem.W.Frag} {mg : Str → Option Value} {base h : Heap}
private theorem bu (X : K.In h) (G : h.Ns mainGlobals mg) (T : Tx K) : Bu mg := ⟨PySem.W.mg_none_of X G T.n_ValueError, PySem.W.mg_none_of X G T.n_all, PySem.W.mg_none_of X G T.n_bool, PySem.W.mg_none_of X G T.n_int, PySem.W.mg_none_of X G T.n_isinstance, PySem.W.mg_none_of X G T.n_len, PySem.W.mg_none_of X G T.n_list, PySem.W.mg_none_of X G T.n_max, PySem.W.mg_none_of X G T.n_min, PySem.W.mg_none_of X G T.n_range, PySem.W.mg_none_of X G T.n_sum, PySem.W.mg_none_of X G T.n_tuple, PySem.W.mg_none_of X G T.n_zip, (let ⟨t, e⟩ := T.q_MOST_NUMBER_BY_RULE; ⟨t, PySem.W.mg_of X G e⟩), (let ⟨t, e⟩ := T.q_MOST_SIGNS_BY_RULE; ⟨t, PySem.W.mg_of X G e⟩)⟩
private theorem cl (T : Tx K) : Cls K cs_law "NearError" := cls_mk T.x_exc T.x_top
private theorem g_is_whole (X : K.In h) (G : h.Ns mainGlobals mg) (T : Tx K) : FnM P w K mg base 1 "is_whole" 1 F_is_whole := by
  obtain ⟨f, fd, F, a⟩ := T.d_is_whole
  exact (r_is_whole (k := 0) (bu X G T) F (PySem.W.mg_of X G a)).iso
private theorem g_raised (X : K.In h) (G : h.Ns mainGlobals mg) (T : Tx K) : FnM P w K mg base 1 "raised" 2 F_raised := by
  obtain ⟨f, fd, F, a⟩ := T.d_raised
  exact (r_raised (k := 0) (bu X G T) F (PySem.W.mg_of X G a)).iso
private theorem g_count_lots (X : K.In h) (G : h.Ns mainGlobals mg) (T : Tx K) : FnM P w K mg base 1 "count_lots" 2 F_count_lots := by
  obtain ⟨f, fd, F, a⟩ := T.d_count_lots
  exact (r_count_lots (k := 0) (bu X G T) F (PySem.W.mg_of X G a)).iso
private theorem g__law_cell_at (X : K.In h) (G : h.Ns mainGlobals mg) (T : Tx K) : FnM P w K mg base 1 "_law_cell_at" 2 F__law_cell_at := by
  obtain ⟨f, fd, F, a⟩ := T.d__law_cell_at
  exact (r__law_cell_at (k := 0) (bu X G T) F (PySem.W.mg_of X G a))
private theorem g__law_take (X : K.In h) (G : h.Ns mainGlobals mg) (T : Tx K) : FnM P w K mg base 1 "_law_take" 2 F__law_take := by
  obtain ⟨f, fd, F, a⟩ := T.d__law_take
  exact (r__law_take (k := 0) (bu X G T) F (PySem.W.mg_of X G a)).isoL
private theorem g__law_same (X : K.In h) (G : h.Ns mainGlobals mg) (T : Tx K) : FnM P w K mg base 1 "_law_same" 2 F__law_same := by
  obtain ⟨f, fd, F, a⟩ := T.d__law_same
  exact (r__law_same (k := 0) (bu X G T) F (PySem.W.mg_of X G a) (fnBad (ps := ["_law_found", "_law_due_here"]) F (PySem.W.mg_of X G a) (fun _ _ _ _ _ _ us hl => (len2 hl).elim fun a h => h.elim fun b q => by subst q; rfl))).iso
private theorem g__law_due (X : K.In h) (G : h.Ns mainGlobals mg) (T : Tx K) : FnM P w K mg base 1 "_law_due" 4 F__law_due := by
  obtain ⟨f, fd, F, a⟩ := T.d__law_due
  exact (r__law_due (k := 0) (bu X G T) F (PySem.W.mg_of X G a)).iso
private theorem g_is_whole_between (X : K.In h) (G : h.Ns mainGlobals mg) (T : Tx K) : FnM P w K mg base 2 "is_whole_between" 3 F_is_whole_between := by
  obtain ⟨f, fd, F, a⟩ := T.d_is_whole_between
  exact (r_is_whole_between (k := 1) (bu X G T) F (PySem.W.mg_of X G a) ((g_is_whole X G T).mono (by decide))).iso
private theorem g__law_state (X : K.In h) (G : h.Ns mainGlobals mg) (T : Tx K) : FnM P w K mg base 2 "_law_state" 2 F__law_state := by
  obtain ⟨f, fd, F, a⟩ := T.d__law_state
  exact (r__law_state (k := 1) (bu X G T) F (PySem.W.mg_of X G a) ((g__law_cell_at X G T).mono (by decide)))
private theorem gx_require_number (X : K.In h) (G : h.Ns mainGlobals mg) (T : Tx K) : FnX P w K mg base 3 "require_number" 3 RX_require_number := by
  obtain ⟨f, fd, F, a⟩ := T.d_require_number
  exact r_require_number (k := 2) (bu X G T) (cl T) F (PySem.W.mg_of X G a) ((g_is_whole_between X G T).mono (by decide))
private theorem gx_require_kind_to (X : K.In h) (G : h.Ns mainGlobals mg) (T : Tx K) : FnX P w K mg base 3 "require_kind_to" 2 RX_require_kind_to := by
  obtain ⟨f, fd, F, a⟩ := T.d_require_kind_to
  exact r_require_kind_to (k := 2) (bu X G T) (cl T) F (PySem.W.mg_of X G a) ((g_is_whole_between X G T).mono (by decide))
private theorem gx_words_weight (X : K.In h) (G : h.Ns mainGlobals mg) (T : Tx K) : FnX P w K mg base 4 "words_weight" 4 RX_words_weight := by
  obtain ⟨f, fd, F, a⟩ := T.d_words_weight
  exact r_words_weight (k := 3) (bu X G T) (cl T) F (PySem.W.mg_of X G a) ((g_count_lots X G T).mono (by decide)) ((g_raised X G T).mono (by decide)) ((gx_require_kind_to X G T).mono (by decide)) ((gx_require_number X G T).mono (by decide))
private theorem g_words_weight (X : K.In h) (G : h.Ns mainGlobals mg) (T : Tx K) : FnM P w K mg base 4 "words_weight" 4 F_words_weight := (gx_words_weight X G T).m.iso
private theorem g__law_refused (X : K.In h) (G : h.Ns mainGlobals mg) (T : Tx K) {PG : PFam} {lam : Nat → Fn} (hL : ∀ k, LamOk P w K mg base 5 (PG k) (lam k)) : FnM P w K mg base 6 "_law_refused" 1 (iso (runB 4 (m__law_refused PG lam))) := by
  obtain ⟨f, fd, F, a⟩ := T.d__law_refused
  exact (r__law_refused (k := 5) (bu X G T) (cl T) T.x_row F (PySem.W.mg_of X G a) (Nat.le_refl _) hL).iso
end
end G
set_option maxHeartbeats 400000
namespace G
open PySem L2 Mi
private theorem small62_nat {n : Nat} (h : n < 1000000) : small62 (n : Int) = true := by
  unfold small62
  rw [Bool.and_eq_true, decide_eq_true_iff, decide_eq_true_iff]
  omega
private theorem cMul_r {i j : Int} (h1 : -1000000 < j) (h2 : j < 1000000) : cMul i j = true := by
  unfold cMul
  rw [Bool.or_eq_true, Bool.and_eq_true, Bool.and_eq_true, decide_eq_true_iff, decide_eq_true_iff, decide_eq_true_iff, decide_eq_true_iff]
  exact .inr ⟨by omega, by omega⟩
private theorem gMul_int {i j : Int} {A : Hx} (h1 : -1000000 < j) (h2 : j < 1000000) : gMul (.int i) (.int j) A = .ok (.int (i * j)) A := by
  unfold gMul
  dsimp only
  rw [if_pos (cMul_r h1 h2)]
private theorem raised_loop {b : Int} (hb1 : -1000000 < b) (hb2 : b < 1000000) (A : Hx) (t : Option W) (N : Nat) : ∀ (n i : Nat) (r : Int) (x : Option W), i + n = N → ∃ y,
    forGo (rngIt 0 N) (turn (gVar 3) (xSeq (xSet 2 (mBin gMul (mVar 2) (mVar 0))) (xNil))) n i [some (.int b), t, some (.int r), x] A = .ok (.nx [some (.int b), t, some (.int (r * b ^ n)), y]) A := by
  intro n
  induction n with
  | zero =>
    intro i r x h
    exact ⟨x, by rw [forGo_stop (rng_end (by omega)), Int.pow_zero, Int.mul_one]⟩
  | succ n ih =>
    intro i r x h
    obtain ⟨y, e⟩ := ih (i + 1) (r * b) (some (.int (0 + i))) (by omega)
    refine ⟨y, ?_⟩
    rw [forGo_nx (w := .int (0 + i)) (ρ1 := [some (.int b), t, some (.int (r * b)), some (.int (0 + i))]) (A1 := A) (rng_at (by omega)) ?_, e, Int.mul_assoc, ← Int.pow_succ']
    rw [turn_ok (ρ1 := [some (.int b), t, some (.int r), some (.int (0 + i))]) rfl, xSeq_nx (ρ1 := [some (.int b), t, some (.int (r * b)), some (.int (0 + i))]) (A1 := A) ?_]
    · rfl
    · rw [xSet_ok (w := .int (r * b)) (A1 := A) ?_]
      · rfl
      · rw [mBin_ok (x := .int r) (y := .int b) (A1 := A) (A2 := A) (mVar_ok rfl) (mVar_ok rfl), gMul_int hb1 hb2]
private theorem raised_eq {b : Int} (hb1 : -1000000 < b) (hb2 : b < 1000000) {n : Nat} (hn : n < 1000000) (A : Hx) : R_raised [.int b, .int n] A = .ok (.int (b ^ n)) A := by
  obtain ⟨y, e⟩ := raised_loop hb1 hb2 A (some (.int n)) n n 0 1 none (Nat.zero_add n)
  rw [Int.one_mul] at e
  refine runB_rt ?_
  unfold m_raised
  rw [xSeq_nx (ρ1 := [some (.int b), some (.int n), some (.int 1), none]) (A1 := A) rfl, xSeq_nx (ρ1 := [some (.int b), some (.int n), some (.int (b ^ n)), y]) (A1 := A) ?_, xSeq_rt (w := .int (b ^ n)) (A1 := A) (xRet_ok (mVar_ok rfl))]
  rw [xFor_ok (mRng1_ok (k := (n : Int)) (A1 := A) (mVar_ok rfl) (small62_nat hn))]
  rw [Int.toNat_natCast]
  exact e
private theorem raised_F {b : Int} (hb1 : -1000000 < b) (hb2 : b < 1000000) {n : Nat} (hn : n < 1000000) (A : Hx) : F_raised [.int b, .int n] A = .ok (.int (b ^ n)) A := iso_ok rfl rfl (raised_eq hb1 hb2 hn [])
end G
set_option maxHeartbeats 400000
namespace G
open PySem L2 Mi
noncomputable def lots (m : Int) : Nat → Int
  | 0 => 1
  | k + 1 => lots m k * (m - k) / (k + 1)
private theorem lots_loop {m : Int} (hm1 : -1000 < m) (hm2 : m < 1000) (A : Hx) (t : Option W) (N : Nat) (hN : N < 1000) : ∀ (n i : Nat) (x : Option W), i + n = N → ∃ y,
    forGo (rngIt 0 N) (turn (gVar 3) (xSeq (xSet 2 (mBin gDiv (mBin gMul (mVar 2) (mBin gSub (mVar 1) (mVar 3))) (mBin gAdd (mVar 3) (mLit (.int 1))))) (xNil))) n i [t, some (.int m), some (.int (lots m i)), x] A = .ok (.nx [t, some (.int m), some (.int (lots m N)), y]) A := by
  intro n
  induction n with
  | zero =>
    intro i x h
    have : i = N := by omega
    subst this
    exact ⟨x, by rw [forGo_stop (rng_end (by omega))]⟩
  | succ n ih =>
    intro i x h
    obtain ⟨y, e⟩ := ih (i + 1) (some (.int (0 + i))) (by omega)
    refine ⟨y, ?_⟩
    rw [forGo_nx (w := .int (0 + i)) (ρ1 := [t, some (.int m), some (.int (lots m (i + 1))), some (.int (0 + i))]) (A1 := A) (rng_at (by omega)) ?_, e]
    rw [turn_ok (ρ1 := [t, some (.int m), some (.int (lots m i)), some (.int (0 + i))]) rfl, xSeq_nx (ρ1 := [t, some (.int m), some (.int (lots m (i + 1))), some (.int (0 + i))]) (A1 := A) ?_]
    · rfl
    · rw [xSet_ok (w := .int (lots m (i + 1))) (A1 := A) ?_]
      · rfl
      · have e1 : mBin gMul (mVar 2) (mBin gSub (mVar 1) (mVar 3)) [t, some (.int m), some (.int (lots m i)), some (.int (0 + i))] A = .ok (.int (lots m i * (m - (0 + i)))) A := by
          rw [mBin_ok (x := .int (lots m i)) (y := .int (m - (0 + i))) (A1 := A) (A2 := A) (mVar_ok rfl) ?_, gMul_int (by omega) (by omega)]
          rw [mBin_ok (x := .int m) (y := .int (0 + i)) (A1 := A) (A2 := A) (mVar_ok rfl) (mVar_ok rfl)]
          rfl
        have e2 : mBin gAdd (mVar 3) (mLit (.int 1)) [t, some (.int m), some (.int (lots m i)), some (.int (0 + i))] A = .ok (.int (0 + i + 1)) A := by
          rw [mBin_ok (x := .int (0 + i)) (y := .int 1) (A1 := A) (A2 := A) (mVar_ok rfl) rfl]
          rfl
        rw [mBin_ok e1 e2]
        unfold gDiv gIC
        dsimp only
        rw [if_pos ?_]
        · show R.ok (W.int _) A = R.ok (W.int (lots m i * (m - i) / (i + 1))) A
          rw [Int.zero_add]
        · unfold cDiv
          rw [Bool.and_eq_true, decide_eq_true_iff, decide_eq_true_iff]
          omega
private theorem lots_eq {m : Int} (hm1 : -1000 < m) (hm2 : m < 1000) {n : Nat} (hn : n < 1000) (A : Hx) : R_count_lots [.int n, .int m] A = .ok (.int (lots m n)) A := by
  obtain ⟨y, e⟩ := lots_loop hm1 hm2 A (some (.int n)) n hn n 0 none (Nat.zero_add n)
  refine runB_rt ?_
  unfold m_count_lots
  rw [xSeq_nx (ρ1 := [some (.int n), some (.int m), some (.int 1), none]) (A1 := A) rfl, xSeq_nx (ρ1 := [some (.int n), some (.int m), some (.int (lots m n)), y]) (A1 := A) ?_, xSeq_rt (w := .int (lots m n)) (A1 := A) (xRet_ok (mVar_ok rfl))]
  rw [xFor_ok (mRng1_ok (k := (n : Int)) (A1 := A) (mVar_ok rfl) (small62_nat (by omega)))]
  rw [Int.toNat_natCast]
  exact e
private theorem lots_F {m : Int} (hm1 : -1000 < m) (hm2 : m < 1000) {n : Nat} (hn : n < 1000) (A : Hx) : F_count_lots [.int n, .int m] A = .ok (.int (lots m n)) A := iso_ok rfl rfl (lots_eq hm1 hm2 hn [])
end G
set_option maxHeartbeats 400000
namespace G
open PySem L2 Mi
private theorem is_whole_F (i : Int) (A : Hx) : F_is_whole [.int i] A = .ok (.bl true) A := iso_ok rfl rfl (A1 := []) rfl
private theorem chain_t {x y z : Int} {ma mb mc : Ev} {ρ : En} {A : Hx} (h1 : ma ρ A = .ok (.int x) A) (h2 : mb ρ A = .ok (.int y) A) (h3 : mc ρ A = .ok (.int z) A) (a : x ≤ y) (b : y ≤ z) : mChain gLe gLe ma mb mc ρ A = .ok (.bl true) A := by
  unfold mChain
  rw [h1, bind_ok, h2, bind_ok]
  have e1 : gLe (.int x) (.int y) A = .ok (.bl true) A := by
    show R.ok (W.bl (decide (x ≤ y))) A = _
    rw [decide_eq_true a]
  have e2 : gLe (.int y) (.int z) A = .ok (.bl true) A := by
    show R.ok (W.bl (decide (y ≤ z))) A = _
    rw [decide_eq_true b]
  rw [e1, bind_ok]
  dsimp only
  rw [h3, bind_ok, e2]
private theorem between_F {x lo hi : Int} (a : lo ≤ x) (b : x ≤ hi) (A : Hx) : F_is_whole_between [.int x, .int lo, .int hi] A = .ok (.bl true) A := by
  refine iso_ok rfl rfl (A1 := []) (runB_rt ?_)
  unfold m_is_whole_between
  rw [xSeq_rt (w := .bl true) (A1 := []) (xRet_ok ?_)]
  rw [mAnd_t (A1 := []) ?_]
  · exact chain_t (mVar_ok rfl) (mVar_ok rfl) (mVar_ok rfl) a b
  · rw [mCall_ok (ws := [.int x]) (A1 := []) rfl]
    exact is_whole_F x []
private theorem nox_ok {α : Type} {r : R α} {a : α} {A : Hx} (h : r = .ok a A) : r.nox = .ok a A := by rw [h]; rfl
private theorem runX_rt {n : Nat} {m : Ex} {ws : List W} {w : W} {A A1 : Hx} (h : m (ws.map some ++ List.replicate (n - ws.length) none) A = .ok (.rt w) A1) : runX n m ws A = .ok w A1 := by unfold runX; rw [h]; rfl
private theorem runX_nx {n : Nat} {m : Ex} {ws : List W} {ρ : En} {A A1 : Hx} (h : m (ws.map some ++ List.replicate (n - ws.length) none) A = .ok (.nx ρ) A1) : runX n m ws A = .ok .non A1 := by unfold runX; rw [h]; rfl
private theorem number_F {x lo hi : Int} (a : lo ≤ x) (b : x ≤ hi) (A : Hx) : RX_require_number [.int x, .int lo, .int hi] A = .ok .non A := by
  refine runX_nx (ρ := [some (.int x), some (.int lo), some (.int hi)]) ?_
  unfold m_require_number
  rw [xSeq_nx (ρ1 := [some (.int x), some (.int lo), some (.int hi)]) (A1 := A) ?_]
  · rfl
  · refine (xIf_f (A1 := A) (nox_ok (mNot_ok (k := true) ?_))).trans rfl
    · rw [mCall_ok (ws := [.int x, .int lo, .int hi]) (A1 := A) rfl]
      exact between_F a b A
private theorem kind_to_F {x hi : Int} (a : 0 ≤ x) (b : x ≤ hi) (A : Hx) : RX_require_kind_to [.int x, .int hi] A = .ok .non A := by
  refine runX_nx (ρ := [some (.int x), some (.int hi)]) ?_
  unfold m_require_kind_to
  rw [xSeq_nx (ρ1 := [some (.int x), some (.int hi)]) (A1 := A) ?_]
  · rfl
  · refine (xIf_f (A1 := A) (nox_ok (mNot_ok (k := true) ?_))).trans rfl
    · rw [mCall_ok (ws := [.int x, .int 0, .int hi]) (A1 := A) rfl]
      exact between_F a b A
end G
set_option maxHeartbeats 400000
namespace G
open PySem L2 Mi
private theorem cMul_l {i j : Int} (h : -1000000 < i ∧ i < 1000000) : cMul i j = true := by
  unfold cMul
  rw [Bool.or_eq_true, Bool.and_eq_true, Bool.and_eq_true, decide_eq_true_iff, decide_eq_true_iff, decide_eq_true_iff, decide_eq_true_iff]
  exact .inl ⟨by omega, by omega⟩
private theorem gMul_l {i j : Int} {A : Hx} (h : -1000000 < i ∧ i < 1000000) : gMul (.int i) (.int j) A = .ok (.int (i * j)) A := by
  unfold gMul
  dsimp only
  rw [if_pos (cMul_l h)]
private theorem sign_small (s : Nat) : -1000000 < (-1 : Int) ^ s ∧ (-1 : Int) ^ s < 1000000 := by
  have : (-1 : Int) ^ s = 1 ∨ (-1 : Int) ^ s = -1 := by
    induction s with
    | zero => exact .inl rfl
    | succ s ih =>
      rw [Int.pow_succ]
      rcases ih with e | e
      · (first | exact ((e).trans (.inr rfl)) | (rw [e]; exact .inr rfl))
      · (first | exact ((e).trans (.inl rfl)) | (rw [e]; exact .inl rfl))
  rcases this with e | e <;> rw [e] <;> exact ⟨by decide, by decide⟩
private theorem lots_small : ∀ m : Fin 13, ∀ k : Fin 13, -1000000 < lots (m.val : Int) k.val ∧ lots (m.val : Int) k.val < 1000000 := by decide +kernel
private theorem intsOf_map (t : Nat → Int) : ∀ l : List Nat, intsOf (l.map fun s => W.int (t s)) = some (l.map t)
  | [] => rfl
  | s :: l => by rw [List.map_cons, List.map_cons, intsOf, intsOf_map t l]
noncomputable def wpart (many signs kind number s : Nat) : Int := (-1) ^ s * ((signs : Int) - 1) ^ (kind - s) * lots number s * lots ((many : Int) - number) (kind - s)
noncomputable def wweight (many signs kind number : Nat) : Int := sumI ((List.range (kind + 1)).map (wpart many signs kind number)) 0
private theorem weight_F {many signs kind number : Nat} (h1 : 1 ≤ many) (h2 : many ≤ 12) (h3 : 2 ≤ signs) (h4 : signs ≤ 9) (h5 : kind ≤ many) (h6 : number ≤ many) (A : Hx) :
    F_words_weight [.int many, .int signs, .int kind, .int number] A = .ok (.int (wweight many signs kind number)) A := by
  refine iso_ok rfl rfl (A1 := []) (nox_ok (runX_rt ?_))
  unfold m_words_weight
  have d : ∀ (f : Fn) (a : Ea) (ws : List W) (ρ : En) (r : Ex), a ρ [] = .ok ws [] → f ws [] = .ok .non [] → xSeq (xDo (mCall f a)) r ρ [] = r ρ [] := fun f a ws ρ r e1 e2 => xSeq_nx (xDo_ok ((mCall_ok e1).trans e2))
  rw [d RX_require_number _ [.int many, .int 1, .int 12] _ _ rfl (number_F (by omega) (by omega) [])]
  rw [d RX_require_number _ [.int signs, .int 2, .int 9] _ _ rfl (number_F (by omega) (by omega) [])]
  rw [d RX_require_kind_to _ [.int kind, .int many] _ _ rfl (kind_to_F (by omega) (by omega) [])]
  rw [d RX_require_kind_to _ [.int number, .int many] _ _ rfl (kind_to_F (by omega) (by omega) [])]
  refine nox_ok (xSeq_rt (xRet_ok ?_))
  rw [mQ_ok (cItems_map (j := rngIt 0 (kind + 1)) (N := kind + 1) (item := fun i => .int (0 + i)) (g := fun s => .int (wpart many signs kind number s)) ?_ rfl (by unfold cpMost; omega) (fun i hi => rng_at hi) (rng_end (by omega)) fun s hs => ?_)]
  · unfold gSum
    rw [intsOf_map]
    rfl
  · rw [mRng1_ok (k := (kind : Int) + 1) (A1 := []) ?_ ?_]
    · congr 2
    · rw [mBin_ok (x := .int kind) (y := .int 1) (A1 := []) (A2 := []) (mVar_ok rfl) rfl]
      rfl
    · exact small62_nat (n := kind + 1) (by omega)
  · dsimp only [List.map]
    have ek : (kind : Int) - (0 + (s : Int)) = ((kind - s : Nat) : Int) := by omega
    have es : (0 + (s : Int)) = ((s : Nat) : Int) := by omega
    have e1 : mCall F_raised (aCons (mUn gNeg (mLit (.int 1))) (aCons (mVar 0) (aNil))) [some (.int (0 + s)), some (.int many), some (.int signs), some (.int kind), some (.int number)] [] = .ok (.int ((-1) ^ s)) [] := by
      rw [mCall_ok (ws := [.int (-1), .int (0 + s)]) (A1 := []) rfl, es]
      exact raised_F (by decide) (by decide) (by omega) []
    have e2 : mCall F_raised (aCons (mBin gSub (mVar 2) (mLit (.int 1))) (aCons (mBin gSub (mVar 3) (mVar 0)) (aNil))) [some (.int (0 + s)), some (.int many), some (.int signs), some (.int kind), some (.int number)] [] = .ok (.int (((signs : Int) - 1) ^ (kind - s))) [] := by
      rw [mCall_ok (ws := [.int ((signs : Int) - 1), .int ((kind : Int) - (0 + s))]) (A1 := []) rfl, ek]
      exact raised_F (by omega) (by omega) (by omega) []
    have e3 : mCall F_count_lots (aCons (mVar 0) (aCons (mVar 4) (aNil))) [some (.int (0 + s)), some (.int many), some (.int signs), some (.int kind), some (.int number)] [] = .ok (.int (lots number s)) [] := by
      rw [mCall_ok (ws := [.int (0 + s), .int number]) (A1 := []) rfl, es]
      exact lots_F (by omega) (by omega) (by omega) []
    have e4 : mCall F_count_lots (aCons (mBin gSub (mVar 3) (mVar 0)) (aCons (mBin gSub (mVar 1) (mVar 4)) (aNil))) [some (.int (0 + s)), some (.int many), some (.int signs), some (.int kind), some (.int number)] [] = .ok (.int (lots ((many : Int) - number) (kind - s))) [] := by
      rw [mCall_ok (ws := [.int ((kind : Int) - (0 + s)), .int ((many : Int) - number)]) (A1 := []) rfl, ek]
      exact lots_F (by omega) (by omega) (by omega) []
    have b3 := lots_small ⟨number, by omega⟩ ⟨s, by omega⟩
    have b4 := lots_small ⟨many - number, by omega⟩ ⟨kind - s, by omega⟩
    have em : ((many - number : Nat) : Int) = (many : Int) - number := by omega
    dsimp only at b3 b4
    rw [em] at b4
    have p1 := (mBin_ok (g := gMul) e1 e2).trans (gMul_l (sign_small s))
    have p2 := (mBin_ok (g := gMul) p1 e3).trans (gMul_int b3.1 b3.2)
    exact (mBin_ok (g := gMul) p2 e4).trans (gMul_int b4.1 b4.2)
end G
set_option maxHeartbeats 400000
namespace Mi
open PySem L2
private theorem emGo_inv {P : Hx → Prop} {j : Itx} {me : Ev} {c : En} {N : Nat} {item g : Nat → W} (hat : ∀ A i, P A → i < N → j.at_ A i = some (some (item i))) (hend : ∀ A, P A → j.at_ A N = some none)
    (he : ∀ A i, P A → i < N → ∃ A', me (some (item i) :: c) A = .ok (g i) A' ∧ P A') :
    ∀ (n i : Nat) (x : Option W) (acc : List W) (A : Hx), P A → i + n = N → acc.length + n ≤ cpMost → ∃ y A', P A' ∧ emGo j (gVar 0) (mLit (.bl true)) (emElt me) n i (x :: c) acc A = .ok (y :: c, acc ++ (List.range' i n).map g) A' := by
  intro n
  induction n with
  | zero =>
    intro i x acc A hA h _
    have : i = N := by omega
    subst this
    refine ⟨x, A, hA, ?_⟩
    unfold emGo
    rw [hend A hA]
    simp
  | succ n ih =>
    intro i x acc A hA h hl
    have hlt : i < N := by omega
    obtain ⟨A1, e1, h1⟩ := he A i hA hlt
    obtain ⟨y, A2, h2, e2⟩ := ih (i + 1) (some (item i)) (acc ++ [g i]) A1 h1 (by omega) (by rw [List.length_append, List.length_singleton]; omega)
    refine ⟨y, A2, h2, ?_⟩
    rw [emGo, hat A i hA hlt]
    dsimp only [gVar, List.set, mLit]
    rw [bind_ok]
    dsimp only
    have ee : emElt me (some (item i) :: c) acc A = .ok (some (item i) :: c, acc ++ [g i]) A1 := by
      unfold emElt
      rw [e1, bind_ok, if_pos (by omega)]
    rw [ee, bind_ok]
    dsimp only
    rw [e2, List.range'_succ, List.map_cons, List.append_assoc]
    rfl
private theorem cItems_inv {P : Hx → Prop} {cap : List Nat} {mi : Ei} {j : Itx} {me : Ev} {ρ : En} {A : Hx} {N : Nat} {item g : Nat → W} (hm : mi ρ A = .ok j A) (hj : j.len = N) (hN : N ≤ cpMost) (hA : P A)
    (hat : ∀ A i, P A → i < N → j.at_ A i = some (some (item i))) (hend : ∀ A, P A → j.at_ A N = some none) (he : ∀ A i, P A → i < N → ∃ A', me (some (item i) :: cap.map fun i => (ρ[i]?).join) A = .ok (g i) A' ∧ P A') :
    ∃ A', P A' ∧ cItems 1 cap mi (gVar 0) (mLit (.bl true)) (emElt me) ρ A = .ok ((List.range N).map g) A' := by
  obtain ⟨y, A', h, e⟩ := emGo_inv hat hend he N 0 none [] A hA (Nat.zero_add N) (by simpa using hN)
  refine ⟨A', h, ?_⟩
  unfold cItems
  rw [hm, bind_ok, hj]
  have hc : ncapE 1 cap ρ = none :: cap.map fun i => (ρ[i]?).join := rfl
  rw [hc, e, List.nil_append, ← List.range_eq_range']
  rfl
private theorem gIx_lst {n : Nat} {ws : List W} {w : W} {A : Hx} {s : Nat} (h : A[n]? = some (.lst ws)) (hs : ws[s]? = some w) : gIx (.ref n) (.int (s : Int)) A = .ok w A := by
  unfold gIx
  have e : seqOf (.ref n) A = some ws := by unfold seqOf; dsimp only; rw [h]
  rw [e]
  dsimp only
  rw [atI_nat hs]
private theorem gAdd_lst {n k : Nat} {xs ys : List W} {A : Hx} (h : A[n]? = some (.lst xs)) (h2 : A[k]? = some (.lst ys)) (hl : xs.length + ys.length ≤ cpMost) : gAdd (.ref n) (.ref k) A = .ok (.ref A.length) (A ++ [.lst (xs ++ ys)]) := by
  unfold gAdd
  dsimp only
  rw [h, h2]
  dsimp only
  rw [if_pos hl]
private theorem at_old {A : Hx} {o u : O} {n : Nat} (h : A[n]? = some o) : (A ++ [u])[n]? = some o := by
  have := (List.getElem?_eq_some_iff.mp h).1
  (first | exact ((List.getElem?_append_left this).trans (h)) | (rw [List.getElem?_append_left this]; exact h))
private theorem at_new {A : Hx} {u : O} : (A ++ [u])[A.length]? = some u := by simp
end Mi
namespace G
open PySem L2 Mi
noncomputable def dnext (w : Int) (row : List Int) (n : Nat) : List Int := (List.range n).map fun s => row.getD s 0 + w * (0 :: row).getD s 0
noncomputable def dwt (signs place a : Nat) : Int := if a < place then -1 else (signs : Int) - 1
noncomputable def drow (many signs place : Nat) : Nat → List Int
  | 0 => 1 :: List.replicate many 0
  | a + 1 => dnext (dwt signs place a) (drow many signs place a) (many + 1)
private theorem drow_len (many signs place : Nat) : ∀ a, (drow many signs place a).length = many + 1
  | 0 => by simp [drow]
  | a + 1 => by simp [drow, dnext]
private theorem mapW_get {row : List Int} {s : Nat} (h : s < row.length) : (row.map W.int)[s]? = some (.int (row.getD s 0)) := by
  rw [List.getElem?_map, List.getElem?_eq_getElem h, List.getD_eq_getElem?_getD, List.getElem?_eq_getElem h]
  rfl
private theorem due_elt {row : List Int} {r : Nat} {w : Int} (hw : -1000000 < w ∧ w < 1000000) {A : Hx} {s : Nat} (hA : A[r]? = some (.lst (row.map W.int))) (hs : s < row.length) (hl : row.length ≤ 1000) :
    ∃ A', (mBin gAdd (mBin gIx (mVar 1) (mVar 0)) (mBin gMul (mVar 2) (mBin gIx (mBin gAdd (mLst (aCons (mLit (.int 0)) (aNil))) (mVar 1)) (mVar 0)))) [some (.int (0 + s)), some (.ref r), some (.int w)] A = .ok (.int (row.getD s 0 + w * (0 :: row).getD s 0)) A' ∧ A'[r]? = some (.lst (row.map W.int)) := by
  have es : (0 + (s : Int)) = (s : Int) := by omega
  refine ⟨A ++ [.lst [.int 0]] ++ [.lst ([.int 0] ++ row.map W.int)], ?_, at_old (at_old hA)⟩
  have e1 : mBin gIx (mVar 1) (mVar 0) [some (.int (0 + s)), some (.ref r), some (.int w)] A = .ok (.int (row.getD s 0)) A := by
    rw [mBin_ok (x := .ref r) (y := .int (0 + s)) (A1 := A) (A2 := A) (mVar_ok rfl) (mVar_ok rfl), es]
    exact gIx_lst hA (mapW_get hs)
  have e2 : mBin gAdd (mLst (aCons (mLit (.int 0)) (aNil))) (mVar 1) [some (.int (0 + s)), some (.ref r), some (.int w)] A = .ok (.ref (A ++ [O.lst [.int 0]]).length) (A ++ [.lst [.int 0]] ++ [.lst ([.int 0] ++ row.map W.int)]) := by
    rw [mBin_ok (x := .ref A.length) (y := .ref r) (A1 := A ++ [.lst [.int 0]]) (A2 := A ++ [.lst [.int 0]]) (mLst_ok (ws := [.int 0]) (A1 := A) rfl) (mVar_ok rfl)]
    exact gAdd_lst at_new (at_old hA) (by rw [List.length_singleton, List.length_map]; unfold cpMost; omega)
  have e3 : mBin gIx (mBin gAdd (mLst (aCons (mLit (.int 0)) (aNil))) (mVar 1)) (mVar 0) [some (.int (0 + s)), some (.ref r), some (.int w)] A = .ok (.int ((0 :: row).getD s 0)) (A ++ [.lst [.int 0]] ++ [.lst ([.int 0] ++ row.map W.int)]) := by
    rw [mBin_ok e2 (mVar_ok (w := .int (0 + s)) rfl), es]
    refine gIx_lst at_new ?_
    have : ([W.int 0] ++ row.map W.int) = (0 :: row).map W.int := rfl
    rw [this]
    exact mapW_get (by simp; omega)
  have e4 : mBin gMul (mVar 2) (mBin gIx (mBin gAdd (mLst (aCons (mLit (.int 0)) (aNil))) (mVar 1)) (mVar 0)) [some (.int (0 + s)), some (.ref r), some (.int w)] A = .ok (.int (w * (0 :: row).getD s 0)) (A ++ [.lst [.int 0]] ++ [.lst ([.int 0] ++ row.map W.int)]) := by
    rw [mBin_ok (x := .int w) (A1 := A) (mVar_ok rfl) e3]
    exact gMul_l hw
  rw [mBin_ok e1 e4]
  rfl
private theorem due_row {many signs kind place a r : Nat} (h2 : many ≤ 12) {w : Int} (hw : -1000000 < w ∧ w < 1000000) {row : List Int} (hrl : row.length = many + 1) {x5 : Option W} {A : Hx} (hA : A[r]? = some (.lst (row.map W.int))) :
    ∃ A', mList (cItems 1 [4, 6] (mRng1 (mBin gAdd (mVar 0) (mLit (.int 1)))) (gVar 0) (mLit (.bl true)) (emElt (mBin gAdd (mBin gIx (mVar 1) (mVar 0)) (mBin gMul (mVar 2) (mBin gIx (mBin gAdd (mLst (aCons (mLit (.int 0)) (aNil))) (mVar 1)) (mVar 0))))))
      [some (.int many), some (.int signs), some (.int kind), some (.int place), some (.ref r), x5, some (.int w)] A = .ok (.ref A'.length) (A' ++ [.lst ((dnext w row (many + 1)).map W.int)]) := by
  have hm : mRng1 (mBin gAdd (mVar 0) (mLit (.int 1))) [some (.int many), some (.int signs), some (.int kind), some (.int place), some (.ref r), x5, some (.int w)] A = .ok (rngIt 0 (many + 1)) A := by
    refine (mRng1_ok (k := (many : Int) + 1) (A1 := A) ?_ (small62_nat (n := many + 1) (by omega))).trans ?_
    · rw [mBin_ok (x := .int many) (y := .int 1) (A1 := A) (A2 := A) (mVar_ok rfl) rfl]
      rfl
    · congr 2
  obtain ⟨A', _, e⟩ := cItems_inv (P := fun A => A[r]? = some (.lst (row.map W.int))) (cap := [4, 6]) (ρ := [some (.int many), some (.int signs), some (.int kind), some (.int place), some (.ref r), x5, some (.int w)]) (A := A) (j := rngIt 0 (many + 1)) (N := many + 1) (mi := mRng1 (mBin gAdd (mVar 0) (mLit (.int 1))))
    (me := mBin gAdd (mBin gIx (mVar 1) (mVar 0)) (mBin gMul (mVar 2) (mBin gIx (mBin gAdd (mLst (aCons (mLit (.int 0)) (aNil))) (mVar 1)) (mVar 0)))) (item := fun i => .int (0 + i)) (g := fun s => .int (row.getD s 0 + w * (0 :: row).getD s 0)) hm rfl (by unfold cpMost; omega) hA (fun A i _ hi => rng_at hi) (fun A _ => rng_end (by omega)) fun A s hA hs => due_elt hw hA (by omega) (by omega)
  refine ⟨A', ?_⟩
  rw [mList_ok e]
  unfold dnext
  rw [List.map_map]
  rfl
private theorem due_loop {many signs kind place : Nat} (h2 : many ≤ 12) (h3 : 2 ≤ signs) (h4 : signs ≤ 9) : ∀ (n i r : Nat) (x5 x6 : Option W) (A : Hx), i + n = many → A[r]? = some (.lst ((drow many signs place i).map W.int)) → ∃ r' y5 y6 A', A'[r']? = some (.lst ((drow many signs place many).map W.int)) ∧
    forGo (rngIt 0 many) (turn (gVar 5) (xSeq (xSet 6 (mIf (mBin gLt (mVar 5) (mVar 3)) (mUn gNeg (mLit (.int 1))) (mBin gSub (mVar 1) (mLit (.int 1))))) (xSeq (xSet 4 (mList (cItems 1 [4, 6] (mRng1 (mBin gAdd (mVar 0) (mLit (.int 1)))) (gVar 0) (mLit (.bl true)) (emElt (mBin gAdd (mBin gIx (mVar 1) (mVar 0)) (mBin gMul (mVar 2) (mBin gIx (mBin gAdd (mLst (aCons (mLit (.int 0)) (aNil))) (mVar 1)) (mVar 0)))))))) (xNil))))
      n i [some (.int many), some (.int signs), some (.int kind), some (.int place), some (.ref r), x5, x6] A = .ok (.nx [some (.int many), some (.int signs), some (.int kind), some (.int place), some (.ref r'), y5, y6]) A' := by
  intro n
  induction n with
  | zero =>
    intro i r x5 x6 A h hA
    have : i = many := by omega
    subst this
    exact ⟨r, x5, x6, A, hA, forGo_stop (rng_end (by omega))⟩
  | succ n ih =>
    intro i r x5 x6 A h hA
    have hw : -1000000 < dwt signs place i ∧ dwt signs place i < 1000000 := by unfold dwt; split <;> omega
    obtain ⟨A', e⟩ := due_row (kind := kind) (place := place) (signs := signs) (a := i) (r := r) h2 hw (drow_len many signs place i) (x5 := some (.int (0 + i))) hA
    obtain ⟨r', y5, y6, A2, hA2, e2⟩ := ih (i + 1) A'.length (some (.int (0 + i))) (some (.int (dwt signs place i))) (A' ++ [.lst ((drow many signs place (i + 1)).map W.int)]) (by omega) at_new
    refine ⟨r', y5, y6, A2, hA2, ?_⟩
    rw [forGo_nx (w := .int (0 + i)) (ρ1 := [some (.int many), some (.int signs), some (.int kind), some (.int place), some (.ref A'.length), some (.int (0 + i)), some (.int (dwt signs place i))]) (A1 := A' ++ [.lst ((drow many signs place (i + 1)).map W.int)]) (rng_at (by omega)) ?_, e2]
    rw [turn_ok (ρ1 := [some (.int many), some (.int signs), some (.int kind), some (.int place), some (.ref r), some (.int (0 + i)), x6]) rfl]
    rw [xSeq_nx (ρ1 := [some (.int many), some (.int signs), some (.int kind), some (.int place), some (.ref r), some (.int (0 + i)), some (.int (dwt signs place i))]) (A1 := A) ?_]
    · rw [xSeq_nx (xSet_ok e)]
      rfl
    · rw [xSet_ok (w := .int (dwt signs place i)) (A1 := A) ?_]
      · rfl
      · have ec : mBin gLt (mVar 5) (mVar 3) [some (.int many), some (.int signs), some (.int kind), some (.int place), some (.ref r), some (.int (0 + i)), x6] A = .ok (.bl (decide ((0 + (i : Int)) < (place : Int)))) A := by
          rw [mBin_ok (x := .int (0 + i)) (y := .int place) (A1 := A) (A2 := A) (mVar_ok rfl) (mVar_ok rfl)]
          rfl
        unfold dwt
        by_cases hp : i < place
        · have : decide ((0 + (i : Int)) < (place : Int)) = true := decide_eq_true (by omega)
          rw [this] at ec
          rw [mIf_t ec, if_pos hp]
          rfl
        · have : decide ((0 + (i : Int)) < (place : Int)) = false := decide_eq_false (by omega)
          rw [this] at ec
          rw [mIf_f ec, if_neg hp, mBin_ok (x := .int signs) (y := .int 1) (A1 := A) (A2 := A) (mVar_ok rfl) rfl]
          rfl
private theorem due_F {many signs kind place : Nat} (h2 : many ≤ 12) (h3 : 2 ≤ signs) (h4 : signs ≤ 9) (h5 : kind ≤ many) (A : Hx) : F__law_due [.int many, .int signs, .int kind, .int place] A = .ok (.int ((drow many signs place many).getD kind 0)) A := by
  have e0 : xSet 4 (mBin gAdd (mLst (aCons (mLit (.int 1)) (aNil))) (mBin gMul (mLst (aCons (mLit (.int 0)) (aNil))) (mVar 0))) [some (.int many), some (.int signs), some (.int kind), some (.int place), none, none, none] [] =
      .ok (.nx [some (.int many), some (.int signs), some (.int kind), some (.int place), some (.ref 3), none, none]) [.lst [.int 1], .lst [.int 0], .lst (List.replicate many (.int 0)), .lst ((drow many signs place 0).map W.int)] := by
    rw [xSet_ok (w := .ref 3) (A1 := [.lst [.int 1], .lst [.int 0], .lst (List.replicate many (.int 0)), .lst ((drow many signs place 0).map W.int)]) ?_]
    · rfl
    · have em : mBin gMul (mLst (aCons (mLit (.int 0)) (aNil))) (mVar 0) [some (.int many), some (.int signs), some (.int kind), some (.int place), none, none, none] [.lst [.int 1]] = .ok (.ref 2) [.lst [.int 1], .lst [.int 0], .lst (List.replicate many (.int 0))] := by
        rw [mBin_ok (x := .ref 1) (y := .int many) (A1 := [.lst [.int 1], .lst [.int 0]]) (A2 := [.lst [.int 1], .lst [.int 0]]) rfl (mVar_ok rfl)]
        unfold gMul
        dsimp only
        show (if (small62 (many : Int) && decide ([W.int 0].length * (many : Int).toNat ≤ cpMost)) = true then _ else _) = _
        rw [if_pos ?_]
        · rw [Int.toNat_natCast, List.flatten_replicate_singleton]
          rfl
        · rw [Bool.and_eq_true, decide_eq_true_iff, Int.toNat_natCast]
          refine ⟨small62_nat (by omega), ?_⟩
          show 1 * many ≤ cpMost
          unfold cpMost
          omega
      rw [mBin_ok (x := .ref 0) (y := .ref 2) (A1 := [.lst [.int 1]]) (A2 := [.lst [.int 1], .lst [.int 0], .lst (List.replicate many (.int 0))]) rfl em]
      rw [gAdd_lst (xs := [.int 1]) (ys := List.replicate many (.int 0)) rfl rfl (by rw [List.length_singleton, List.length_replicate]; unfold cpMost; omega)]
      show R.ok _ _ = R.ok _ _
      unfold drow
      rw [List.map_cons, List.map_replicate]
      rfl
  obtain ⟨r', y5, y6, A', hA', e1⟩ := due_loop (kind := kind) (place := place) h2 h3 h4 many 0 3 none none [.lst [.int 1], .lst [.int 0], .lst (List.replicate many (.int 0)), .lst ((drow many signs place 0).map W.int)] (by omega) rfl
  refine iso_ok rfl rfl (A1 := A') (runB_rt ?_)
  unfold m__law_due
  refine (xSeq_nx e0).trans ?_
  rw [xSeq_nx (ρ1 := [some (.int many), some (.int signs), some (.int kind), some (.int place), some (.ref r'), y5, y6]) (A1 := A') ?_]
  · refine xSeq_rt (xRet_ok ?_)
    rw [mBin_ok (x := .ref r') (y := .int kind) (A1 := A') (A2 := A') (mVar_ok rfl) (mVar_ok rfl)]
    exact gIx_lst hA' (mapW_get (by rw [drow_len]; omega))
  · rw [xFor_ok (mRng1_ok (k := (many : Int)) (A1 := _) (mVar_ok rfl) (small62_nat (by omega))), Int.toNat_natCast]
    exact e1
end G
set_option maxHeartbeats 400000
namespace G
open PySem L2 Mi
noncomputable def dchk (many signs place : Nat) : Bool := decide ((List.range (many + 1)).map (fun kind => wweight many signs kind place) = drow many signs place many)
noncomputable def dmany (many : Nat) : Bool := (List.range 10).all fun signs => (List.range (many + 1)).all fun place => many == 0 || signs < 2 || dchk many signs place
set_option maxRecDepth 1000000 in
set_option maxHeartbeats 0 in
private theorem dmany_0 : dmany 0 = true := by decide +kernel
set_option maxRecDepth 1000000 in
set_option maxHeartbeats 0 in
private theorem dmany_1 : dmany 1 = true := by decide +kernel
set_option maxRecDepth 1000000 in
set_option maxHeartbeats 0 in
private theorem dmany_2 : dmany 2 = true := by decide +kernel
set_option maxRecDepth 1000000 in
set_option maxHeartbeats 0 in
private theorem dmany_3 : dmany 3 = true := by decide +kernel
set_option maxRecDepth 1000000 in
set_option maxHeartbeats 0 in
private theorem dmany_4 : dmany 4 = true := by decide +kernel
set_option maxRecDepth 1000000 in
set_option maxHeartbeats 0 in
private theorem dmany_5 : dmany 5 = true := by decide +kernel
set_option maxRecDepth 1000000 in
set_option maxHeartbeats 0 in
private theorem dmany_6 : dmany 6 = true := by decide +kernel
set_option maxRecDepth 1000000 in
set_option maxHeartbeats 0 in
private theorem dmany_7 : dmany 7 = true := by decide +kernel
set_option maxRecDepth 1000000 in
set_option maxHeartbeats 0 in
private theorem dmany_8 : dmany 8 = true := by decide +kernel
set_option maxRecDepth 1000000 in
set_option maxHeartbeats 0 in
private theorem dmany_9 : dmany 9 = true := by decide +kernel
set_option maxRecDepth 1000000 in
set_option maxHeartbeats 0 in
private theorem dmany_10 : dmany 10 = true := by decide +kernel
set_option maxRecDepth 1000000 in
set_option maxHeartbeats 0 in
private theorem dmany_11 : dmany 11 = true := by decide +kernel
set_option maxRecDepth 1000000 in
set_option maxHeartbeats 0 in
private theorem dmany_12 : dmany 12 = true := by decide +kernel
private theorem dmany_all : (List.range 13).all dmany = true := by
  rw [show List.range 13 = [0, 1, 2, 3, 4, 5, 6, 7, 8, 9, 10, 11, 12] from rfl]
  simp only [List.all_cons, List.all_nil, dmany_0, dmany_1, dmany_2, dmany_3, dmany_4, dmany_5, dmany_6, dmany_7, dmany_8, dmany_9, dmany_10, dmany_11, dmany_12, Bool.and_true]
private theorem dall : ((List.range 13).all fun many => (List.range 10).all fun signs => (List.range (many + 1)).all fun place => many == 0 || signs < 2 || dchk many signs place) = true := dmany_all
end G
set_option maxHeartbeats 400000
namespace G
open PySem L2 Mi
private theorem gMul_b {i j : Int} {A : Hx} (h1 : -(2 ^ 64) < i) (h2 : i < 2 ^ 64) : gMul (.int i) (.int j) A = .ok (.int (i * j)) A := by
  unfold gMul
  dsimp only
  rw [if_pos]
  unfold cMul
  rw [Bool.or_eq_true, Bool.and_eq_true, decide_eq_true_iff, decide_eq_true_iff]
  exact .inl ⟨h1, h2⟩
private theorem gMod_p {i j : Int} {A : Hx} (h : 0 < j) : gModI (.int i) (.int j) A = .ok (.int (i % j)) A := by
  unfold gModI gIC
  dsimp only
  rw [if_pos]
  unfold cMod
  exact decide_eq_true h
private theorem gDiv_p {i j : Int} {A : Hx} (h : 0 < j) (h2 : j < 1073741824) : gDiv (.int i) (.int j) A = .ok (.int (i / j)) A := by
  unfold gDiv gIC
  dsimp only
  rw [if_pos]
  unfold cDiv
  rw [Bool.and_eq_true, decide_eq_true_iff, decide_eq_true_iff]
  exact ⟨h, h2⟩
private theorem take_t {c m : Int} (h1 : 0 < m) (h2 : m < 1000) : R__law_take [.ref 0, .int m] [.lst [.int c, .bl true]] = .ok (.int (c % m)) [.lst [.int (c / m), .bl true]] := by
  refine runB_rt ?_
  unfold m__law_take
  refine xSeq_rt (A1 := [.lst [.int (c / m), .bl true]]) ?_
  refine (xIf_t (A1 := [.lst [.int c, .bl true]]) rfl).trans ?_
  refine (xSeq_nx (ρ1 := [some (.ref 0), some (.int m), some (.int (c % m)), none]) (A1 := [.lst [.int c, .bl true]]) ?_).trans ?_
  · refine (xSet_ok (w := .int (c % m)) (A1 := [.lst [.int c, .bl true]]) ?_).trans rfl
    exact (mBin_ok (x := .int c) (y := .int m) (A1 := [.lst [.int c, .bl true]]) (A2 := [.lst [.int c, .bl true]]) rfl rfl).trans (gMod_p h1)
  · refine (xSeq_nx (ρ1 := [some (.ref 0), some (.int m), some (.int (c % m)), none]) (A1 := [.lst [.int (c / m), .bl true]]) ?_).trans rfl
    have e : mBin gDiv (mBin gIx (mVar 0) (mLit (.int 0))) (mVar 1) [some (.ref 0), some (.int m), some (.int (c % m)), none] [.lst [.int c, .bl true]] = .ok (.int (c / m)) [.lst [.int c, .bl true]] :=
      (mBin_ok (x := .int c) (y := .int m) (A1 := [.lst [.int c, .bl true]]) (A2 := [.lst [.int c, .bl true]]) rfl rfl).trans (gDiv_p h1 (by omega))
    unfold xStore
    rw [e, bind_ok]
    rfl
noncomputable def st1 (c : Int) : Int := (c * 48271 + 29) % 2147483647
noncomputable def st2 (d : Int) : Int := (d * d + 39373 * d + 7) % 2147483629
noncomputable def st3 (e : Int) : Int := (e * e + 16807 * e) % 2147483587
private theorem st1_b (c : Int) : 0 ≤ st1 c ∧ st1 c < 2147483647 := ⟨Int.emod_nonneg _ (by decide), Int.emod_lt_of_pos _ (by decide)⟩
private theorem st2_b (c : Int) : 0 ≤ st2 c ∧ st2 c < 2147483629 := ⟨Int.emod_nonneg _ (by decide), Int.emod_lt_of_pos _ (by decide)⟩
private theorem take_f {c m : Int} (hc : 0 ≤ c) (hc2 : c < 2147483647) (h1 : 0 < m) (h2 : m < 1000) : R__law_take [.ref 0, .int m] [.lst [.int c, .bl false]] = .ok (.int (st3 (st2 (st1 c)) / 8 % m)) [.lst [.int (st1 c), .bl false]] := by
  have b1 := st1_b c
  refine runB_rt ?_
  unfold m__law_take
  refine (xSeq_nx (ρ1 := [some (.ref 0), some (.int m), none, none]) (A1 := [.lst [.int c, .bl false]]) ((xIf_f (A1 := [.lst [.int c, .bl false]]) rfl).trans rfl)).trans ?_
  have e1 : mBin gModI (mBin gAdd (mBin gMul (mBin gIx (mVar 0) (mLit (.int 0))) (mLit (.int 48271))) (mLit (.int 29))) (mLit (.int 2147483647)) [some (.ref 0), some (.int m), none, none] [.lst [.int c, .bl false]] = .ok (.int (st1 c)) [.lst [.int c, .bl false]] := by
    have em : mBin gMul (mBin gIx (mVar 0) (mLit (.int 0))) (mLit (.int 48271)) [some (.ref 0), some (.int m), none, none] [.lst [.int c, .bl false]] = .ok (.int (c * 48271)) [.lst [.int c, .bl false]] :=
      (mBin_ok (x := .int c) (y := .int 48271) (A1 := [.lst [.int c, .bl false]]) (A2 := [.lst [.int c, .bl false]]) rfl rfl).trans (gMul_b (by omega) (by omega))
    refine (mBin_ok (x := .int (c * 48271 + 29)) (y := .int 2147483647) (A1 := [.lst [.int c, .bl false]]) (A2 := [.lst [.int c, .bl false]]) ((mBin_ok em rfl).trans rfl) rfl).trans ?_
    exact gMod_p (by decide)
  refine (xSeq_nx (ρ1 := [some (.ref 0), some (.int m), none, none]) (A1 := [.lst [.int (st1 c), .bl false]]) ?_).trans ?_
  · unfold xStore
    rw [e1, bind_ok]
    rfl
  generalize st1 c = d at *
  have e2 : mBin gModI (mBin gAdd (mBin gAdd (mBin gMul (mBin gIx (mVar 0) (mLit (.int 0))) (mBin gIx (mVar 0) (mLit (.int 0)))) (mBin gMul (mLit (.int 39373)) (mBin gIx (mVar 0) (mLit (.int 0))))) (mLit (.int 7))) (mLit (.int 2147483629)) [some (.ref 0), some (.int m), none, none] [.lst [.int d, .bl false]] =
      .ok (.int (st2 d)) [.lst [.int d, .bl false]] := by
    have em : mBin gMul (mBin gIx (mVar 0) (mLit (.int 0))) (mBin gIx (mVar 0) (mLit (.int 0))) [some (.ref 0), some (.int m), none, none] [.lst [.int d, .bl false]] = .ok (.int (d * d)) [.lst [.int d, .bl false]] :=
      (mBin_ok (x := .int d) (y := .int d) (A1 := [.lst [.int d, .bl false]]) (A2 := [.lst [.int d, .bl false]]) rfl rfl).trans (gMul_b (by omega) (by omega))
    have en : mBin gMul (mLit (.int 39373)) (mBin gIx (mVar 0) (mLit (.int 0))) [some (.ref 0), some (.int m), none, none] [.lst [.int d, .bl false]] = .ok (.int (39373 * d)) [.lst [.int d, .bl false]] :=
      (mBin_ok (x := .int 39373) (y := .int d) (A1 := [.lst [.int d, .bl false]]) (A2 := [.lst [.int d, .bl false]]) rfl rfl).trans (gMul_b (by decide) (by decide))
    have es : mBin gAdd (mBin gMul (mBin gIx (mVar 0) (mLit (.int 0))) (mBin gIx (mVar 0) (mLit (.int 0)))) (mBin gMul (mLit (.int 39373)) (mBin gIx (mVar 0) (mLit (.int 0)))) [some (.ref 0), some (.int m), none, none] [.lst [.int d, .bl false]] = .ok (.int (d * d + 39373 * d)) [.lst [.int d, .bl false]] :=
      (mBin_ok em en).trans rfl
    refine (mBin_ok (x := .int (d * d + 39373 * d + 7)) (y := .int 2147483629) (A1 := [.lst [.int d, .bl false]]) (A2 := [.lst [.int d, .bl false]]) ((mBin_ok es rfl).trans rfl) rfl).trans ?_
    exact gMod_p (by decide)
  refine (xSeq_nx (ρ1 := [some (.ref 0), some (.int m), none, some (.int (st2 d))]) (A1 := [.lst [.int d, .bl false]]) ((xSet_ok e2).trans rfl)).trans ?_
  have b2 := st2_b d
  generalize st2 d = e at *
  have e3 : mBin gModI (mBin gAdd (mBin gMul (mVar 3) (mVar 3)) (mBin gMul (mLit (.int 16807)) (mVar 3))) (mLit (.int 2147483587)) [some (.ref 0), some (.int m), none, some (.int e)] [.lst [.int d, .bl false]] = .ok (.int (st3 e)) [.lst [.int d, .bl false]] := by
    have em : mBin gMul (mVar 3) (mVar 3) [some (.ref 0), some (.int m), none, some (.int e)] [.lst [.int d, .bl false]] = .ok (.int (e * e)) [.lst [.int d, .bl false]] :=
      (mBin_ok (x := .int e) (y := .int e) (A1 := [.lst [.int d, .bl false]]) (A2 := [.lst [.int d, .bl false]]) rfl rfl).trans (gMul_b (by omega) (by omega))
    have en : mBin gMul (mLit (.int 16807)) (mVar 3) [some (.ref 0), some (.int m), none, some (.int e)] [.lst [.int d, .bl false]] = .ok (.int (16807 * e)) [.lst [.int d, .bl false]] :=
      (mBin_ok (x := .int 16807) (y := .int e) (A1 := [.lst [.int d, .bl false]]) (A2 := [.lst [.int d, .bl false]]) rfl rfl).trans (gMul_b (by decide) (by decide))
    refine (mBin_ok (x := .int (e * e + 16807 * e)) (y := .int 2147483587) (A1 := [.lst [.int d, .bl false]]) (A2 := [.lst [.int d, .bl false]]) ((mBin_ok em en).trans rfl) rfl).trans ?_
    exact gMod_p (by decide)
  refine (xSeq_nx (ρ1 := [some (.ref 0), some (.int m), none, some (.int (st3 e))]) (A1 := [.lst [.int d, .bl false]]) ((xSet_ok e3).trans rfl)).trans ?_
  generalize st3 e = f at *
  refine xSeq_rt (xRet_ok ?_)
  refine (mBin_ok (x := .int (f / 8)) (y := .int m) (A1 := [.lst [.int d, .bl false]]) (A2 := [.lst [.int d, .bl false]]) ?_ rfl).trans (gMod_p h1)
  exact (mBin_ok (x := .int f) (y := .int 8) (A1 := [.lst [.int d, .bl false]]) (A2 := [.lst [.int d, .bl false]]) rfl rfl).trans (gDiv_p (by decide) (by decide))
noncomputable def StOk (n : Nat) (A : Hx) : Prop := ∃ c b, A[n]? = some (.lst [.int c, .bl b]) ∧ 0 ≤ c ∧ (b = false → c < 2147483647)
private theorem take_F {n : Nat} {A : Hx} (h : StOk n A) {m : Int} (h1 : 0 < m) (h2 : m < 1000) : ∃ r o, F__law_take [.ref n, .int m] A = .ok (.int r) (A.set n o) ∧ 0 ≤ r ∧ r < m ∧ StOk n (A.set n o) := by
  obtain ⟨c, b, hA, hc, hb⟩ := h
  have hn : n < A.length := (List.getElem?_eq_some_iff.mp hA).1
  have fin : ∀ (r c' : Int), R__law_take [.ref 0, .int m] [.lst [.int c, .bl b]] = .ok (.int r) [.lst [.int c', .bl b]] → F__law_take [.ref n, .int m] A = .ok (.int r) (A.set n (.lst [.int c', .bl b])) := fun r c' e => by
    unfold F__law_take isoL
    dsimp only
    rw [hA]
    dsimp only
    have hn1 : (nrs [W.int c, W.bl b] && nrs [W.int m]) = true := rfl
    rw [if_pos hn1, e]
    rfl
  cases b with
  | true =>
    refine ⟨c % m, _, fin _ _ (take_t h1 h2), Int.emod_nonneg _ (by omega), Int.emod_lt_of_pos _ h1, c / m, true, List.getElem?_set_self hn, Int.ediv_nonneg hc (by omega), fun z => nomatch z⟩
  | false =>
    exact ⟨_, _, fin _ _ (take_f hc (hb rfl) h1 h2), Int.emod_nonneg _ (by omega), Int.emod_lt_of_pos _ h1, st1 c, false, List.getElem?_set_self hn, (st1_b c).1, fun _ => (st1_b c).2⟩
private theorem cell_F {ns : List Int} {A : Hx} (hA : A[0]? = some (.ro (ns.map W.int))) (k : Nat) : ∃ x : Int, F__law_cell_at [.ref 0, .int k] A = .ok (.int x) A := by
  have hs : seqOf (.ref 0) A = some (ns.map W.int) := by unfold seqOf; dsimp only; rw [hA]
  have hl : mQ gLen (mSeq (mVar 0)) [some (.ref 0), some (.int k)] A = .ok (.int ns.length) A := by
    rw [mQ_ok (mSeq_ok (w := .ref 0) (A1 := A) (mVar_ok rfl) hs)]
    unfold gLen
    rw [List.length_map]
  have ec : mBin gLt (mVar 1) (mQ gLen (mSeq (mVar 0))) [some (.ref 0), some (.int k)] A = .ok (.bl (decide ((k : Int) < ns.length))) A := (mBin_ok (mVar_ok (w := .int k) rfl) hl).trans rfl
  by_cases h : k < ns.length
  · refine ⟨ns[k], runB_rt ?_⟩
    unfold m__law_cell_at
    rw [decide_eq_true (by omega)] at ec
    refine xSeq_rt ((xIf_t ec).trans (xSeq_rt (xRet_ok ?_)))
    refine (mBin_ok (x := .ref 0) (y := .int k) (A1 := A) (A2 := A) (mVar_ok rfl) (mVar_ok rfl)).trans ?_
    unfold gIx
    rw [hs]
    dsimp only
    rw [atI_nat (v := .int ns[k]) (by rw [List.getElem?_map, List.getElem?_eq_getElem h]; rfl)]
  · refine ⟨0, runB_rt ?_⟩
    unfold m__law_cell_at
    rw [decide_eq_false (by omega)] at ec
    exact (xSeq_nx ((xIf_f ec).trans rfl)).trans rfl
private theorem state_F {ns : List Int} {A : Hx} (hA : A[0]? = some (.ro (ns.map W.int))) (k : Nat) : ∃ o, F__law_state [.ref 0, .int k] A = .ok (.ref A.length) (A ++ [o]) ∧ StOk A.length (A ++ [o]) := by
  obtain ⟨x, e⟩ := cell_F hA k
  have e1 : xSet 2 (mCall F__law_cell_at (aCons (mVar 0) (aCons (mVar 1) (aNil)))) [some (.ref 0), some (.int k), none] A = .ok (.nx [some (.ref 0), some (.int k), some (.int x)]) A := by
    refine (xSet_ok (w := .int x) (A1 := A) ?_).trans rfl
    rw [mCall_ok (ws := [.ref 0, .int k]) (A1 := A) rfl]
    exact e
  have ec : mBin gGe (mVar 2) (mBin gPow (mLit (.int 10)) (mLit (.int 18))) [some (.ref 0), some (.int k), some (.int x)] A = .ok (.bl (decide ((1000000000000000000 : Int) ≤ x))) A := (mBin_ok (x := .int x) (y := .int 1000000000000000000) (A1 := A) (A2 := A) (mVar_ok rfl) rfl).trans rfl
  by_cases h : (1000000000000000000 : Int) ≤ x
  · refine ⟨.lst [.int (x - 1000000000000000000), .bl true], runB_rt ?_, x - 1000000000000000000, true, at_new, by omega, fun z => nomatch z⟩
    unfold m__law_state
    rw [decide_eq_true h] at ec
    refine (xSeq_nx e1).trans (xSeq_rt ((xIf_t ec).trans (xSeq_rt (xRet_ok (mLst_ok ?_)))))
    rfl
  · refine ⟨.lst [.int (x % 2147483647), .bl false], runB_rt ?_, x % 2147483647, false, at_new, Int.emod_nonneg _ (by decide), fun _ => Int.emod_lt_of_pos _ (by decide)⟩
    unfold m__law_state
    rw [decide_eq_false h] at ec
    refine (xSeq_nx e1).trans ((xSeq_nx ((xIf_f ec).trans rfl)).trans (xSeq_rt (xRet_ok (mLst_ok ?_))))
    refine aCons_ok (A1 := A) (A2 := A) ((mBin_ok (x := .int x) (y := .int 2147483647) (A1 := A) (A2 := A) (mVar_ok rfl) rfl).trans (gMod_p (by decide))) rfl
end G
set_option maxHeartbeats 400000
namespace G
open PySem L2 Mi
private theorem xSeq_exc {m1 m2 : Ex} {ρ : En} {A A1 : Hx} {x : Str} (h : m1 ρ A = .exc x A1) : xSeq m1 m2 ρ A = .exc x A1 := by unfold xSeq; rw [h, bind_exc]
private theorem xDo_exc {m : Ev} {ρ : En} {A A1 : Hx} {x : Str} (h : m ρ A = .exc x A1) : xDo m ρ A = .exc x A1 := by unfold xDo; rw [h, bind_exc]
private theorem runX_exc {n : Nat} {m : Ex} {ws : List W} {x : Str} {A A1 : Hx} (h : m (ws.map some ++ List.replicate (n - ws.length) none) A = .exc x A1) : runX n m ws A = .exc x A1 := by unfold runX; rw [h]; rfl
noncomputable def badW : Nat → W
  | 0 => .int 0 | 1 => .int 13 | 2 => .int (-1) | 3 => .bl true | 4 => .non | 5 => .str "2" | 6 => .tup [.int 2] | _ => .int 100000000000000000000000000000
noncomputable def noneW (m : Nat) : Nat → W
  | 0 => .int ((m : Int) + 1) | 1 => .int (-1) | 2 => .bl true | 3 => .non | 4 => .str "0" | _ => .tup [.int 0]
noncomputable def oddW : Nat → W
  | 0 => .int 1 | 1 => .int 0 | 2 => .int 10 | 3 => .int (-1) | 4 => .bl true | 5 => .non | 6 => .str "2" | 7 => .tup [.int 2] | _ => .int 100000000000000000000000000000
noncomputable def isX (x : Str) (r : R W) : Bool := match r with
  | .exc y [] => decide (y = x)
  | _ => false
private theorem isX_of {x : Str} {r : R W} (h : isX x r = true) : r = .exc x [] := by
  unfold isX at h
  split at h
  · rename_i y
    rw [of_decide_eq_true h]
  · cases h
private theorem bad_num : ∀ b < 8, RX_require_number [badW b, .int 1, .int 12] [] = .exc "NoNumber" [] := fun b hb => isX_of (by
  have h : ((List.range 8).all fun b => isX "NoNumber" (RX_require_number [badW b, .int 1, .int 12] [])) = true := by decide +kernel
  exact List.all_eq_true.mp h b (List.mem_range.mpr hb))
private theorem odd_num : ∀ b < 9, RX_require_number [oddW b, .int 2, .int 9] [] = .exc "NoNumber" [] := fun b hb => isX_of (by
  have h : ((List.range 9).all fun b => isX "NoNumber" (RX_require_number [oddW b, .int 2, .int 9] [])) = true := by decide +kernel
  exact List.all_eq_true.mp h b (List.mem_range.mpr hb))
private theorem none_kind : ∀ m < 13, ∀ n < 6, RX_require_kind_to [noneW m n, .int m] [] = .exc "NoKind" [] := fun m hm n hn => isX_of (by
  have h : ((List.range 13).all fun m => (List.range 6).all fun n => isX "NoKind" (RX_require_kind_to [noneW m n, .int m] [])) = true := by decide +kernel
  exact List.all_eq_true.mp (List.all_eq_true.mp h m (List.mem_range.mpr hm)) n (List.mem_range.mpr hn))
section
variable {b n m s : Nat} {x y z : W}
private theorem ww_bad (hb : b < 8) : RX_words_weight [badW b, x, y, z] [] = .exc "NoNumber" [] := by
  refine runX_exc ?_
  unfold m_words_weight
  refine xSeq_exc (xDo_exc ?_)
  rw [mCall_ok (ws := [badW b, .int 1, .int 12]) (A1 := []) rfl]
  exact bad_num b hb
private theorem ww_odd (h1 : 1 ≤ m) (h2 : m ≤ 12) (hb : b < 9) : RX_words_weight [.int m, oddW b, y, z] [] = .exc "NoNumber" [] := by
  refine runX_exc ?_
  unfold m_words_weight
  refine (xSeq_nx (ρ1 := [some (.int m), some (oddW b), some y, some z]) (A1 := []) ((xDo_ok (w := .non) (A1 := []) ?_).trans rfl)).trans ?_
  · rw [mCall_ok (ws := [.int m, .int 1, .int 12]) (A1 := []) rfl]
    exact number_F (by omega) (by omega) []
  refine xSeq_exc (xDo_exc ?_)
  rw [mCall_ok (ws := [oddW b, .int 2, .int 9]) (A1 := []) rfl]
  exact odd_num b hb
private theorem ww_two (h1 : 1 ≤ m) (h2 : m ≤ 12) (h3 : 2 ≤ s) (h4 : s ≤ 9) : RX_words_weight [.int m, .int s, y, z] [] = runX 4 (fun ρ A => xSeq (xDo (mCall RX_require_kind_to (aCons (mVar 2) (aCons (mVar 0) (aNil))))) (xSeq (xDo (mCall RX_require_kind_to (aCons (mVar 3) (aCons (mVar 0) (aNil))))) ((fun ρ A => ((xSeq (xRet (mQ gSum (cItems 1 [0, 1, 2, 3] (mRng1 (mBin gAdd (mVar 2) (mLit (.int 1)))) (gVar 0) (mLit (.bl true)) (emElt (mBin gMul (mBin gMul (mBin gMul (mCall F_raised (aCons (mUn gNeg (mLit (.int 1))) (aCons (mVar 0) (aNil)))) (mCall F_raised (aCons (mBin gSub (mVar 2) (mLit (.int 1))) (aCons (mBin gSub (mVar 3) (mVar 0)) (aNil))))) (mCall F_count_lots (aCons (mVar 0) (aCons (mVar 4) (aNil))))) (mCall F_count_lots (aCons (mBin gSub (mVar 3) (mVar 0)) (aCons (mBin gSub (mVar 1) (mVar 4)) (aNil))))))))) (xNil)) ρ A).nox))) ρ A) [.int m, .int s, y, z] [] := by
  unfold RX_words_weight runX m_words_weight
  have e1 : xDo (mCall RX_require_number (aCons (mVar 0) (aCons (mLit (.int 1)) (aCons (mLit (.int 12)) (aNil))))) [some (.int m), some (.int s), some y, some z] [] = .ok (.nx [some (.int m), some (.int s), some y, some z]) [] := by
    refine (xDo_ok (w := .non) (A1 := []) ?_).trans rfl
    rw [mCall_ok (ws := [.int m, .int 1, .int 12]) (A1 := []) rfl]
    exact number_F (by omega) (by omega) []
  have e2 : xDo (mCall RX_require_number (aCons (mVar 1) (aCons (mLit (.int 2)) (aCons (mLit (.int 9)) (aNil))))) [some (.int m), some (.int s), some y, some z] [] = .ok (.nx [some (.int m), some (.int s), some y, some z]) [] := by
    refine (xDo_ok (w := .non) (A1 := []) ?_).trans rfl
    rw [mCall_ok (ws := [.int s, .int 2, .int 9]) (A1 := []) rfl]
    exact number_F (by omega) (by omega) []
  exact congrArg (fun r => R.bind r _) ((xSeq_nx e1).trans (xSeq_nx e2))
private theorem ww_k1 (h1 : 1 ≤ m) (h2 : m ≤ 12) (h3 : 2 ≤ s) (h4 : s ≤ 9) (hn : n < 6) : RX_words_weight [.int m, .int s, noneW m n, z] [] = .exc "NoKind" [] := by
  rw [ww_two h1 h2 h3 h4]
  refine runX_exc ?_
  refine xSeq_exc (xDo_exc ?_)
  rw [mCall_ok (ws := [noneW m n, .int m]) (A1 := []) rfl]
  exact none_kind m (by omega) n hn
private theorem ww_k2 (h1 : 1 ≤ m) (h2 : m ≤ 12) (h3 : 2 ≤ s) (h4 : s ≤ 9) (hn : n < 6) : RX_words_weight [.int m, .int s, .int 0, noneW m n] [] = .exc "NoKind" [] := by
  rw [ww_two h1 h2 h3 h4]
  refine runX_exc ?_
  refine (xSeq_nx (ρ1 := [some (.int m), some (.int s), some (.int 0), some (noneW m n)]) (A1 := []) ((xDo_ok (w := .non) (A1 := []) ?_).trans rfl)).trans ?_
  · rw [mCall_ok (ws := [.int 0, .int m]) (A1 := []) rfl]
    exact kind_to_F (by omega) (by omega) []
  refine xSeq_exc (xDo_exc ?_)
  rw [mCall_ok (ws := [noneW m n, .int m]) (A1 := []) rfl]
  exact none_kind m (by omega) n hn
end
noncomputable abbrev LS : List Lm := ls_law RX_words_weight
noncomputable def markOf (x : Str) : Option Int := if x = "NoNumber" then some 5 else if x = "NoKind" then some 3 else none
noncomputable def RF (k : Nat) (ws : List W) (A : Hx) : R W := if nrs ws then (match lamF LS k ws [] with
  | .exc x [] => (match markOf x with
    | some i => .ok (.ref A.length) (A ++ [.lst [.int i]])
    | none => .bad)
  | _ => .bad) else .bad
noncomputable def chkR (r : R Fl) (i : Int) : Bool := match r with
  | .ok (.rt (.ref n)) A1 => (match A1[n]? with
    | some (.lst [.int j]) => decide (j = i)
    | _ => false)
  | _ => false
private theorem chkR_of {r : R Fl} {i : Int} (h : chkR r i = true) : ∃ n A1, r = .ok (.rt (.ref n)) A1 ∧ A1[n]? = some (.lst [.int i]) := by
  unfold chkR at h
  split at h
  · rename_i n A1
    split at h
    · rename_i j e
      have : j = i := of_decide_eq_true h
      subst this
      exact ⟨n, A1, rfl, e⟩
    · cases h
  · cases h
private theorem rest_num (u : W) : chkR (mr__law_refused [some u, some (.xc "NoNumber"), none, none] []) 5 = true := by kernel_rfl
private theorem rest_kind (u : W) : chkR (mr__law_refused [some u, some (.xc "NoKind"), none, none] []) 3 = true := by kernel_rfl
private theorem ref_run {PG : PFam} {lam : Nat → Fn} {k : Nat} {ws : List W} {x : Str} {i : Int} (hl : lam k ws [] = .exc x []) (hx : markOf x = some i) :
    ∃ n A1, runB 4 (m__law_refused PG lam) [.clo k ws (PG k)] [] = .ok (.ref n) A1 ∧ A1[n]? = some (.lst [.int i]) := by
  have hc : cs_law.contains x = true := by
    unfold markOf at hx
    split at hx
    · rename_i e; subst e; decide +kernel
    · split at hx
      · rename_i e; subst e; decide +kernel
      · cases hx
  have ec : mClo 0 PG lam [some (.clo k ws (PG k)), some .non, none, none] [] = .exc x [] := by
    unfold mClo
    refine (if_pos rfl).trans hl
  have et : xTry 0 1 2 cs_law PG lam [some (.clo k ws (PG k)), some .non, none, none] [] = .ok (.nx [some (.clo k ws (PG k)), some (.xc x), none, none]) [] := by
    unfold xTry
    rw [ec]
    dsimp only
    rw [if_pos hc]
    rfl
  have er : ∃ n A1, mr__law_refused [some (.clo k ws (PG k)), some (.xc x), none, none] [] = .ok (.rt (.ref n)) A1 ∧ A1[n]? = some (.lst [.int i]) := by
    unfold markOf at hx
    split at hx
    · rename_i e; subst e; cases hx; exact chkR_of (rest_num _)
    · split at hx
      · rename_i e; subst e; cases hx; exact chkR_of (rest_kind _)
      · cases hx
  obtain ⟨n, A1, e1, e2⟩ := er
  refine ⟨n, A1, runB_rt ?_, e2⟩
  unfold m__law_refused
  refine (xSeq_nx (ρ1 := [some (.clo k ws (PG k)), some .non, none, none]) (A1 := []) rfl).trans ?_
  exact (xSeq_nx et).trans e1
private theorem ref_eq {PG : PFam} (us : List W) (A : Hx) : fRef PG RF us A = .bad ∨ iso (runB 4 (m__law_refused PG (lamF LS))) us A = fRef PG RF us A := by
  by_cases hb : fRef PG RF us A = .bad
  · exact .inl hb
  right
  unfold fRef at hb ⊢
  split
  · rename_i k ws P
    dsimp only at hb
    by_cases hP : P = PG k
    · subst hP
      rw [if_pos rfl] at hb ⊢
      unfold RF at hb ⊢
      by_cases hn : nrs ws = true
      · rw [if_pos hn] at hb ⊢
        split at hb
        · rename_i x hl
          cases hm : markOf x with
          | none => rw [hm] at hb; exact absurd rfl hb
          | some i =>
            obtain ⟨n, A1, e1, e2⟩ := ref_run (PG := PG) (lam := lamF LS) hl hm
            unfold iso
            have hn1 : nrs [W.clo k ws (PG k)] = true := by
              show (nrs ws && true) = true
              rw [hn]; rfl
            rw [if_pos hn1, e1]
            dsimp only
            rw [e2]
            rfl
        · exact absurd rfl hb
      · rw [if_neg hn] at hb; exact absurd rfl hb
    · rw [if_neg hP] at hb; exact absurd rfl hb
  · rename_i h
    exfalso
    apply hb
    split
    · rename_i k ws P
      exact (h k ws P rfl).elim
    · rfl
end G
namespace Mi
open PySem L2
section
variable {j : Itx} {me : Ev} {c : En} {A A1 : Hx} {f i : Nat} {x : Option W} {w y : W} {acc : List W} {ρ : En} {m : Ev}
private theorem emGo_step (h : j.at_ A i = some (some w)) (he : me (some w :: c) A = .ok y A1) (hl : acc.length < cpMost) : emGo j (gVar 0) (mLit (.bl true)) (emElt me) (f + 1) i (x :: c) acc A = emGo j (gVar 0) (mLit (.bl true)) (emElt me) f (i + 1) (some w :: c) (acc ++ [y]) A1 := by
  rw [emGo, h]
  dsimp only [gVar, List.set, mLit]
  rw [bind_ok]
  dsimp only
  have ee : emElt me (some w :: c) acc A = .ok (some w :: c, acc ++ [y]) A1 := by
    unfold emElt
    rw [he, bind_ok, if_pos hl]
  rw [ee, bind_ok]
private theorem emGo_stop (h : j.at_ A i = some none) : emGo j (gVar 0) (mLit (.bl true)) (emElt me) f i ρ acc A = .ok (ρ, acc) A := by
  cases f <;> (unfold emGo; rw [h])
private theorem mIt_ok {n : Nat} {ws : List W} (h : m ρ A = .ok (.ref n) A1) (hA : A1[n]? = some (.lst ws)) : mIt m ρ A = .ok ⟨fun A i => (seqOf (.ref n) A).map fun ws => ws[i]?, ws.length⟩ A1 := by
  unfold mIt itOf
  rw [h, bind_ok]
  have e : seqOf (.ref n) A1 = some ws := by unfold seqOf; dsimp only; rw [hA]
  rw [e]
private theorem it_at {n i : Nat} {ws : List W} (hA : A[n]? = some (.lst ws)) : ((seqOf (.ref n) A).map fun ws => ws[i]?) = some ws[i]? := by
  have e : seqOf (.ref n) A = some ws := by unfold seqOf; dsimp only; rw [hA]
  rw [e]; rfl
private theorem toP_one {n k : Nat} {v : Int} (h : A[n]? = some (.lst [.int v])) : toP A (k + 1) (.ref n) = some (.list [.int v]) := by
  unfold toP
  have e : seqOf (.ref n) A = some [.int v] := by unfold seqOf; dsimp only; rw [h]
  rw [e]
  cases k <;> rfl
private theorem toP_list {n k : Nat} {ws : List W} {ds : List PyData} (h : A[n]? = some (.lst ws)) (hd : allP (toP A k) ws = some ds) : toP A (k + 1) (.ref n) = some (.list ds) := by
  unfold toP
  have e : seqOf (.ref n) A = some ws := by unfold seqOf; dsimp only; rw [h]
  rw [e]
  dsimp only
  rw [hd]
  rfl
private theorem allP_cons {g : W → Option PyData} {ws : List W} {d : PyData} {ds : List PyData} (h : g w = some d) (r : allP g ws = some ds) : allP g (w :: ws) = some (d :: ds) := by
  unfold allP
  rw [h, r]
private theorem gNe_f {a b : W} {d : PyData} (ha : toP A 8 a = some d) (hb : toP A 8 b = some d) (hr : PyData.eqv d d = true) : gNe a b A = .ok (.bl false) A := by
  show gEqN true a b A = _
  unfold gEqN
  rw [ha, hb]
  dsimp only
  rw [if_pos rfl, hr]
  rfl
end
end Mi
namespace G
open PySem L2 Mi
private theorem same_F (v : Int) (A : Hx) : F__law_same [.int v, .int v] A = .ok (.bl true) A := by
  refine iso_ok rfl rfl (A1 := []) (runB_rt ?_)
  unfold m__law_same
  refine (xSeq_nx (ρ1 := [some (.int v), some (.int v)]) (A1 := []) ((xIf_f (A1 := []) rfl).trans rfl)).trans (xSeq_rt (xRet_ok ?_))
  have e : mBin gEq (mVar 0) (mVar 1) [some (.int v), some (.int v)] [] = .ok (.bl true) [] := by
    refine (mBin_ok (x := .int v) (y := .int v) (A1 := []) (A2 := []) rfl rfl).trans ?_
    show gEqN false _ _ _ = _
    unfold gEqN
    show R.ok (W.bl (PyData.eqv (.int v) (.int v))) [] = _
    have : PyData.eqv (.int v) (.int v) = true := by simp [PyData.eqv]
    rw [this]
  rw [mAnd_t e]
  rfl
private theorem due_same {many signs kind place : Nat} (h1 : 1 ≤ many) (h2 : many ≤ 12) (h3 : 2 ≤ signs) (h4 : signs ≤ 9) (h5 : kind ≤ many) (h6 : place ≤ many) : wweight many signs kind place = (drow many signs place many).getD kind 0 := by
  have h := List.all_eq_true.mp (List.all_eq_true.mp (List.all_eq_true.mp dall many (List.mem_range.mpr (by omega))) signs (List.mem_range.mpr (by omega))) place (List.mem_range.mpr (by omega))
  have n1 : (many == 0) = false := by rw [beq_eq_false_iff_ne]; omega
  have n2 : decide (signs < 2) = false := decide_eq_false (by omega)
  rw [n1, n2, Bool.false_or, Bool.false_or] at h
  unfold dchk at h
  have e := of_decide_eq_true h
  rw [← e, List.getD_eq_getElem?_getD, List.getElem?_map, List.getElem?_range (by omega)]
  rfl
private theorem nr_bad : ∀ b < 8, (badW b).nr = true := by decide +kernel
private theorem nr_none (m : Nat) : ∀ n < 6, (noneW m n).nr = true := fun n hn => by
  match n, hn with
  | 0, _ => rfl | 1, _ => rfl | 2, _ => rfl | 3, _ => rfl | 4, _ => rfl | 5, _ => rfl
private theorem nr_odd : ∀ b < 9, (oddW b).nr = true := by decide +kernel
section
variable {b n m s : Nat} {A : Hx}
private theorem RF_go {k : Nat} {ws : List W} {x : Str} {i : Int} (hn : nrs ws = true) (hl : lamF LS k ws [] = .exc x []) (hm : markOf x = some i) : RF k ws A = .ok (.ref A.length) (A ++ [.lst [.int i]]) := by
  unfold RF
  rw [if_pos hn, hl]
  dsimp only
  rw [hm]
private theorem lamF_at {ls : List Lm} {k : Nat} {t : Lm} {ws : List W} (h : ls[k]? = some t) : lamF ls k ws A = t.m (ws.map some) A := by unfold lamF; rw [h]
private theorem mark_num : markOf "NoNumber" = some 5 := by decide +kernel
private theorem mark_kind : markOf "NoKind" = some 3 := by decide +kernel
private theorem RF0 (hb : b < 8) (hn : n < 6) : RF 0 [badW b, noneW m n] A = .ok (.ref A.length) (A ++ [.lst [.int 5]]) :=
  RF_go (by show ((badW b).nr && ((noneW m n).nr && true)) = true; rw [nr_bad b hb, nr_none m n hn]; rfl) (by
    rw [lamF_at (t := t_law_0 RX_words_weight) rfl]
    unfold t_law_0 lmOf
    dsimp only
    exact (mCall_ok (f := RX_words_weight) (ws := [badW b, badW b, noneW m n, noneW m n]) (A1 := []) rfl).trans (ww_bad hb)) mark_num
private theorem RF1 (hb : b < 8) (hn : n < 6) : RF 1 [.int s, badW b, noneW m n] A = .ok (.ref A.length) (A ++ [.lst [.int 5]]) :=
  RF_go (by show (true && ((badW b).nr && ((noneW m n).nr && true))) = true; rw [nr_bad b hb, nr_none m n hn]; rfl) (by
    rw [lamF_at (t := t_law_1 RX_words_weight) rfl]
    unfold t_law_1 lmOf
    dsimp only
    exact (mCall_ok (f := RX_words_weight) (ws := [badW b, .int s, noneW m n, .int 0]) (A1 := []) rfl).trans (ww_bad hb)) mark_num
private theorem RF2 (h1 : 1 ≤ m) (h2 : m ≤ 12) (hb : b < 9) (hn : n < 6) : RF 2 [.int m, noneW m n, oddW b] A = .ok (.ref A.length) (A ++ [.lst [.int 5]]) :=
  RF_go (by show (true && ((noneW m n).nr && ((oddW b).nr && true))) = true; rw [nr_odd b hb, nr_none m n hn]; rfl) (by
    rw [lamF_at (t := t_law_2 RX_words_weight) rfl]
    unfold t_law_2 lmOf
    dsimp only
    exact (mCall_ok (f := RX_words_weight) (ws := [.int m, oddW b, .int 0, noneW m n]) (A1 := []) rfl).trans (ww_odd h1 h2 hb)) mark_num
private theorem RF3 (h1 : 1 ≤ m) (h2 : m ≤ 12) (h3 : 2 ≤ s) (h4 : s ≤ 9) (hn : n < 6) : RF 3 [.int m, .int s, noneW m n] A = .ok (.ref A.length) (A ++ [.lst [.int 3]]) :=
  RF_go (by show (true && (true && ((noneW m n).nr && true))) = true; rw [nr_none m n hn]; rfl) (by
    rw [lamF_at (t := t_law_3 RX_words_weight) rfl]
    unfold t_law_3 lmOf
    dsimp only
    exact (mCall_ok (f := RX_words_weight) (ws := [.int m, .int s, noneW m n, .int 0]) (A1 := []) rfl).trans (ww_k1 h1 h2 h3 h4 hn)) mark_kind
private theorem RF4 (h1 : 1 ≤ m) (h2 : m ≤ 12) (h3 : 2 ≤ s) (h4 : s ≤ 9) (hn : n < 6) : RF 4 [.int m, .int s, noneW m n] A = .ok (.ref A.length) (A ++ [.lst [.int 3]]) :=
  RF_go (by show (true && (true && ((noneW m n).nr && true))) = true; rw [nr_none m n hn]; rfl) (by
    rw [lamF_at (t := t_law_4 RX_words_weight) rfl]
    unfold t_law_4 lmOf
    dsimp only
    exact (mCall_ok (f := RX_words_weight) (ws := [.int m, .int s, .int 0, noneW m n]) (A1 := []) rfl).trans (ww_k2 h1 h2 h3 h4 hn)) mark_kind
end
structure HOk (ns : List Int) (Pt : Addr) (n : Nat) (A : Hx) : Prop where
  h0 : A[0]? = some (.ro (ns.map W.int))
  h1 : A[1]? = some (.tab qn_law Pt)
  two : 2 ≤ n
  st : StOk n A
section
variable {ns : List Int} {Pt : Addr} {n : Nat} {A : Hx}
private theorem HOk.lt (h : HOk ns Pt n A) : n < A.length := by obtain ⟨c, b, e, _⟩ := h.st; exact (List.getElem?_eq_some_iff.mp e).1
private theorem HOk.app (h : HOk ns Pt n A) (o : O) : HOk ns Pt n (A ++ [o]) := ⟨at_old h.h0, at_old h.h1, h.two, let ⟨c, b, e, r⟩ := h.st; ⟨c, b, at_old e, r⟩⟩
private theorem HOk.put (h : HOk ns Pt n A) {k : Nat} (hk : n < k) (o : O) : HOk ns Pt n (A.set k o) := by
  have := h.two
  refine ⟨?_, ?_, h.two, ?_⟩
  · (first | exact ((List.getElem?_set_ne (by omega)).trans (h.h0)) | (rw [List.getElem?_set_ne (by omega)]; exact h.h0))
  · (first | exact ((List.getElem?_set_ne (by omega)).trans (h.h1)) | (rw [List.getElem?_set_ne (by omega)]; exact h.h1))
  · obtain ⟨c, b, e, r⟩ := h.st
    exact ⟨c, b, by (first | exact ((List.getElem?_set_ne (by omega)).trans (e)) | (rw [List.getElem?_set_ne (by omega)]; exact e)), r⟩
private theorem take_G (h : HOk ns Pt n A) {m : Int} (h1 : 0 < m) (h2 : m < 1000) : ∃ (r : Nat) (A' : Hx), F__law_take [.ref n, .int m] A = .ok (.int r) A' ∧ (r : Int) < m ∧ HOk ns Pt n A' ∧ ∀ i, i ≠ n → A'[i]? = A[i]? := by
  obtain ⟨r, o, e, a, b, s⟩ := take_F h.st h1 h2
  have := h.two
  refine ⟨r.toNat, A.set n o, ?_, by omega, ⟨?_, ?_, h.two, s⟩, fun i hi => List.getElem?_set_ne (Ne.symm hi)⟩
  · rw [e, Int.toNat_of_nonneg a]
  · (first | exact ((List.getElem?_set_ne (by omega)).trans (h.h0)) | (rw [List.getElem?_set_ne (by omega)]; exact h.h0))
  · (first | exact ((List.getElem?_set_ne (by omega)).trans (h.h1)) | (rw [List.getElem?_set_ne (by omega)]; exact h.h1))
private theorem lam_at (h : HOk ns Pt n A) {ρ : En} {k : Nat} {PF : PFam} : mLam 1 qn_law Pt k (PF k) ρ A = .ok (.clo k [] (PF k)) A := by
  unfold mLam
  rw [h.h1]
  dsimp only
  rw [if_pos ⟨rfl, rfl⟩]
end
end G
namespace Mi
open PySem L2
noncomputable def Ext (A A' : Hx) : Prop := ∃ l, A' = A ++ l
private theorem Ext.trans {A B C : Hx} (a : Ext A B) (b : Ext B C) : Ext A C := let ⟨l, e⟩ := a; let ⟨k, f⟩ := b; ⟨l ++ k, by rw [f, e, List.append_assoc]⟩
private theorem Ext.one {A : Hx} {o : O} : Ext A (A ++ [o]) := ⟨[o], rfl⟩
private theorem Ext.at {A A' : Hx} {n : Nat} {o : O} (x : Ext A A') (h : A[n]? = some o) : A'[n]? = some o := by
  obtain ⟨l, rfl⟩ := x
  have := (List.getElem?_eq_some_iff.mp h).1
  (first | exact ((List.getElem?_append_left this).trans (h)) | (rw [List.getElem?_append_left this]; exact h))
private theorem allP_const {g : W → Option PyData} {f : Nat → W} {d : PyData} : ∀ (n : Nat) (s : Nat), (∀ t, s ≤ t → t < s + n → g (f t) = some d) → allP g ((List.range' s n).map f) = some (List.replicate n d)
  | 0, _, _ => rfl
  | n + 1, s, h => by
    rw [List.range'_succ, List.map_cons, List.replicate_succ]
    exact allP_cons (h s (by omega) (by omega)) (allP_const n (s + 1) fun t h1 h2 => h t (by omega) (by omega))
private theorem allP_rep {g : W → Option PyData} {w : W} {d : PyData} (h : g w = some d) : ∀ n : Nat, allP g (List.replicate n w) = some (List.replicate n d)
  | 0 => rfl
  | n + 1 => by (first | exact ((List.replicate_succ).trans ((List.replicate_succ).trans (allP_cons h (allP_rep h n)))) | (rw [List.replicate_succ, List.replicate_succ]; exact allP_cons h (allP_rep h n)))
private theorem at_rep {A : Hx} {o : O} {n t : Nat} (h : t < n) : (A ++ List.replicate n o)[A.length + t]? = some o := by
  rw [List.getElem?_append_right (by omega), List.getElem?_replicate, if_pos (by omega)]
end Mi
namespace G
open PySem L2 Mi
section
variable {ns : List Int} {Pt : Addr} {m : Nat} {A A' : Hx} {PF : PFam} {ρ : En} {c n : Nat} {v : Int} {ks : List Nat}
private theorem HOk.ext (h : HOk ns Pt m A) (x : Ext A A') : HOk ns Pt m A' := ⟨x.at h.h0, x.at h.h1, h.two, let ⟨a, b, e, r⟩ := h.st; ⟨a, b, x.at e, r⟩⟩
noncomputable def AllR (ρ : En) (ks : List Nat) (v : Int) : Prop := ∀ k ∈ ks, ∃ t ws, LS[k]? = some t ∧ capE t.idx ρ = some ws ∧ ∀ A, RF k ws A = .ok (.ref A.length) (A ++ [O.lst [.int v]])
private theorem el_at (h : AllR ρ ks v) {k : Nat} (hk : k ∈ ks) : mEl 0 PF LS RF ρ [some (.clo k [] (PF k))] A = .ok (.ref A.length) (A ++ [O.lst [.int v]]) := by
  obtain ⟨t, ws, h1, h2, h3⟩ := h k hk
  unfold mEl
  refine (if_pos rfl).trans ?_
  rw [h1]
  dsimp only
  rw [h2]
  exact h3 A
private theorem refs_go (h : AllR ρ ks v) (hA : A[c]? = some (O.lst (ks.map fun k => .clo k [] (PF k)))) (hl : ks.length ≤ 100) : ∀ (f i : Nat) (x : Option W), i + f = ks.length → ∃ y,
    emGo ⟨fun A i => (seqOf (.ref c) A).map fun ws => ws[i]?, ks.length⟩ (gVar 0) (mLit (.bl true)) (emElt (mEl 0 PF LS RF ρ)) f i [x] ((List.range' 0 i).map fun t => W.ref (A.length + t)) (A ++ List.replicate i (O.lst [.int v])) =
      .ok ([y], (List.range' 0 ks.length).map fun t => W.ref (A.length + t)) (A ++ List.replicate ks.length (O.lst [.int v])) := by
  intro f
  induction f with
  | zero =>
    intro i x hi
    have : i = ks.length := by omega
    subst this
    refine ⟨x, emGo_stop ?_⟩
    have hc := Ext.at (A' := A ++ List.replicate ks.length (O.lst [.int v])) ⟨_, rfl⟩ hA
    show ((seqOf (.ref c) _).map fun ws => ws[ks.length]?) = some none
    rw [it_at hc, List.getElem?_eq_none (by simp)]
  | succ f ih =>
    intro i x hi
    have hik : i < ks.length := by omega
    obtain ⟨y, e⟩ := ih (i + 1) (some (.clo ks[i] [] (PF ks[i]))) (by omega)
    refine ⟨y, ?_⟩
    have hc := Ext.at (A' := A ++ List.replicate i (O.lst [.int v])) ⟨_, rfl⟩ hA
    rw [emGo_step (w := .clo ks[i] [] (PF ks[i])) (y := .ref (A ++ List.replicate i (O.lst [.int v])).length) (A1 := A ++ List.replicate i (O.lst [.int v]) ++ [O.lst [.int v]]) ?_ (el_at h (List.getElem_mem hik)) (by simp; unfold cpMost; omega)]
    · have e1 : A ++ List.replicate i (O.lst [.int v]) ++ [O.lst [.int v]] = A ++ List.replicate (i + 1) (O.lst [.int v]) := by rw [List.append_assoc, ← List.replicate_succ']
      have e2 : ((List.range' 0 i).map fun t => W.ref (A.length + t)) ++ [W.ref (A ++ List.replicate i (O.lst [.int v])).length] = (List.range' 0 (i + 1)).map fun t => W.ref (A.length + t) := by
        rw [List.range'_concat, List.map_append, List.map_singleton]
        congr 2
        simp
      rw [e1, e2]
      exact e
    · show ((seqOf (.ref c) _).map fun ws => ws[i]?) = some (some _)
      rw [it_at hc, List.getElem?_map, List.getElem?_eq_getElem hik]
      rfl
private theorem refs_ne (h : AllR ρ ks v) (hA : A[c]? = some (O.lst (ks.map fun k => .clo k [] (PF k)))) (hρ : ρ[10]? = some (some (.ref c))) (hl : ks.length ≤ 100) (hn : n = ks.length)
    (he : PyData.eqv (.list (List.replicate ks.length (.list [.int v]))) (.list (List.replicate ks.length (.list [.int v]))) = true) :
    ∃ A', mBin gNe (mList (cRefs 1 (mIt (mVar 10)) (gVar 0) 0 PF LS RF)) (mBin gMul (mLst (aCons (mLst (aCons (mLit (.int v)) (aNil))) (aNil))) (mLit (.int n))) ρ A = .ok (.bl false) A' ∧ Ext A A' := by
  subst hn
  obtain ⟨y, e⟩ := refs_go (PF := PF) h hA hl ks.length 0 none (by omega)
  have e1 : cRefs 1 (mIt (mVar 10)) (gVar 0) 0 PF LS RF ρ A = .ok ((List.range' 0 ks.length).map fun t => W.ref (A.length + t)) (A ++ List.replicate ks.length (O.lst [.int v])) := by
    unfold cRefs cItems
    rw [mIt_ok (mVar_ok hρ) hA, bind_ok]
    have hl2 : (ks.map fun k => W.clo k [] (PF k)).length = ks.length := by simp
    dsimp only
    rw [hl2]
    have e' : emGo ⟨fun A i => (seqOf (.ref c) A).map fun ws => ws[i]?, ks.length⟩ (gVar 0) (mLit (.bl true)) (emElt (mEl 0 PF LS RF ρ)) ks.length 0 (ncapE 1 [] ρ) [] A = .ok ([y], (List.range' 0 ks.length).map fun t => W.ref (A.length + t)) (A ++ List.replicate ks.length (O.lst [.int v])) := by
      have := e
      rw [List.replicate_zero, List.append_nil] at this
      exact this
    rw [e']
    rfl
  generalize hB : A ++ List.replicate ks.length (O.lst [.int v]) = B at e1
  have e2 := mList_ok e1
  generalize hacc : ((List.range' 0 ks.length).map fun t => W.ref (A.length + t)) = acc at e2
  have e3 : mBin gMul (mLst (aCons (mLst (aCons (mLit (.int v)) (aNil))) (aNil))) (mLit (.int ks.length)) ρ (B ++ [O.lst acc]) =
      .ok (.ref (B ++ [O.lst acc] ++ [O.lst [.int v]] ++ [O.lst [.ref (B ++ [O.lst acc]).length]]).length) (B ++ [O.lst acc] ++ [O.lst [.int v]] ++ [O.lst [.ref (B ++ [O.lst acc]).length]] ++ [O.lst (List.replicate ks.length (.ref (B ++ [O.lst acc]).length))]) := by
    refine (mBin_ok (x := .ref (B ++ [O.lst acc] ++ [O.lst [.int v]]).length) (y := .int ks.length) (A1 := B ++ [O.lst acc] ++ [O.lst [.int v]] ++ [O.lst [.ref (B ++ [O.lst acc]).length]]) (mLst_ok (aCons_ok (mLst_ok (ws := [.int v]) (A1 := B ++ [O.lst acc]) rfl) rfl)) rfl).trans ?_
    unfold gMul
    dsimp only
    rw [at_new]
    dsimp only
    rw [if_pos ?_, Int.toNat_natCast, List.flatten_replicate_singleton]
    rw [Bool.and_eq_true, decide_eq_true_iff, Int.toNat_natCast]
    refine ⟨small62_nat (by omega), ?_⟩
    show 1 * ks.length ≤ cpMost
    unfold cpMost
    omega
  generalize hC : B ++ [O.lst acc] ++ [O.lst [.int v]] ++ [O.lst [.ref (B ++ [O.lst acc]).length]] = C at e3
  have xB : Ext B (B ++ [O.lst acc]) := .one
  have xC : Ext (B ++ [O.lst acc] ++ [O.lst [.int v]]) (C ++ [O.lst (List.replicate ks.length (.ref (B ++ [O.lst acc]).length))]) := by rw [← hC]; exact Ext.one.trans .one
  have xA : Ext A (C ++ [O.lst (List.replicate ks.length (.ref (B ++ [O.lst acc]).length))]) := Ext.trans ⟨_, hB.symm⟩ (xB.trans (Ext.one.trans xC))
  have hall : ∀ D : Hx, (∀ t, t < ks.length → D[A.length + t]? = some (O.lst [.int v])) → allP (toP D 7) acc = some (List.replicate ks.length (.list [.int v])) := fun D hD => by
    rw [← hacc]
    exact allP_const _ _ fun t _ ht => toP_one (hD t (by omega))
  refine ⟨_, (mBin_ok e2 e3).trans (gNe_f (d := .list (List.replicate ks.length (.list [.int v]))) ?_ ?_ he), xA⟩
  · refine toP_list (k := 7) ((Ext.one.trans xC).at at_new) ?_
    refine hall _ fun t ht => (xB.trans (Ext.one.trans xC)).at ?_
    rw [← hB]
    exact at_rep (by omega)
  · refine toP_list (k := 7) at_new ?_
    exact allP_rep (toP_one (xC.at at_new)) _
end
end G
namespace G
open PySem L2 Mi
noncomputable def B3 : Ex := xSeq (xPar 6 7 (mCall F__law_take (aCons (mVar 2) (aCons (mBin gAdd (mVar 3) (mLit (.int 1))) (aNil)))) (mCall F__law_take (aCons (mVar 2) (aCons (mBin gAdd (mVar 3) (mLit (.int 1))) (aNil))))) (xSeq (xIf (mNot (mCall F__law_same (aCons (mCall F_words_weight (aCons (mVar 3) (aCons (mVar 4) (aCons (mVar 6) (aCons (mVar 7) (aNil)))))) (aCons (mCall F__law_due (aCons (mVar 3) (aCons (mVar 4) (aCons (mVar 6) (aCons (mVar 7) (aNil)))))) (aNil))))) (xSeq (xRet (mLit (.bl false))) (xNil)) (xNil)) (xNil))
noncomputable def BL (Pt : Addr) (PF : PFam) : Ex := xSeq (xSet 2 (mCall F__law_state (aCons (mVar 0) (aCons (mVar 1) (aNil))))) (xSeq (xAsg (mTup (aCons (mBin gAdd (mLit (.int 1)) (mCall F__law_take (aCons (mVar 2) (aCons (mLit (.int 12)) (aNil))))) (aCons (mBin gAdd (mLit (.int 2)) (mCall F__law_take (aCons (mVar 2) (aCons (mLit (.int 8)) (aNil))))) (aNil)))) (gPair 3 4)) (xSeq (xFor (mRng1 (mLit (.int 6))) (gVar 5) B3) (xSeq (xSet 8 (mBin gIx (mLst (aCons (mLit (.int 0)) (aCons (mLit (.int 13)) (aCons (mUn gNeg (mLit (.int 1))) (aCons (mLit (.bl true)) (aCons (mLit .non) (aCons (mLit (.str "2")) (aCons (mTup (aCons (mLit (.int 2)) (aNil))) (aCons (mBin gPow (mLit (.int 10)) (mLit (.int 29))) (aNil)))))))))) (mCall F__law_take (aCons (mVar 2) (aCons (mLit (.int 8)) (aNil)))))) (xSeq (xSet 9 (mBin gIx (mLst (aCons (mBin gAdd (mVar 3) (mLit (.int 1))) (aCons (mUn gNeg (mLit (.int 1))) (aCons (mLit (.bl true)) (aCons (mLit .non) (aCons (mLit (.str "0")) (aCons (mTup (aCons (mLit (.int 0)) (aNil))) (aNil)))))))) (mCall F__law_take (aCons (mVar 2) (aCons (mLit (.int 6)) (aNil)))))) (xSeq (xSet 10 (mLst (aCons (mLam 1 qn_law Pt 0 (PF 0)) (aNil)))) (xSeq (xDo (mMeth gAppend (mVar 10) (mLam 1 qn_law Pt 1 (PF 1)))) (xSeq (xSet 11 (mBin gIx (mLst (aCons (mLit (.int 1)) (aCons (mIf (mBin gEq (mVar 8) (mLit (.int 13))) (mLit (.int 10)) (mVar 8)) (aNil)))) (mCall F__law_take (aCons (mVar 2) (aCons (mLit (.int 2)) (aNil)))))) (xSeq (xDo (mMeth gAppend (mVar 10) (mLam 1 qn_law Pt 2 (PF 2)))) (xSeq (xIf (mBin gNe (mList (cRefs 1 (mIt (mVar 10)) (gVar 0) 0 PF (ls_law RX_words_weight) RF)) (mBin gMul (mLst (aCons (mLst (aCons (mLit (.int 5)) (aNil))) (aNil))) (mLit (.int 3)))) (xSeq (xRet (mLit (.bl false))) (xNil)) (xNil)) (xSeq (xSet 10 (mLst (aCons (mLam 1 qn_law Pt 3 (PF 3)) (aNil)))) (xSeq (xDo (mMeth gAppend (mVar 10) (mLam 1 qn_law Pt 4 (PF 4)))) (xSeq (xIf (mBin gNe (mList (cRefs 1 (mIt (mVar 10)) (gVar 0) 0 PF (ls_law RX_words_weight) RF)) (mBin gMul (mLst (aCons (mLst (aCons (mLit (.int 3)) (aNil))) (aNil))) (mLit (.int 2)))) (xSeq (xRet (mLit (.bl false))) (xNil)) (xNil)) (xNil)))))))))))))
section
variable {ns : List Int} {Pt : Addr} {n many signs : Nat} {A : Hx} {xk x5 x6 x7 x8 x9 x10 x11 : Option W}
private theorem take_e (h : HOk ns Pt n A) {ρ : En} {mm : Ev} {m : Int} (h1 : 0 < m) (h2 : m < 1000) (hn : ρ[2]? = some (some (.ref n))) (hm : mm ρ A = .ok (.int m) A) :
    ∃ (r : Nat) (A' : Hx), mCall F__law_take (aCons (mVar 2) (aCons mm (aNil))) ρ A = .ok (.int r) A' ∧ (r : Int) < m ∧ HOk ns Pt n A' ∧ ∀ i, i ≠ n → A'[i]? = A[i]? := by
  obtain ⟨r, A', e, a, b, c⟩ := take_G h h1 h2
  refine ⟨r, A', ?_, a, b, c⟩
  rw [mCall_ok (ws := [.ref n, .int m]) (A1 := A) (aCons_ok (mVar_ok hn) (aCons_ok hm rfl))]
  exact e
private theorem inner_turn (h : HOk ns Pt n A) (h1 : 1 ≤ many) (h2 : many ≤ 12) (h3 : 2 ≤ signs) (h4 : signs ≤ 9) : ∃ y6 y7 A', B3 [some (.ref 0), xk, some (.ref n), some (.int many), some (.int signs), x5, x6, x7, x8, x9, x10, x11] A =
    .ok (.nx [some (.ref 0), xk, some (.ref n), some (.int many), some (.int signs), x5, y6, y7, x8, x9, x10, x11]) A' ∧ HOk ns Pt n A' := by
  obtain ⟨r1, A1, e1, b1, H1, _⟩ := take_e h (ρ := [some (.ref 0), xk, some (.ref n), some (.int many), some (.int signs), x5, x6, x7, x8, x9, x10, x11]) (mm := mBin gAdd (mVar 3) (mLit (.int 1))) (m := (many : Int) + 1) (by omega) (by omega) rfl rfl
  obtain ⟨r2, A2, e2, b2, H2, _⟩ := take_e H1 (ρ := [some (.ref 0), xk, some (.ref n), some (.int many), some (.int signs), x5, x6, x7, x8, x9, x10, x11]) (mm := mBin gAdd (mVar 3) (mLit (.int 1))) (m := (many : Int) + 1) (by omega) (by omega) rfl rfl
  refine ⟨some (.int r1), some (.int r2), A2, ?_, H2⟩
  unfold B3
  have e3 : xPar 6 7 (mCall F__law_take (aCons (mVar 2) (aCons (mBin gAdd (mVar 3) (mLit (.int 1))) (aNil)))) (mCall F__law_take (aCons (mVar 2) (aCons (mBin gAdd (mVar 3) (mLit (.int 1))) (aNil)))) [some (.ref 0), xk, some (.ref n), some (.int many), some (.int signs), x5, x6, x7, x8, x9, x10, x11] A =
      .ok (.nx [some (.ref 0), xk, some (.ref n), some (.int many), some (.int signs), x5, some (.int r1), some (.int r2), x8, x9, x10, x11]) A2 := by
    unfold xPar
    rw [e1, bind_ok, e2, bind_ok]
    rfl
  refine (xSeq_nx e3).trans ?_
  refine (xSeq_nx (ρ1 := [some (.ref 0), xk, some (.ref n), some (.int many), some (.int signs), x5, some (.int r1), some (.int r2), x8, x9, x10, x11]) (A1 := A2) ((xIf_f (A1 := A2) (mNot_ok (k := true) ?_)).trans rfl)).trans rfl
  have ew : mCall F_words_weight (aCons (mVar 3) (aCons (mVar 4) (aCons (mVar 6) (aCons (mVar 7) (aNil))))) [some (.ref 0), xk, some (.ref n), some (.int many), some (.int signs), x5, some (.int r1), some (.int r2), x8, x9, x10, x11] A2 = .ok (.int (wweight many signs r1 r2)) A2 := by
    rw [mCall_ok (ws := [.int many, .int signs, .int r1, .int r2]) (A1 := A2) rfl]
    exact weight_F h1 h2 h3 h4 (by omega) (by omega) A2
  have ed : mCall F__law_due (aCons (mVar 3) (aCons (mVar 4) (aCons (mVar 6) (aCons (mVar 7) (aNil))))) [some (.ref 0), xk, some (.ref n), some (.int many), some (.int signs), x5, some (.int r1), some (.int r2), x8, x9, x10, x11] A2 = .ok (.int (wweight many signs r1 r2)) A2 := by
    rw [mCall_ok (ws := [.int many, .int signs, .int r1, .int r2]) (A1 := A2) rfl, due_same h1 h2 h3 h4 (by omega) (by omega)]
    exact due_F h2 h3 h4 (by omega) A2
  rw [mCall_ok (ws := [.int (wweight many signs r1 r2), .int (wweight many signs r1 r2)]) (A1 := A2) (aCons_ok ew (aCons_ok ed rfl))]
  exact same_F _ A2
private theorem inner_loop (h1 : 1 ≤ many) (h2 : many ≤ 12) (h3 : 2 ≤ signs) (h4 : signs ≤ 9) : ∀ (f i : Nat) (A : Hx) (x5 x6 x7 : Option W), i + f = 6 → HOk ns Pt n A → ∃ y5 y6 y7 A', forGo (rngIt 0 6) (turn (gVar 5) B3) f i [some (.ref 0), xk, some (.ref n), some (.int many), some (.int signs), x5, x6, x7, x8, x9, x10, x11] A =
    .ok (.nx [some (.ref 0), xk, some (.ref n), some (.int many), some (.int signs), y5, y6, y7, x8, x9, x10, x11]) A' ∧ HOk ns Pt n A' := by
  intro f
  induction f with
  | zero =>
    intro i A x5 x6 x7 hi H
    exact ⟨x5, x6, x7, A, forGo_stop (rng_end (by omega)), H⟩
  | succ f ih =>
    intro i A x5 x6 x7 hi H
    obtain ⟨y6, y7, A1, e1, H1⟩ := inner_turn (xk := xk) (x5 := some (.int (0 + i))) (x6 := x6) (x7 := x7) (x8 := x8) (x9 := x9) (x10 := x10) (x11 := x11) H h1 h2 h3 h4
    obtain ⟨z5, z6, z7, A2, e2, H2⟩ := ih (i + 1) A1 (some (.int (0 + i))) y6 y7 (by omega) H1
    refine ⟨z5, z6, z7, A2, ?_, H2⟩
    rw [forGo_nx (rng_at (by omega)) ((turn_ok rfl).trans e1), e2]
private theorem bad_at : ∀ r < 8, ([.int 0, .int 13, .int (-1), .bl true, .non, .str "2", .tup [.int 2], .int 100000000000000000000000000000] : List W)[r]? = some (badW r) := fun r hr => by
  match r, hr with
  | 0, _ => rfl | 1, _ => rfl | 2, _ => rfl | 3, _ => rfl | 4, _ => rfl | 5, _ => rfl | 6, _ => rfl | 7, _ => rfl
private theorem none_at : ∀ r < 6, ([.int ((many : Int) + 1), .int (-1), .bl true, .non, .str "0", .tup [.int 0]] : List W)[r]? = some (noneW many r) := fun r hr => by
  match r, hr with
  | 0, _ => rfl | 1, _ => rfl | 2, _ => rfl | 3, _ => rfl | 4, _ => rfl | 5, _ => rfl
noncomputable def oddI (b r : Nat) : Nat := if r = 0 then 0 else b + 1
private theorem odd_at : ∀ b < 8, ∀ r < 2, ([.int 1, if b = 1 then .int 10 else badW b] : List W)[r]? = some (oddW (oddI b r)) := fun b hb r hr => by
  match b, hb, r, hr with
  | 0, _, 0, _ => rfl | 1, _, 0, _ => rfl | 2, _, 0, _ => rfl | 3, _, 0, _ => rfl | 4, _, 0, _ => rfl | 5, _, 0, _ => rfl | 6, _, 0, _ => rfl | 7, _, 0, _ => rfl
  | 0, _, 1, _ => rfl | 1, _, 1, _ => rfl | 2, _, 1, _ => rfl | 3, _, 1, _ => rfl | 4, _, 1, _ => rfl | 5, _, 1, _ => rfl | 6, _, 1, _ => rfl | 7, _, 1, _ => rfl
private theorem bad_13 (A : Hx) : ∀ b < 8, gEq (badW b) (.int 13) A = .ok (.bl (decide (b = 1))) A := fun b hb => by
  match b, hb with
  | 0, _ => rfl | 1, _ => rfl | 2, _ => rfl | 3, _ => rfl | 4, _ => rfl | 5, _ => kernel_rfl | 6, _ => rfl | 7, _ => rfl
end
end G
namespace G
open PySem L2 Mi
private theorem eqv3 : PyData.eqv (.list (List.replicate 3 (.list [.int 5]))) (.list (List.replicate 3 (.list [.int 5]))) = true := by decide +kernel
private theorem eqv2 : PyData.eqv (.list (List.replicate 2 (.list [.int 3]))) (.list (List.replicate 2 (.list [.int 3]))) = true := by decide +kernel
section
variable {ns : List Int} {Pt : Addr} {PF : PFam} {n many signs : Nat} {A : Hx} {xk x5 x6 x7 x8 x9 x10 x11 : Option W}
private theorem pick (h : HOk ns Pt n A) {ρ : En} {a : Ea} {ws : List W} {m : Nat} (h1 : 0 < m) (h2 : m < 1000) (hn : ρ[2]? = some (some (.ref n))) (ha : a ρ A = .ok ws A) {f : Nat → W} (hf : ∀ r < m, ws[r]? = some (f r)) :
    ∃ r A', mBin gIx (mLst a) (mCall F__law_take (aCons (mVar 2) (aCons (mLit (.int m)) (aNil)))) ρ A = .ok (f r) A' ∧ r < m ∧ HOk ns Pt n A' ∧ ∀ i o, i ≠ n → A[i]? = some o → A'[i]? = some o := by
  obtain ⟨r, A', e, b, H, k⟩ := take_e (h.app (.lst ws)) (ρ := ρ) (mm := mLit (.int m)) (m := (m : Int)) (by omega) (by omega) hn rfl
  have hlt := h.lt
  refine ⟨r, A', ?_, by omega, H, fun i o hi ho => by (first | exact ((k i hi).trans (at_old ho)) | (rw [k i hi]; exact at_old ho))⟩
  refine (mBin_ok (mLst_ok ha) e).trans ?_
  refine gIx_lst (ws := ws) ?_ (hf r (by omega))
  rw [k _ (by omega)]
  exact at_new
private theorem app_ok {ρ : En} {c : Nat} {ws : List W} {mm : Ev} {w : W} (hc : ρ[10]? = some (some (.ref c))) (hA : A[c]? = some (.lst ws)) (hm : mm ρ A = .ok w A) (hl : ws.length < 100) : xDo (mMeth gAppend (mVar 10) mm) ρ A = .ok (.nx ρ) (A.set c (.lst (ws ++ [w]))) := by
  refine xDo_ok (w := .non) ?_
  unfold mMeth
  rw [mVar_ok hc, bind_ok]
  have il : isL (.ref c) A = true := by unfold isL; dsimp only; rw [hA]
  rw [if_pos il, hm, bind_ok]
  unfold gAppend
  dsimp only
  rw [hA]
  dsimp only
  rw [if_pos (by unfold cpMost; omega)]
private theorem set_at {c : Nat} {o u : O} (h : A[c]? = some u) : (A.set c o)[c]? = some o := List.getElem?_set_self (List.getElem?_eq_some_iff.mp h).1
private theorem body_ok (h0 : A[0]? = some (.ro (ns.map W.int))) (h1 : A[1]? = some (.tab qn_law Pt)) (k : Nat) {x2 x3 x4 : Option W} : ∃ y2 y3 y4 y5 y6 y7 y8 y9 y10 y11 A', BL Pt PF [some (.ref 0), some (.int (0 + k)), x2, x3, x4, x5, x6, x7, x8, x9, x10, x11] A =
    .ok (.nx [some (.ref 0), some (.int (0 + k)), y2, y3, y4, y5, y6, y7, y8, y9, y10, y11]) A' ∧ A'[0]? = some (.ro (ns.map W.int)) ∧ A'[1]? = some (.tab qn_law Pt) := by
  have ek : (0 + (k : Int)) = (k : Int) := by omega
  rw [ek]
  obtain ⟨o, eS, hS⟩ := state_F h0 k
  have two : 2 ≤ A.length := (List.getElem?_eq_some_iff.mp h1).1
  have H0 : HOk ns Pt A.length (A ++ [o]) := ⟨at_old h0, at_old h1, two, hS⟩
  generalize A.length = n at *
  generalize A ++ [o] = A0 at *
  obtain ⟨r1, A1, e1, b1, H1, _⟩ := take_e H0 (ρ := [some (.ref 0), some (.int k), some (.ref n), x3, x4, x5, x6, x7, x8, x9, x10, x11]) (mm := mLit (.int 12)) (m := 12) (by decide) (by decide) rfl rfl
  obtain ⟨r2, A2, e2, b2, H2, _⟩ := take_e H1 (ρ := [some (.ref 0), some (.int k), some (.ref n), x3, x4, x5, x6, x7, x8, x9, x10, x11]) (mm := mLit (.int 8)) (m := 8) (by decide) (by decide) rfl rfl
  have eA : xAsg (mTup (aCons (mBin gAdd (mLit (.int 1)) (mCall F__law_take (aCons (mVar 2) (aCons (mLit (.int 12)) (aNil))))) (aCons (mBin gAdd (mLit (.int 2)) (mCall F__law_take (aCons (mVar 2) (aCons (mLit (.int 8)) (aNil))))) (aNil)))) (gPair 3 4) [some (.ref 0), some (.int k), some (.ref n), x3, x4, x5, x6, x7, x8, x9, x10, x11] A0 =
      .ok (.nx [some (.ref 0), some (.int k), some (.ref n), some (.int ((1 + r1 : Nat) : Int)), some (.int ((2 + r2 : Nat) : Int)), x5, x6, x7, x8, x9, x10, x11]) A2 := by
    unfold xAsg
    rw [mTup_ok (aCons_ok ((mBin_ok (mLit_ok (w := .int 1)) e1).trans (rfl : gAdd (.int 1) (.int (r1 : Int)) A1 = .ok (.int (1 + (r1 : Int))) A1)) (aCons_ok ((mBin_ok (mLit_ok (w := .int 2)) e2).trans (rfl : gAdd (.int 2) (.int (r2 : Int)) A2 = .ok (.int (2 + (r2 : Int))) A2)) rfl)), bind_ok]
    have g1 : (1 + (r1 : Int)) = ((1 + r1 : Nat) : Int) := by omega
    have g2 : (2 + (r2 : Int)) = ((2 + r2 : Nat) : Int) := by omega
    rw [g1, g2]
    rfl
  have m1 : 1 ≤ 1 + r1 := by omega
  have m2 : 1 + r1 ≤ 12 := by omega
  have s1 : 2 ≤ 2 + r2 := by omega
  have s2 : 2 + r2 ≤ 9 := by omega
  generalize 1 + r1 = many at *
  generalize 2 + r2 = signs at *
  obtain ⟨y5, y6, y7, A3, e3, H3⟩ := inner_loop (ns := ns) (Pt := Pt) (n := n) (xk := some (.int k)) (x8 := x8) (x9 := x9) (x10 := x10) (x11 := x11) m1 m2 s1 s2 6 0 A2 x5 x6 x7 (by omega) H2
  obtain ⟨b, A4, e4, hb, H4, _⟩ := pick H3 (ρ := [some (.ref 0), some (.int k), some (.ref n), some (.int many), some (.int signs), y5, y6, y7, x8, x9, x10, x11])
    (a := aCons (mLit (.int 0)) (aCons (mLit (.int 13)) (aCons (mUn gNeg (mLit (.int 1))) (aCons (mLit (.bl true)) (aCons (mLit .non) (aCons (mLit (.str "2")) (aCons (mTup (aCons (mLit (.int 2)) (aNil))) (aCons (mBin gPow (mLit (.int 10)) (mLit (.int 29))) (aNil)))))))))
    (m := 8) (by decide) (by decide) rfl (by kernel_rfl) bad_at
  obtain ⟨d, A5, e5, hd, H5, _⟩ := pick H4 (ρ := [some (.ref 0), some (.int k), some (.ref n), some (.int many), some (.int signs), y5, y6, y7, some (badW b), x9, x10, x11])
    (a := aCons (mBin gAdd (mVar 3) (mLit (.int 1))) (aCons (mUn gNeg (mLit (.int 1))) (aCons (mLit (.bl true)) (aCons (mLit .non) (aCons (mLit (.str "0")) (aCons (mTup (aCons (mLit (.int 0)) (aNil))) (aNil)))))))
    (m := 6) (by decide) (by decide) rfl rfl none_at
  have e6 : mLst (aCons (mLam 1 qn_law Pt 0 (PF 0)) (aNil)) [some (.ref 0), some (.int k), some (.ref n), some (.int many), some (.int signs), y5, y6, y7, some (badW b), some (noneW many d), x10, x11] A5 = .ok (.ref A5.length) (A5 ++ [.lst [.clo 0 [] (PF 0)]]) := mLst_ok (aCons_ok (lam_at H5) rfl)
  have hlt5 := H5.lt
  have H6 := H5.app (.lst [.clo 0 [] (PF 0)])
  have c6 : (A5 ++ [O.lst [.clo 0 [] (PF 0)]])[A5.length]? = some (.lst [.clo 0 [] (PF 0)]) := at_new
  generalize hA6 : A5 ++ [O.lst [.clo 0 [] (PF 0)]] = A6 at e6 H6 c6
  generalize hc : A5.length = c at e6 c6 hlt5
  have e7 := app_ok (ρ := [some (.ref 0), some (.int k), some (.ref n), some (.int many), some (.int signs), y5, y6, y7, some (badW b), some (noneW many d), some (.ref c), x11]) (mm := mLam 1 qn_law Pt 1 (PF 1)) rfl c6 (lam_at H6) (by show 1 < 100; decide)
  have H7 := H6.put hlt5 (.lst ([.clo 0 [] (PF 0)] ++ [.clo 1 [] (PF 1)]))
  have c7 := set_at (o := .lst ([.clo 0 [] (PF 0)] ++ [.clo 1 [] (PF 1)])) c6
  generalize A6.set c (.lst ([.clo 0 [] (PF 0)] ++ [.clo 1 [] (PF 1)])) = A7 at e7 H7 c7
  have eI : mIf (mBin gEq (mVar 8) (mLit (.int 13))) (mLit (.int 10)) (mVar 8) [some (.ref 0), some (.int k), some (.ref n), some (.int many), some (.int signs), y5, y6, y7, some (badW b), some (noneW many d), some (.ref c), x11] A7 = .ok (if b = 1 then .int 10 else badW b) A7 := by
    have eg : mBin gEq (mVar 8) (mLit (.int 13)) [some (.ref 0), some (.int k), some (.ref n), some (.int many), some (.int signs), y5, y6, y7, some (badW b), some (noneW many d), some (.ref c), x11] A7 = .ok (.bl (decide (b = 1))) A7 := (mBin_ok (mVar_ok (w := badW b) rfl) (mLit_ok (w := .int 13))).trans (bad_13 A7 b hb)
    by_cases h : b = 1
    · rw [decide_eq_true h] at eg
      rw [mIf_t eg, if_pos h]
      rfl
    · rw [decide_eq_false h] at eg
      rw [mIf_f eg, if_neg h]
      rfl
  obtain ⟨t, A8, e8, ht, H8, k8⟩ := pick H7 (ρ := [some (.ref 0), some (.int k), some (.ref n), some (.int many), some (.int signs), y5, y6, y7, some (badW b), some (noneW many d), some (.ref c), x11])
    (a := aCons (mLit (.int 1)) (aCons (mIf (mBin gEq (mVar 8) (mLit (.int 13))) (mLit (.int 10)) (mVar 8)) (aNil))) (m := 2) (by decide) (by decide) rfl (aCons_ok (mLit_ok (w := .int 1)) (aCons_ok eI rfl)) (odd_at b hb)
  have hq : oddI b t < 9 := by unfold oddI; split <;> omega
  have c8 := k8 c _ (by omega) c7
  generalize oddI b t = q at *
  have e9 := app_ok (ρ := [some (.ref 0), some (.int k), some (.ref n), some (.int many), some (.int signs), y5, y6, y7, some (badW b), some (noneW many d), some (.ref c), some (oddW q)]) (mm := mLam 1 qn_law Pt 2 (PF 2)) rfl c8 (lam_at H8) (by show 2 < 100; decide)
  have H9 := H8.put hlt5 (.lst ([.clo 0 [] (PF 0)] ++ [.clo 1 [] (PF 1)] ++ [.clo 2 [] (PF 2)]))
  have c9 := set_at (o := .lst ([.clo 0 [] (PF 0)] ++ [.clo 1 [] (PF 1)] ++ [.clo 2 [] (PF 2)])) c8
  generalize A8.set c (.lst ([.clo 0 [] (PF 0)] ++ [.clo 1 [] (PF 1)] ++ [.clo 2 [] (PF 2)])) = A9 at e9 H9 c9
  have r3 : AllR [some (.ref 0), some (.int k), some (.ref n), some (.int many), some (.int signs), y5, y6, y7, some (badW b), some (noneW many d), some (.ref c), some (oddW q)] [0, 1, 2] 5 := by
    refine all_cons ⟨t_law_0 RX_words_weight, [badW b, noneW many d], rfl, rfl, fun A => RF0 hb hd⟩ (all_cons ⟨t_law_1 RX_words_weight, [.int signs, badW b, noneW many d], rfl, rfl, fun A => RF1 hb hd⟩ (all_cons ⟨t_law_2 RX_words_weight, [.int many, noneW many d, oddW q], rfl, rfl, fun A => RF2 m1 m2 hq hd⟩ all_nil))
  obtain ⟨A10, e10, x10'⟩ := refs_ne (PF := PF) (n := 3) r3 c9 rfl (by decide) rfl eqv3
  have H10 := H9.ext x10'
  have e11 : mLst (aCons (mLam 1 qn_law Pt 3 (PF 3)) (aNil)) [some (.ref 0), some (.int k), some (.ref n), some (.int many), some (.int signs), y5, y6, y7, some (badW b), some (noneW many d), some (.ref c), some (oddW q)] A10 = .ok (.ref A10.length) (A10 ++ [.lst [.clo 3 [] (PF 3)]]) := mLst_ok (aCons_ok (lam_at H10) rfl)
  have hlt10 := H10.lt
  have H11 := H10.app (.lst [.clo 3 [] (PF 3)])
  have c11 : (A10 ++ [O.lst [.clo 3 [] (PF 3)]])[A10.length]? = some (.lst [.clo 3 [] (PF 3)]) := at_new
  generalize A10 ++ [O.lst [.clo 3 [] (PF 3)]] = A11 at e11 H11 c11
  generalize A10.length = c' at e11 c11 hlt10
  have e12 := app_ok (ρ := [some (.ref 0), some (.int k), some (.ref n), some (.int many), some (.int signs), y5, y6, y7, some (badW b), some (noneW many d), some (.ref c'), some (oddW q)]) (mm := mLam 1 qn_law Pt 4 (PF 4)) rfl c11 (lam_at H11) (by show 1 < 100; decide)
  have H12 := H11.put hlt10 (.lst ([.clo 3 [] (PF 3)] ++ [.clo 4 [] (PF 4)]))
  have c12 := set_at (o := .lst ([.clo 3 [] (PF 3)] ++ [.clo 4 [] (PF 4)])) c11
  generalize A11.set c' (.lst ([.clo 3 [] (PF 3)] ++ [.clo 4 [] (PF 4)])) = A12 at e12 H12 c12
  have r2' : AllR [some (.ref 0), some (.int k), some (.ref n), some (.int many), some (.int signs), y5, y6, y7, some (badW b), some (noneW many d), some (.ref c'), some (oddW q)] [3, 4] 3 := by
    refine all_cons ⟨t_law_3 RX_words_weight, [.int many, .int signs, noneW many d], rfl, rfl, fun A => RF3 m1 m2 s1 s2 hd⟩ (all_cons ⟨t_law_4 RX_words_weight, [.int many, .int signs, noneW many d], rfl, rfl, fun A => RF4 m1 m2 s1 s2 hd⟩ all_nil)
  obtain ⟨A13, e13, x13⟩ := refs_ne (PF := PF) (n := 2) r2' c12 rfl (by decide) rfl eqv2
  have H13 := H12.ext x13
  refine ⟨some (.ref n), some (.int many), some (.int signs), y5, y6, y7, some (badW b), some (noneW many d), some (.ref c'), some (oddW q), A13, ?_, H13.h0, H13.h1⟩
  unfold BL
  refine (xSeq_nx (ρ1 := [some (.ref 0), some (.int k), some (.ref n), x3, x4, x5, x6, x7, x8, x9, x10, x11]) (A1 := A0) ((xSet_ok ((mCall_ok (ws := [.ref 0, .int k]) (A1 := A) rfl).trans eS)).trans rfl)).trans ?_
  refine (xSeq_nx eA).trans ?_
  refine (xSeq_nx ((xFor_ok (mRng1_ok (k := 6) (A1 := A2) rfl rfl)).trans e3)).trans ?_
  refine (xSeq_nx ((xSet_ok e4).trans rfl)).trans ?_
  refine (xSeq_nx ((xSet_ok e5).trans rfl)).trans ?_
  refine (xSeq_nx ((xSet_ok e6).trans rfl)).trans ?_
  refine (xSeq_nx e7).trans ?_
  refine (xSeq_nx ((xSet_ok e8).trans rfl)).trans ?_
  refine (xSeq_nx e9).trans ?_
  refine (xSeq_nx ((xIf_f e10).trans rfl)).trans ?_
  refine (xSeq_nx ((xSet_ok e11).trans rfl)).trans ?_
  refine (xSeq_nx e12).trans ?_
  exact (xSeq_nx ((xIf_f e13).trans rfl)).trans rfl
end
end G
namespace G
open PySem L2 Mi
section
variable {ns : List Int} {Pt : Addr} {PF : PFam}
private theorem outer_loop (N : Nat) : ∀ (f i : Nat) (A : Hx) (x1 x2 x3 x4 x5 x6 x7 x8 x9 x10 x11 : Option W), i + f = N → A[0]? = some (.ro (ns.map W.int)) → A[1]? = some (.tab qn_law Pt) → ∃ ρ A',
    forGo (rngIt 0 N) (turn (gVar 1) (BL Pt PF)) f i [some (.ref 0), x1, x2, x3, x4, x5, x6, x7, x8, x9, x10, x11] A = .ok (.nx ρ) A' := by
  intro f
  induction f with
  | zero =>
    intro i A x1 x2 x3 x4 x5 x6 x7 x8 x9 x10 x11 hi h0 h1
    exact ⟨_, A, forGo_stop (rng_end (by omega))⟩
  | succ f ih =>
    intro i A x1 x2 x3 x4 x5 x6 x7 x8 x9 x10 x11 hi h0 h1
    obtain ⟨y2, y3, y4, y5, y6, y7, y8, y9, y10, y11, A', e, k0, k1⟩ := body_ok (PF := PF) (x2 := x2) (x3 := x3) (x4 := x4) (x5 := x5) (x6 := x6) (x7 := x7) (x8 := x8) (x9 := x9) (x10 := x10) (x11 := x11) h0 h1 i
    obtain ⟨ρ, A2, e2⟩ := ih (i + 1) A' (some (.int (0 + i))) y2 y3 y4 y5 y6 y7 y8 y9 y10 y11 (by omega) k0 k1
    exact ⟨ρ, A2, (forGo_nx (rng_at (by omega)) ((turn_ok rfl).trans e)).trans e2⟩
end
noncomputable def L_law (Pt : Addr) (PF : PFam) : Fn := runB 12 (m_law F__law_due F__law_same F__law_state F__law_take F_words_weight RX_words_weight RF Pt PF)
private theorem law_eq (Pt : Addr) (PF : PFam) : m_law F__law_due F__law_same F__law_state F__law_take F_words_weight RX_words_weight RF Pt PF =
    xSeq (xFor (mRng1 (mBin gMax2 (mLit (.int 1)) (mBin gMin2 (mQ gLen (mSeq (mVar 0))) (mLit (.int 6))))) (gVar 1) (BL Pt PF)) (xSeq (xRet (mLit (.bl true))) (xNil)) := rfl
private theorem law_true : LawOkT qn_law L_law := fun ns hl Pt PF => by
  have hs : seqOf (.ref 0) [.ro (ns.map W.int), .tab qn_law Pt] = some (ns.map W.int) := rfl
  have el : mQ gLen (mSeq (mVar 0)) [some (.ref 0), none, none, none, none, none, none, none, none, none, none, none] [.ro (ns.map W.int), .tab qn_law Pt] = .ok (.int ns.length) [.ro (ns.map W.int), .tab qn_law Pt] := by
    rw [mQ_ok (mSeq_ok (w := .ref 0) (A1 := [.ro (ns.map W.int), .tab qn_law Pt]) (mVar_ok rfl) hs)]
    unfold gLen
    rw [List.length_map]
  have em : mBin gMax2 (mLit (.int 1)) (mBin gMin2 (mQ gLen (mSeq (mVar 0))) (mLit (.int 6))) [some (.ref 0), none, none, none, none, none, none, none, none, none, none, none] [.ro (ns.map W.int), .tab qn_law Pt] =
      .ok (.int (if (if (6 : Int) < ns.length then 6 else (ns.length : Int)) > 1 then (if (6 : Int) < ns.length then 6 else (ns.length : Int)) else 1)) [.ro (ns.map W.int), .tab qn_law Pt] :=
    (mBin_ok (mLit_ok (w := .int 1)) ((mBin_ok el (mLit_ok (w := .int 6))).trans rfl)).trans rfl
  generalize hv : (if (if (6 : Int) < ns.length then 6 else (ns.length : Int)) > 1 then (if (6 : Int) < ns.length then 6 else (ns.length : Int)) else 1) = v at em
  have hsm : small62 v = true := by
    have : 0 ≤ v ∧ v < 1000 := by
      rw [← hv]
      split <;> split <;> omega
    obtain ⟨k, rfl⟩ := Int.eq_ofNat_of_zero_le this.1
    exact small62_nat (by omega)
  obtain ⟨ρ, A, e⟩ := outer_loop (ns := ns) (Pt := Pt) (PF := PF) v.toNat v.toNat 0 [.ro (ns.map W.int), .tab qn_law Pt] none none none none none none none none none none none (by omega) rfl rfl
  refine ⟨A, runB_rt ?_⟩
  rw [law_eq]
  exact (xSeq_nx ((xFor_ok (mRng1_ok em hsm)).trans e)).trans rfl
end G
namespace G
open PySem L2 Mi
section
variable {P : Program} {w : World} {K : PySem.W.Frag} {mg : Str → Option Value} {base h : Heap}
private theorem law_fn (X : K.In h) (Gl : h.Ns mainGlobals mg) (T : Tx K) {f c Pt : Addr} {fd : FuncData} (F : Fun K "law" "law" s_law f fd) (hn : PySem.W.nsIn K mainGlobals "law" = some (some (.ref f))) (ht : PySem.W.tabIn K "law" = some (c, Pt)) (hB : BMain mg base) (hC : PySem.W.CodeHd base c Pt) : FnOk P w K mg base CX0 7 f fd ["_law_script"] (spT K 1 (L_law Pt)) :=
  o_law (k := 6) (j := 4) (kk := 6) (bu X Gl T) F hn ht hB hC ((g__law_due X Gl T).mono (by decide)) ((g__law_same X Gl T).mono (by decide)) ((g__law_state X Gl T).mono (by decide)) ((g__law_take X Gl T).mono (by decide)) ((g_words_weight X Gl T).mono (by decide)) (Nat.le_refl _)
    (ls_ok (k := 4) (bu X Gl T) fun base => gx_words_weight X Gl T) fun base PG hL => (g__law_refused X Gl T hL).imp fun us A _ => ref_eq us A
private theorem all_mk {l : PySem.W.OpenLaw} {fa Pt : Addr} (X : K.In h) (Gl : h.Ns mainGlobals mg) (hfa : mg "law" = some (.ref fa)) (T : Tx K) (ht : ∃ c, PySem.W.tabIn K "law" = some (c, Pt) ∧ PySem.W.codeHdIn K c Pt = true) :
    ∃ fd : FuncData, (∀ (s : Shared) (v : Value), BindsTo s fd ⟨[v], []⟩ [("_law_script", v)]) ∧ ∀ base : Heap, K.In base → base.Ns mainGlobals mg → BMain mg base → FnOk l.prog w K mg base CX0 7 fa fd ["_law_script"] (spT K 1 (L_law Pt)) := by
  obtain ⟨c, ht, hcd⟩ := ht
  obtain ⟨f, fd, F, a⟩ := T.d_law
  have e := hfa.symm.trans (PySem.W.mg_of X Gl a)
  cases e
  obtain ⟨oc, od, kV, doc, pm, an, cdv, ct, osl, rfl, lk, hcd'⟩ := id F.ex
  exact ⟨_, fun s v => .of_eq rfl, fun base kb nb hB => law_fn X Gl T F a ht hB (PySem.W.codeHd_of_K kb hcd)⟩
end
end G
noncomputable def PySem.W.Fast.tw42811437891536136 : Nat := 0
noncomputable def PySem.W.Fast.tw9479638687795140071 : Nat := 0
noncomputable def PySem.W.Fast.tw8570803330907847350 : Nat := 0
noncomputable def PySem.W.Fast.tw15811232422294769499 : Nat := 0
noncomputable def PySem.W.Fast.tw1308041590318713197 : Nat := 0
noncomputable def PySem.W.Fast.tw10004302192754928367 : Nat := 0
noncomputable def PySem.W.Fast.tw11640228227778561178 : Nat := 0
noncomputable def PySem.W.Fast.tw4925849268045407277 : Nat := 0
noncomputable def PySem.W.Fast.tw17668894500299776921 : Nat := 0
noncomputable def PySem.W.Fast.tw7568888443201614354 : Nat := 0
noncomputable def PySem.W.Fast.tw3799058858956427969 : Nat := 0
noncomputable def PySem.W.Fast.tw3772244983904065565 : Nat := 0
noncomputable def PySem.W.Fast.tw1031232543431572104 : Nat := 0
noncomputable def PySem.W.Fast.tw4548938267578931417 : Nat := 0
noncomputable def PySem.W.Fast.tw9025555179581980079 : Nat := 0
noncomputable def PySem.W.Fast.tw5095347845626164327 : Nat := 0
noncomputable def PySem.W.Fast.tw3491595960828363511 : Nat := 0
noncomputable def PySem.W.Fast.tw14934063338465280186 : Nat := 0
noncomputable def PySem.W.Fast.tw5434853262537237408 : Nat := 0
noncomputable def PySem.W.Fast.tw18437596391046914843 : Nat := 0
noncomputable def PySem.W.Fast.tw5490637681050253442 : Nat := 0
noncomputable def PySem.W.Fast.tw5137861093204178416 : Nat := 0
noncomputable def PySem.W.Fast.tw14135340687785055311 : Nat := 0
noncomputable def PySem.W.Fast.tw9675430495217409373 : Nat := 0
noncomputable def PySem.W.Fast.tw6547853029606176834 : Nat := 0
noncomputable def PySem.W.Fast.tw10906267542028045321 : Nat := 0
noncomputable def PySem.W.Fast.tw595986902809099209 : Nat := 0
noncomputable def PySem.W.Fast.tw7502171280319565395 : Nat := 0
noncomputable def PySem.W.Fast.tw1924351170933504291 : Nat := 0
noncomputable def PySem.W.Fast.tw9180946811907888668 : Nat := 0
noncomputable def PySem.W.Fast.tw7679889058652633354 : Nat := 0
noncomputable def PySem.W.Fast.tw12527053371651888615 : Nat := 0
noncomputable def PySem.W.Fast.tw14438348414541833230 : Nat := 0
noncomputable def PySem.W.Fast.tw7347820345849440218 : Nat := 0
noncomputable def PySem.W.Fast.tw2581334186416701872 : Nat := 0
noncomputable def PySem.W.Fast.tw14942707887578606336 : Nat := 0
noncomputable def PySem.W.Fast.tw13136824291735244363 : Nat := 0
noncomputable def PySem.W.Fast.tw14291343293655987027 : Nat := 0
noncomputable def PySem.W.Fast.tw14921629515697257005 : Nat := 0
noncomputable def PySem.W.Fast.tw1376259767101435362 : Nat := 0
noncomputable def PySem.W.Fast.tw17304979604306585881 : Nat := 0
noncomputable def PySem.W.Fast.tw3033122648108204655 : Nat := 0
noncomputable def PySem.W.Fast.tw9987086551774800133 : Nat := 0
noncomputable def PySem.W.Fast.tw9113744632261590491 : Nat := 0
noncomputable def PySem.W.Fast.tw7648470743186673871 : Nat := 0
open PySem PySem.W PyProof.Rows
set_option maxRecDepth 100000 in
set_option maxHeartbeats 0 in
theorem PySem.Challenge.cw_nearkinds_k62_weights_of_words_by_rule_holds : PySem.Challenge.rw_nearkinds_k62_weights_of_words_by_rule.Holds := by
  w_on; o_law; k_head; (case hw => w_witness2)
  k_fill
  refine' Mi.walkT (l := PySem.Challenge.rw_nearkinds_k62_weights_of_words_by_rule) (k := 7) (x := "_law_script") G.law_true rfl rfl ⟨rfl, by decide, by decide⟩ (fun w h Y => PySem.W.km_in_of Y) (fun w h Y => PySem.W.km_tabs_of Y _ (List.mem_cons_self ..)) ?ht ?hKP ?F
  case ht => exact fun p => by kernel_rfl
  case hKP => exact fun p => by kernel_rfl
  case F =>
    intro w mg fa h KX Gl hmg ht
    have T : G.Tx (L2.KOf KX) := by
      dsimp only [L2.KOf]
      refine' ⟨?d_is_whole, ?d_raised, ?d_count_lots, ?d__law_cell_at, ?d__law_take, ?d__law_same, ?d__law_due, ?d_is_whole_between, ?d__law_state, ?d_require_number, ?d_require_kind_to, ?d_words_weight, ?d__law_refused, ?d_law, ?n_ValueError, ?n_all, ?n_bool, ?n_int, ?n_isinstance, ?n_len, ?n_list, ?n_max, ?n_min, ?n_range, ?n_sum, ?n_tuple, ?n_zip, ?q_MOST_NUMBER_BY_RULE, ?q_MOST_SIGNS_BY_RULE, ?x_exc, ?x_top, ?x_row⟩
      (case d_is_whole => (refine' Mi.fd_mk ?a ?l ?c ?k; (case a => k_is); (case l => k_is); (case c => k_is); (case k => k_is)))
      (case d_raised => (refine' Mi.fd_mk ?a ?l ?c ?k; (case a => k_is); (case l => k_is); (case c => k_is); (case k => k_is)))
      (case d_count_lots => (refine' Mi.fd_mk ?a ?l ?c ?k; (case a => k_is); (case l => k_is); (case c => k_is); (case k => k_is)))
      (case d__law_cell_at => (refine' Mi.fd_mk ?a ?l ?c ?k; (case a => k_is); (case l => k_is); (case c => k_is); (case k => k_is)))
      (case d__law_take => (refine' Mi.fd_mk ?a ?l ?c ?k; (case a => k_is); (case l => k_is); (case c => k_is); (case k => k_is)))
      (case d__law_same => (refine' Mi.fd_mk ?a ?l ?c ?k; (case a => k_is); (case l => k_is); (case c => k_is); (case k => k_is)))
      (case d__law_due => (refine' Mi.fd_mk ?a ?l ?c ?k; (case a => k_is); (case l => k_is); (case c => k_is); (case k => k_is)))
      (case d_is_whole_between => (refine' Mi.fd_mk ?a ?l ?c ?k; (case a => k_is); (case l => k_is); (case c => k_is); (case k => k_is)))
      (case d__law_state => (refine' Mi.fd_mk ?a ?l ?c ?k; (case a => k_is); (case l => k_is); (case c => k_is); (case k => k_is)))
      (case d_require_number => (refine' Mi.fd_mk ?a ?l ?c ?k; (case a => k_is); (case l => k_is); (case c => k_is); (case k => k_is)))
      (case d_require_kind_to => (refine' Mi.fd_mk ?a ?l ?c ?k; (case a => k_is); (case l => k_is); (case c => k_is); (case k => k_is)))
      (case d_words_weight => (refine' Mi.fd_mk ?a ?l ?c ?k; (case a => k_is); (case l => k_is); (case c => k_is); (case k => k_is)))
      (case d__law_refused => (refine' Mi.fd_mk ?a ?l ?c ?k; (case a => k_is); (case l => k_is); (case c => k_is); (case k => k_is)))
      (case d_law => (refine' Mi.fd_mk ?a ?l ?c ?k; (case a => k_is); (case l => k_is); (case c => k_is); (case k => k_is)))
      (case n_ValueError => k_is)
      (case n_all => k_is)
      (case n_bool => k_is)
      (case n_int => k_is)
      (case n_isinstance => k_is)
      (case n_len => k_is)
      (case n_list => k_is)
      (case n_max => k_is)
      (case n_min => k_is)
      (case n_range => k_is)
      (case n_sum => k_is)
      (case n_tuple => k_is)
      (case n_zip => k_is)
      (case q_MOST_NUMBER_BY_RULE => (refine' Mi.cd_mk ?a; (case a => k_is)))
      (case q_MOST_SIGNS_BY_RULE => (refine' Mi.cd_mk ?a; (case a => k_is)))
      (case x_exc => kernel_rfl)
      (case x_top => kernel_rfl)
      (case x_row => kernel_rfl)
    exact G.all_mk KX Gl hmg T ht
