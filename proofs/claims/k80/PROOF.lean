import PyProof.Rows.All
import Wide.All
import OpenK.AllK
import Wide.FinOn
import Lean
import PyProof.EqAt
import PyProof.EqKinds
import PyProof.TupleCall
import OpenK.KOwn
import PyProof.Rows.FStr
import PyProof.FString
import PyProof.NsDelKeeps
import KE.KIsAll
import PyProof.ExcArgs
import KE.KLam
import KE.KNestM
import PyProof.Rows.SetFrom
import PyProof.ListMulRoad
import PySem.Challenge.RW_nearkinds_k80_tables_put_together
open PySem.W (Frag)
set_option Elab.async false
set_option linter.all false
set_option maxRecDepth 1000000
set_option maxHeartbeats 4000000
namespace L2
open PySem PySem.Spec PyProof.Rows
noncomputable abbrev Key := Sum Int Str
noncomputable def zi7 : Key -> Value -> Bool
 | .inl k, v => Value.isInt k v
 | .inr x, v => Value.isStrOf x v
noncomputable def keyH (w : World) : Key -> Int
 | .inl k => hashInt k
 | .inr x => hashStr w x
theorem zaV : ∀ {k : Key} {v : Value}, zi7 k v = true -> (∃ i t, k = Sum.inl i /\ v = Value.int i t) ∨ (∃ x t, k = Sum.inr x /\ v = Value.str x t)
 | .inl i, v, h => by
  obtain ⟨t, e⟩ := Value.isInt_shape (k := i) (v := v) h
  exact .inl ⟨i, t, rfl, e⟩
 | .inr x, v, h => by
  obtain ⟨t, e⟩ := Value.isStrOf_shape (x := x) (v := v) h
  exact .inr ⟨x, t, rfl, e⟩
theorem zju (i : Int) (t : Tok) : zi7 (.inl i) (.int i t) = true := by simp [zi7, Value.isInt]
theorem zjV (x : Str) (t : Tok) : zi7 (.inr x) (.str x t) = true := by simp [zi7, Value.isStrOf]
theorem zoH (a b : Int) : decide ((Sum.inl a : Key) = Sum.inl b) = (a == b) := by
 by_cases e : a = b
 ·subst e; simp
 ·have h : ¬ (Sum.inl a : Key) = Sum.inl b := λ q => e (Sum.inl.inj q)
  rw [decide_eq_false h]
  exact (beq_eq_false_iff_ne.mpr e).symm
theorem znK (a b : Str) : decide ((Sum.inr a : Key) = Sum.inr b) = decide (a = b) := by
 by_cases e : a = b
 ·subst e; simp
 ·have h : ¬ (Sum.inr a : Key) = Sum.inr b := λ q => e (Sum.inr.inj q)
  rw [decide_eq_false h, decide_eq_false e]
theorem zoj (a : Int) (b : Str) : decide ((Sum.inl a : Key) = Sum.inr b) = false := decide_eq_false (λ q => nomatch q)
theorem zn3 (a : Str) (b : Int) : decide ((Sum.inr a : Key) = Sum.inl b) = false := decide_eq_false (λ q => nomatch q)
noncomputable def zcn (prog : Program) (w : World) : PySem.KeyKind prog w Key where
 is := zi7
 hash := keyH w
 inj := λ v a b ha hb => by
  rcases zaV ha with ⟨i, t, rfl, rfl⟩ | ⟨x, t, rfl, rfl⟩
  ·rcases zaV hb with ⟨j, u, rfl, e⟩ | ⟨y, u, rfl, e⟩
   ·injection e with e1 _; rw [e1]
   ·exact nomatch e
  ·rcases zaV hb with ⟨j, u, rfl, e⟩ | ⟨y, u, rfl, e⟩
   ·exact nomatch e
   ·injection e with e1 _; rw [e1]
 byValue := λ k v h => by
  rcases zaV h with ⟨i, t, rfl, rfl⟩ | ⟨x, t, rfl, rfl⟩ <;> rfl
 pyHash := λ hv h => by
  rcases zaV hv with ⟨i, t, rfl, rfl⟩ | ⟨x, t, rfl, rfl⟩
  ·exact wpAny_pyHash_int h
  ·exact wpAny_pyHash_str h
 eqBool := λ hu hv h => by
  rcases zaV hu with ⟨i, t, rfl, rfl⟩ | ⟨x, t, rfl, rfl⟩
  ·rcases zaV hv with ⟨j, u, rfl, rfl⟩ | ⟨y, u, rfl, rfl⟩
   ·rw [zoH] at h; exact wpAny_eqBool_int h
   ·rw [zoj] at h; exact SeqAt.EqAt.int_str i t y u _ _ _ _ h
  ·rcases zaV hv with ⟨j, u, rfl, rfl⟩ | ⟨y, u, rfl, rfl⟩
   ·rw [zn3] at h; exact SeqAt.EqAt.str_int x t j u _ _ _ _ h
   ·rw [znK] at h; exact wpAny_eqBool_str h
 «strs» := λ k x t v h => by
  rcases zaV h with ⟨i, u, rfl, e⟩ | ⟨y, u, rfl, e⟩
  ·exact nomatch e
  ·injection e with e1 _
   subst e1
   cases v <;> rfl
theorem zhQ (prog : Program) (w : World) (i : Int) (t : Tok) : (zcn prog w).is (.inl i) (.int i t) = true := zju i t
theorem zhX (prog : Program) (w : World) (x : Str) (t : Tok) : (zcn prog w).is (.inr x) (.str x t) = true := zjV x t
end L2
namespace L2
open PySem PySem.Spec PyProof.Rows
inductive V where
 | non | bl (b : Bool) | int (i : Int) | str (x : Str) | byt (b : Array UInt8) | flt (b : UInt64) | ref (a : Addr) | ty (n : String)
 deriving DecidableEq
noncomputable def RelV : V -> Value -> Prop
 | .non, u => u = Value.none
 | .bl b, u => u = Value.bool b
 | .int i, u => ∃ t, u = Value.int i t
 | .str x, u => ∃ t, u = Value.str x t
 | .byt b, u => ∃ t, u = Value.bytes b t
 | .flt b, u => ∃ t, u = Value.float b t
 | .ref a, u => u = Value.ref a
 | .ty n, u => u = Value.type n
noncomputable abbrev Vals : List V -> List Value -> Prop := Paired RelV
theorem Vals.length {xs : List V} {us : List Value} (r : Vals xs us) : xs.length = us.length := Paired.length r
theorem Vals.get : ∀ {xs : List V} {us : List Value} {i : Nat} {x : V}, Vals xs us -> xs[i]? = some x -> ∃ u, us[i]? = some u /\ RelV x u
 | _, _, _, _, .nil, e => by simp at e
 | _, _, 0, _, .cons r _, e => by simp at e; subst e; exact ⟨_, rfl, r⟩
 | _, _, i + 1, x, .cons _ t, e => by
  obtain ⟨u, h1, h2⟩ := Vals.get (i := i) (x := x) t (by simpa using e)
  exact ⟨u, by simpa using h1, h2⟩
theorem Vals.set {x : V} {u : Value} (r : RelV x u) : ∀ {xs : List V} {us : List Value} (i : Nat), Vals xs us -> Vals (xs.set i x) (us.set i u)
 | _, _, _, .nil => .nil
 | _, _, 0, .cons _ t => .cons r t
 | _, _, i + 1, .cons q t => .cons q (Vals.set r i t)
theorem Vals.append : ∀ {xs ys : List V} {us ws : List Value}, Vals xs us -> Vals ys ws -> Vals (xs ++ ys) (us ++ ws)
 | _, _, _, _, .nil, s => s
 | _, _, _, _, .cons r t, s => .cons r (Vals.append t s)
theorem Vals.none_of : ∀ {xs : List V} {us : List Value} {i : Nat}, Vals xs us -> xs[i]? = none -> us[i]? = none := λ {xs us i} r e => by
 have h1 := r.length
 have h2 : xs.length <= i := List.getElem?_eq_none_iff.mp e
 exact List.getElem?_eq_none_iff.mpr (by omega)
noncomputable def RelO : Option V -> Option Value -> Prop
 | some v, some u => RelV v u
 | none, none => True
 | _, _ => False
noncomputable def KV {κ : Type} : List (κ × V) -> List (κ × Value) -> Prop := Paired λ (p : κ × V) (q : κ × Value) => p.1 = q.1 /\ RelV p.2 q.2
noncomputable def kV : Key -> V
 | .inl i => .int i
 | .inr x => .str x
inductive HO where
 | lst (xs : List V)
 | tup (xs : List V)
 | dK (kvs : List (Key × V)) | dT (kvs : List (List Key × V))
 | set (S : Int -> Bool) (n : Nat)
 | ins (C dx : Addr) (fs : List (Str × V))
 | own (x : Addr)
 | xd (fs : List (Str × V))
 | met (f x : Addr)
 | rng (lo hi : Int)
 | frz (o : Obj) (u : HO)
 | tbl (ps : Array Value)
 | ext (φ : Heap -> Prop)
noncomputable abbrev Hp := Addr -> Option HO
noncomputable def upd (H : Hp) (a : Addr) (o : HO) : Hp := λ b => if b = a then some o else H b
theorem zal {H : Hp} {a : Addr} {o : HO} : upd H a o a = some o := by unfold upd; rw [if_pos rfl]
theorem zP {H : Hp} {a b : Addr} {o : HO} (h : b ≠ a) : upd H a o b = H b := by unfold upd; rw [if_neg h]
theorem zka {H : Hp} {a b : Addr} {o u : HO} (h : H a = some o) (h' : H b = some u) (d : o ≠ u) : a ≠ b := by
 intro e; subst e; rw [h] at h'; exact d (Option.some.inj h')
theorem zau {H : Hp} {a b : Addr} {o : HO} (h : H a = some o) (h' : H b = none) : a ≠ b := by
 intro e; subst e; rw [h] at h'; cases h'
noncomputable def zei (h : Heap) (a : Addr) (items : Array Value) : Prop := ∃ o, h.get? a = some o /\ (o.cls = .type "tuple" /\ o.dict = none) /\ ∃ n, o.data = .seq items n
theorem zei.tup {h : Heap} {a : Addr} {items : Array Value} (x : zei h a items) : IsTup h a items := let ⟨o, e, c, d⟩ := x; ⟨o, e, c.1, d⟩
theorem zei.new (h : Heap) (items : Array Value) : zei (h.push { cls := .type "tuple", data := .seq items }) h.objs.size items := ⟨_, Heap.get?_push_size h rfl, ⟨rfl, rfl⟩, 0, rfl⟩
section
variable (P : Program) (w : World)
noncomputable def zZ (H : Hp) (h : Heap) (a : Addr) : HO -> Prop
 | .lst xs => xs.length <= sizeLine /\ ∃ (its : List Value) (n : Nat), Vals xs its /\ h.get? a = some { cls := .type "list", data := .seq its.toArray n }
 | .tup xs => xs.length <= sizeLine /\ ∃ its : List Value, Vals xs its /\ zei h a its.toArray
 | .dK kvs => kvs.length <= sizeLine /\ (a == sysModules) = false /\ ∃ vs, KV kvs vs /\ h.DictOf (zcn P w) a vs
 | .dT kvs => kvs.length <= sizeLine /\ (a == sysModules) = false /\ ∃ xs : List (List Key × Addr × Value),
   Paired (λ (p : List Key × V) (q : List Key × Addr × Value) => p.1 = q.1 /\ H q.2.1 = some (.tup (p.1.map kV)) /\ RelV p.2 q.2.2) kvs xs /\
   ∃ o es ep, h.get? a = some o /\ o.ExactDict /\ o.data = .dict es ep /\ es.toList = xs.map (entryOfKey (tupleKind (zcn P w))) /\ (xs.map (·.1)).Nodup
 | .set S n => h.SetOf (intKind P w) a S n
 | .ins C dx fs => H dx = some (.own a) /\ fs.length <= 1000 /\ dx ≠ a /\ h.get? a = some (PySem.W.instObj C dx) /\
   ∃ mA, h.Ns1 dx mA /\ (∀ f, RelO (fs.lookup f) (mA f)) /\ PySem.Within mA (fs.map (·.1))
 | .own _ => ∃ o, h.get? a = some o
 | .xd fs => ∃ mA, h.Ns1 a mA /\ ∀ f, RelO (fs.lookup f) (mA f)
 | .rng lo hi => ∃ t u v, h.get? a = some { cls := .type "range", data := .fields #[.int lo t, .int hi u, .int 1 v] }
 | .frz o u => h.get? a = some o /\ zZ H h a u
 | .tbl ps => h.get? a = some { cls := .none, data := .fields ps }
 | .met f x => h.get? a = some (PySem.W.methodObj (.ref f) (.ref x))
 | .ext φ => φ h /\ (∃ o, h.get? a = some o) /\ ∀ h1 h2 : Heap, φ h1 -> (∀ o, h1.get? a = some o -> h2.get? a = some o) -> φ h2
noncomputable def HOk (H : Hp) (h : Heap) : Prop := ∀ a o, H a = some o -> zZ P w H h a o
end
section
variable {P : Program} {w : World} {H H' : Hp} {h h' : Heap} {a : Addr} {o : HO}
theorem zZ.lt (x : zZ P w H h a o) : a < h.objs.size := by
 cases o with
 | lst xs => obtain ⟨_, _, _, _, e⟩ := x; exact Heap.lt_size e
 | tup xs => obtain ⟨_, _, _, p⟩ := x; exact p.tup.lt
 | dK kvs => obtain ⟨_, _, _, _, o, _, _, e, _⟩ := x; exact Heap.lt_size e
 | dT kvs => obtain ⟨_, _, _, _, o, _, _, e, _⟩ := x; exact Heap.lt_size e
 | set S n => obtain ⟨o, _, _, _, e, _⟩ := x; exact Heap.lt_size e
 | ins C dx fs => obtain ⟨_, _, _, e, _⟩ := x; exact Heap.lt_size e
 | own y => obtain ⟨_, e⟩ := x; exact Heap.lt_size e
 | xd fs => obtain ⟨_, ⟨_, _, _, e, _⟩, _⟩ := x; exact Heap.lt_size e
 | rng lo hi => obtain ⟨_, _, _, e⟩ := x; exact Heap.lt_size e
 | frz ob u => obtain ⟨e, _⟩ := x; exact Heap.lt_size e
 | tbl ps => exact Heap.lt_size (show h.get? a = some _ from x)
 | met f y => exact Heap.lt_size (show h.get? a = some _ from x)
 | ext φ => obtain ⟨_, ⟨_, e⟩, _⟩ := x; exact Heap.lt_size e
theorem Paired.mapP {α β : Type} {F G : α -> β -> Prop} : ∀ {l₁ : List α} {l₂ : List β}, Paired F l₁ l₂ -> (∀ a b, F a b -> G a b) -> Paired G l₁ l₂
 | _, _, .nil, _ => .nil
 | _, _, .cons r t, f => .cons (f _ _ r) (Paired.mapP t f)
theorem zZ.stay (x : zZ P w H h a o) (k : ∀ b u, (b = a ∨ H b = some (.own a)) -> h.get? b = some u -> h'.get? b = some u)
  (ho : ∀ b, H b = some (.own a) -> H' b = some (.own a)) (ht : ∀ b xs, H b = some (.tup xs) -> H' b = some (.tup xs)) : zZ P w H' h' a o := by
 induction o with
 | lst xs => obtain ⟨z, its, n, r, e⟩ := x; exact ⟨z, its, n, r, k _ _ (.inl rfl) e⟩
 | tup xs => obtain ⟨z, its, r, ob, e, c⟩ := x; exact ⟨z, its, r, ob, k _ _ (.inl rfl) e, c⟩
 | dK kvs => obtain ⟨z, y, vs, r, ob, es, ep, e, c⟩ := x; exact ⟨z, y, vs, r, ob, es, ep, k _ _ (.inl rfl) e, c⟩
 | dT kvs =>
  obtain ⟨z, y, xs, r, ob, es, ep, e, c⟩ := x
  exact ⟨z, y, xs, Paired.mapP r λ p q z => ⟨z.1, ht _ _ z.2.1, z.2.2⟩, ob, es, ep, k _ _ (.inl rfl) e, c⟩
 | set S n => obtain ⟨ob, es, ep, t, e, c⟩ := x; exact ⟨ob, es, ep, t, k _ _ (.inl rfl) e, c⟩
 | ins C dx fs =>
  obtain ⟨d, z, ne, e, mA, ⟨od, es, ep, e2, c⟩, r⟩ := x
  exact ⟨ho _ d, z, ne, k _ _ (.inl rfl) e, mA, ⟨od, es, ep, k _ _ (.inr d) e2, c⟩, r⟩
 | own y => obtain ⟨ob, e⟩ := x; exact ⟨ob, k _ _ (.inl rfl) e⟩
 | xd fs => obtain ⟨mA, ⟨od, es, ep, e, c⟩, r⟩ := x; exact ⟨mA, ⟨od, es, ep, k _ _ (.inl rfl) e, c⟩, r⟩
 | rng lo hi => obtain ⟨t, u, v, e⟩ := x; exact ⟨t, u, v, k _ _ (.inl rfl) e⟩
 | frz ob u ih => obtain ⟨e, q⟩ := x; exact ⟨k _ _ (.inl rfl) e, ih q⟩
 | tbl ps =>
  have e : h.get? a = some { cls := .none, data := .fields ps } := x
  show h'.get? a = some { cls := .none, data := .fields ps }
  exact k a _ (.inl rfl) e
 | met f y =>
  have e : h.get? a = some (PySem.W.methodObj (.ref f) (.ref y)) := x
  show h'.get? a = some (PySem.W.methodObj (.ref f) (.ref y))
  exact k a _ (.inl rfl) e
 | ext φ => obtain ⟨p, ⟨o, e⟩, st⟩ := x; exact ⟨st _ _ p λ o q => k _ _ (.inl rfl) q, ⟨o, k _ _ (.inl rfl) e⟩, st⟩
theorem HOk.lt (x : HOk P w H h) (e : H a = some o) : a < h.objs.size := (x a o e).lt
theorem HOk.fresh (x : HOk P w H h) (e : h.objs.size <= a) : H a = none := by
 cases q : H a with
 | none => rfl
 | some u => exact absurd (Nat.lt_of_lt_of_le (x.lt q) e) (Nat.lt_irrefl _)
theorem HOk.kept (x : HOk P w H h) (k : ∀ b u, h.get? b = some u -> h'.get? b = some u) : HOk P w H h' := λ a o e =>
 (x a o e).stay (λ b u _ q => k b u q) (λ _ q => q) λ _ _ q => q
theorem HOk.laid (x : HOk P w H h) (k : ∀ b u, h.get? b = some u -> h'.get? b = some u) (hp : h.objs.size <= a) (new : zZ P w (upd H a o) h' a o) : HOk P w (upd H a o) h' := λ b u e => by
 have hn := x.fresh hp
 by_cases hb : b = a
 ·subst hb; rw [zal] at e; cases e; exact new
 ·rw [zP hb] at e
  exact (x b u e).stay (λ c v _ q => k c v q) (λ c q => by rw [zP (zau q hn)]; exact q) λ c xs q => by rw [zP (zau q hn)]; exact q
end
noncomputable def Rd (H : Hp) (a : Addr) (u : HO) : Prop := H a = some u ∨ ∃ o, H a = some (.frz o u)
theorem Rd.ok {P : Program} {w : World} {H : Hp} {h : Heap} {a : Addr} {u : HO} (r : Rd H a u) (x : HOk P w H h) : zZ P w H h a u := by
 rcases r with r | ⟨o, r⟩
 ·exact x a u r
 ·obtain ⟨_, q⟩ := x a _ r
  exact q
noncomputable def Mut : Option HO -> Prop
 | some (.lst _) => True
 | some (.dK _) => True
 | some (.dT _) => True
 | some (.set _ _) => True
 | some (.ins _ _ _) => True
 | some (.ext _) => True
 | _ => False
section
variable {P : Program} {w : World} {H : Hp} {h h' : Heap} {x e : Addr} {o' : HO}
theorem HOk.write (ok : HOk P w H h) (mu : Mut (H x)) (he : e = x ∨ H e = some (.own x)) (k : ∀ b u, b ≠ e -> h.get? b = some u -> h'.get? b = some u) (heo : ∃ u, h'.get? e = some u)
  (new : zZ P w (upd H x o') h' x o') : HOk P w (upd H x o') h' := λ b u q => by
 have nown : ∀ c y, H c = some (.own y) -> c ≠ x := λ c y r z => by subst z; rw [r] at mu; exact mu
 have ntup : ∀ c xs, H c = some (.tup xs) -> c ≠ x := λ c xs r z => by subst z; rw [r] at mu; exact mu
 by_cases hb : b = x
 ·subst hb; rw [zal] at q; cases q; exact new
 ·rw [zP hb] at q
  by_cases hbe : b = e
  ·have q' : H b = some (.own x) := by
    rcases he with z | z
    ·exact absurd (hbe.trans z) hb
    ·rw [hbe]; exact z
   rw [q] at q'; cases q'
   obtain ⟨v, hv⟩ := heo
   exact ⟨v, by rw [hbe]; exact hv⟩
  ·refine (ok b u q).stay (λ c v hc r => k c v ?_ r) (λ c r => by rw [zP (nown c b r)]; exact r) λ c xs r => by rw [zP (ntup c xs r)]; exact r
   rcases hc with rfl | hc
   ·exact hbe
   ·rintro rfl
    rcases he with z | z
    ·exact nown c b hc z
    ·rw [hc] at z; cases z; exact hb rfl
end
structure Un (fs ex : List Addr) (H H' : Hp) (h h' : Heap) : Prop where
 keep : ∀ b o, h.get? b = some o -> H b = none -> b ∉ fs -> b ∉ ex -> h'.get? b = some o
 slot : ∀ b o, h.get? b = some o -> H b = none -> b ∈ fs -> b ∉ ex -> ∃ sl, h'.get? b = some { o with slots := sl }
 free : ∀ b o, h.get? b = some o -> H b = none -> b ∉ ex -> H' b = none
 there : ∀ b o, h.get? b = some o -> b ∉ ex -> ∃ o', h'.get? b = some o'
 tups : ∀ b xs, H b = some (.tup xs) -> H' b = some (.tup xs)
 frzs : ∀ b o u, H b = some (.frz o u) -> H' b = some (.frz o u)
 tbls : ∀ b ps, H b = some (.tbl ps) -> ∃ more, H' b = some (.tbl (ps ++ more))
section
variable {fs fs' ex ex' : List Addr} {H H1 H2 : Hp} {h h1 h2 h' : Heap} {a x e : Addr} {o : HO}
theorem Un.any (u : Un fs ex H H1 h h1) {b : Addr} {ob : Obj} (q : h.get? b = some ob) (n : H b = none) (hx : b ∉ ex) : ∃ sl, h1.get? b = some { ob with slots := sl } := by
 by_cases hb : b ∈ fs
 ·exact u.slot b ob q n hb hx
 ·exact ⟨ob.slots, u.keep b ob q n hb hx⟩
theorem Un.kept (k : ∀ b u, h.get? b = some u -> h'.get? b = some u) : Un fs ex H H h h' :=
 ⟨λ b ob q _ _ _ => k b ob q, λ b ob q _ _ _ => ⟨ob.slots, k b ob q⟩, λ _ _ _ n _ => n, λ b ob q _ => ⟨ob, k b ob q⟩, λ _ _ q => q, λ _ _ _ q => q, λ _ ps q => ⟨#[], by rw [q]; simp⟩⟩
theorem Un.refl : Un fs ex H H h h := Un.kept λ _ _ q => q
theorem Un.laid (k : ∀ b u, h.get? b = some u -> h'.get? b = some u) (hp : h.objs.size <= a) (hn : H a = none) : Un fs ex H (upd H a o) h h' where
 keep := λ b u q _ _ _ => k b u q
 slot := λ b u q _ _ _ => ⟨u.slots, k b u q⟩
 free := λ b u q n _ => by rw [zP (Nat.ne_of_lt (Nat.lt_of_lt_of_le (Heap.lt_size q) hp))]; exact n
 there := λ b u q _ => ⟨u, k b u q⟩
 tups := λ b xs q => by rw [zP (zau q hn)]; exact q
 frzs := λ b u xs q => by rw [zP (zau q hn)]; exact q
 tbls := λ b ps q => ⟨#[], by rw [zP (zau q hn), q]; simp⟩
theorem Un.write (mu : Mut (H x)) (he : e = x ∨ H e = some (.own x)) (k : ∀ b u, b ≠ e -> h.get? b = some u -> h'.get? b = some u) (heo : ∃ u, h'.get? e = some u) : Un fs ex H (upd H x o) h h' := by
 have hx : ∀ b, H b = none -> b ≠ x := λ b n z => by subst z; rw [n] at mu; exact mu
 have hb : ∀ b, H b = none -> b ≠ e := λ b n z => by
  subst z
  rcases he with r | r
  ·exact hx b n r
  ·rw [n] at r; cases r
 have hm : ∀ b u, H b = some u -> ¬ Mut (some u) -> b ≠ x := λ b u q nm z => by subst z; rw [q] at mu; exact nm mu
 refine ⟨λ b u q n _ _ => k b u (hb b n) q, λ b u q n _ _ => ⟨u.slots, k b u (hb b n) q⟩, λ b u q n _ => by rw [zP (hx b n)]; exact n, λ b u q _ => ?_,
  λ b xs q => by rw [zP (hm b _ q λ z => z)]; exact q, λ b u xs q => by rw [zP (hm b _ q λ z => z)]; exact q, λ b ps q => ⟨#[], by rw [zP (hm b _ q λ z => z), q]; simp⟩⟩
 by_cases hbe : b = e
 ·subst hbe; exact heo
 ·exact ⟨u, k b u hbe q⟩
end
noncomputable def trk (h : Heap) (H : Hp) : List Addr := (List.range h.objs.size).filter λ a => (H a).isSome
noncomputable def hidT (h : Heap) (H : Hp) : Heap := PySem.W.hideAll h (trk h H)
theorem zkd (h : Heap) (H : Hp) : (hidT h H).objs.size = h.objs.size := PySem.W.hideAll_size _ _
theorem zk0 {h : Heap} {H : Hp} {b : Addr} {o : Obj} (e : h.get? b = some o) (n : H b = none) : (hidT h H).get? b = some o :=
 PySem.W.hideAll_get _ e λ hm => by
  have q : (H b).isSome = true := (List.mem_filter.mp hm).2
  rw [n] at q; simp at q
theorem zmp {h : Heap} {H : Hp} {b : Addr} {o : Obj} (e : (hidT h H).get? b = some o) : h.get? b = some o /\ H b = none := by
 have e' : h.get? b = some o := PySem.W.of_hideAll (trk h H) e
 refine ⟨e', ?_⟩
 cases q : H b with
 | none => rfl
 | some x =>
  have hm : b ∈ trk h H := List.mem_filter.mpr ⟨List.mem_range.mpr (Heap.lt_size e'), by simp [q]⟩
  have z : (hidT h H).get? b = none := PySem.W.hideAll_none (trk h H) hm
  rw [z] at e; cases e
end L2
namespace L2
open PySem PySem.Spec PyProof.Rows
structure Mod (K : Frag) (mg : Str -> Option Value) (base : Heap) : Prop where
 kin : K.In base
 glob : base.Ns mainGlobals mg
 blt : ∃ mb, base.Ns builtinsNs mb /\ ∀ x : Str, x ≠ "__name__" -> mb x = bootBuiltins x
 nolimit : base.NoLimit
structure Cx where
 prog : Program
 w : World
 K : Frag
 mg : Str -> Option Value
 base : Heap
 A : Around
 N : List Str
 s0 : Shared
 H0 : Hp
 env : Env
 outer : List Env
 stack : List Env
 ex : List Addr
 fn : Str -> Bool
 calm : Bool
 pn : List (Addr × Obj)
 xe : Value -> Shared -> Prop
noncomputable def frs (l : List Env) : List Addr := l.filterMap (·.frame)
noncomputable abbrev Cx.fs (X : Cx) : List Addr := frs X.outer
noncomputable def Vis (sc : Scope) (x : Str) : Prop := sc.names.lookup x = some .local ∨ sc.names.lookup x = some .cell ∨ sc.names.lookup x = some .free
noncomputable def Loc (sc : Scope) (x : Str) : Prop := sc.names.lookup x = some .local ∨ sc.names.lookup x = some .cell
noncomputable def Look (env : Env) (h : Heap) (m : Str -> Option Value) (x : Str) (u : Value) : Prop :=
 (env.kindOf x = some .local /\ m x = some u) ∨ ((env.kindOf x = some .cell ∨ env.kindOf x = some .free) /\ ∃ c, env.cells.lookup x = some c /\ h.IsCell c (some u))
structure Cx.Ok (X : Cx) : Prop where
 mod : Mod X.K X.mg X.base
 kind : X.env.scope.kind = .function
 glob : X.env.globals = mainGlobals
 blt : X.env.builtins = builtinsNs
 above : X.s0.heap.objs.size <= X.env.locals
 inj : ∀ x y c, X.env.cells.lookup x = some c -> X.env.cells.lookup y = some c -> x = y
 has : ∀ x, (X.env.kindOf x = some .cell ∨ X.env.kindOf x = some .free) -> ∃ c, X.env.cells.lookup x = some c
 cab : ∀ x c, X.fn x = true -> X.env.cells.lookup x = some c -> X.s0.heap.objs.size <= c
 hd : X.calm = true -> X.A.handled = none
 frames : X.A.frames = some X.stack
 stk : X.stack = X.outer ∨ (X.stack = X.env :: X.outer /\ X.env.frame = some X.env.locals)
 exf : ∀ b ∈ X.ex, b ≠ X.env.locals /\ ∀ x c, X.env.cells.lookup x = some c -> c ≠ b
 bs : ∀ b o, X.base.get? b = some o -> X.s0.heap.get? b = some o /\ X.H0 b = none
 bsz : X.base.objs.size <= X.s0.heap.objs.size
 noex : ∀ b o, X.base.get? b = some o -> b ∉ X.ex
 exfs : ∀ b ∈ X.ex, b ∉ X.fs
 funs : X.s0.heap.FunFrames X.base X.outer
 frf : ∀ b ∈ X.fs, X.H0 b = none
structure Inv (X : Cx) (pins : List (Addr × Obj)) (σ : List (Option V)) (H : Hp) (s : Shared) : Prop where
 ok : X.Ok
 os : s.os = X.s0.os
 bare : AllBare s.gens
 base : Un X.fs X.ex X.H0 H X.s0.heap s.heap
 loc : ∃ m, s.heap.Ns X.env.locals m /\ ∀ (i : Nat) (x : Str) (v : V), X.N[i]? = some x -> σ[i]? = some (some v) -> Vis X.env.scope x -> ∃ u, RelV v u /\ Look X.env s.heap m x u
 cell : ∀ x c, X.env.cells.lookup x = some c -> ∃ v, s.heap.IsCell c v
 free : H X.env.locals = none
 freeC : ∀ x c, X.env.cells.lookup x = some c -> H c = none
 pin : ∀ p ∈ X.pn ++ pins, s.heap.get? p.1 = some p.2 /\ H p.1 = none /\ p.1 ≠ X.env.locals /\ p.1 ∉ X.fs /\ ∀ v, p.2.data ≠ .cell v
 hok : HOk X.prog X.w H s.heap
 len : σ.length = X.N.length
section
variable {X : Cx} {pins : List (Addr × Obj)} {σ : List (Option V)} {H H' : Hp} {s : Shared} {h' : Heap}
theorem Cx.Ok.nofr (ok : X.Ok) {b : Addr} {o : Obj} (e : X.base.get? b = some o) : b ∉ X.fs := λ hb => by
 have := (ok.funs.mem hb).1
 rw [e] at this; cases this
theorem Inv.bs (I : Inv X pins σ H s) : ∀ b o, X.base.get? b = some o -> s.heap.get? b = some o /\ H b = none := λ b o e =>
 ⟨I.base.keep b o (I.ok.bs b o e).1 (I.ok.bs b o e).2 (I.ok.nofr e) (I.ok.noex b o e), I.base.free b o (I.ok.bs b o e).1 (I.ok.bs b o e).2 (I.ok.noex b o e)⟩
theorem Inv.bk (I : Inv X pins σ H s) : ∀ b o, X.base.get? b = some o -> s.heap.get? b = some o := λ b o e => (I.bs b o e).1
theorem Inv.mod (I : Inv X pins σ H s) : Mod X.K X.mg X.base := I.ok.mod
theorem Inv.kIn (I : Inv X pins σ H s) : X.K.In s.heap := I.ok.mod.kin.keeps I.bk
theorem Inv.lt (I : Inv X pins σ H s) : X.env.locals < s.heap.objs.size := let ⟨_, hn, _⟩ := I.loc; hn.lt
theorem Inv.sz (I : Inv X pins σ H s) : X.s0.heap.objs.size <= s.heap.objs.size := Nat.le_trans I.ok.above (Nat.le_of_lt I.lt)
theorem Inv.nofs (I : Inv X pins σ H s) {a : Addr} (h : s.heap.objs.size <= a) : a ∉ X.fs := λ hb => by
 obtain ⟨_, o, ho, _⟩ := I.ok.funs.mem hb
 exact absurd (Nat.lt_of_lt_of_le (Heap.lt_size ho) (Nat.le_trans I.sz h)) (Nat.lt_irrefl _)
theorem Inv.cne (I : Inv X pins σ H s) : ∀ x c, X.env.cells.lookup x = some c -> c ≠ X.env.locals := λ x c e z => by
 obtain ⟨v, o, ho, hd⟩ := I.cell x c e
 obtain ⟨m, ⟨o', es, ep, ho', hd', _⟩, _⟩ := I.loc
 rw [z, ho'] at ho; cases ho; rw [hd'] at hd; cases hd
theorem Inv.funs (I : Inv X pins σ H s) : s.heap.FunFrames X.base X.outer := by
 have all : ∀ (l : List Env), (∀ b ∈ frs l, b ∈ X.fs) -> X.s0.heap.FunFrames X.base l -> s.heap.FunFrames X.base l := by
  intro l
  induction l with
  | nil => intro _ _; trivial
  | cons env r ih =>
   intro hs hl
   obtain ⟨hk, ⟨L, o, hf, hn, ho, hd⟩, hr⟩ := hl
   have hL : L ∈ X.fs := hs L (by unfold frs; rw [List.filterMap_cons, hf]; exact List.mem_cons_self)
   obtain ⟨sl, e⟩ := I.base.slot L o ho (I.ok.frf L hL) hL λ z => I.ok.exfs L z hL
   exact ⟨hk, ⟨L, _, hf, hn, e, hd⟩, ih (λ b hb => hs b (by unfold frs; rw [List.filterMap_cons, hf]; exact List.mem_cons_of_mem _ hb)) hr⟩
 exact all X.outer (λ _ hb => hb) I.ok.funs
theorem Inv.stack (I : Inv X pins σ H s) : s.heap.FunFrames X.base X.stack := by
 rcases I.ok.stk with e | ⟨e, hf⟩
 ·rw [e]; exact I.funs
 ·rw [e]
  obtain ⟨m, hn, _⟩ := I.loc
  refine .cons (by rw [I.ok.kind]; decide) hf hn ?_ I.funs
  exact Heap.get?_none_of_le (Nat.le_trans I.ok.bsz I.ok.above)
theorem Inv.stkSub (I : Inv X pins σ H s) : ∀ b ∈ frs X.stack, b ∈ X.env.locals :: X.fs := λ b hb => by
 rcases I.ok.stk with e | ⟨e, hf⟩
 ·rw [e] at hb; exact List.mem_cons_of_mem _ hb
 ·rw [e] at hb
  unfold frs at hb
  rw [List.filterMap_cons, hf] at hb
  exact hb
theorem Inv.stkFree (I : Inv X pins σ H s) : ∀ b ∈ frs X.stack, H b = none := λ b hb => by
 rcases List.mem_cons.mp (I.stkSub b hb) with e | hb
 ·rw [e]; exact I.free
 ·obtain ⟨_, o, ho, _⟩ := I.ok.funs.mem hb
  exact I.base.free b o ho (I.ok.frf b hb) λ z => I.ok.exfs b z hb
theorem Inv.step {g' : Array GenState} {t' : Nat} {d' : Drawn} {ch : List Addr} (I : Inv X pins σ H s)
  (hch : ∀ b ∈ ch, (b ∈ X.ex ∨ X.s0.heap.objs.size <= b) /\ b ≠ X.env.locals /\ (∀ x c, X.env.cells.lookup x = some c -> c ≠ b) /\ ∀ p ∈ X.pn ++ pins, p.1 ≠ b)
  (keep : ∀ b o, b ≠ X.env.locals -> b ∉ X.fs -> b ∉ ch -> s.heap.get? b = some o -> H b = none -> h'.get? b = some o)
  (slot : ∀ b o, b ≠ X.env.locals -> b ∈ X.fs -> b ∉ ch -> s.heap.get? b = some o -> H b = none -> ∃ sl, h'.get? b = some { o with slots := sl }) (free : ∀ b o, b ∉ ch -> s.heap.get? b = some o -> H b = none -> H' b = none)
  (there : ∀ b o, b ∉ ch -> s.heap.get? b = some o -> ∃ o', h'.get? b = some o')
  (tups : ∀ b xs, H b = some (.tup xs) -> H' b = some (.tup xs)) (frzs : ∀ b o u, H b = some (.frz o u) -> H' b = some (.frz o u)) (tbls : ∀ b ps, H b = some (.tbl ps) -> ∃ more, H' b = some (.tbl (ps ++ more)))
  (ns : ∀ m, s.heap.Ns X.env.locals m -> h'.Ns X.env.locals m) (hok : HOk X.prog X.w H' h') (hg : AllBare g') :
  Inv X pins σ H' { s with heap := h', gens := g', drawn := d', toks := t' } := by
 have neL : ∀ b o, X.s0.heap.get? b = some o -> b ≠ X.env.locals := λ b o e => Nat.ne_of_lt (Nat.lt_of_lt_of_le (Heap.lt_size e) I.ok.above)
 have neC : ∀ b o, X.s0.heap.get? b = some o -> b ∉ X.ex -> b ∉ ch := λ b o e hx hb => by
  rcases (hch b hb).1 with z | z
  ·exact hx z
  ·exact absurd (Nat.lt_of_lt_of_le (Heap.lt_size e) z) (Nat.lt_irrefl _)
 have cellK : ∀ x c, X.env.cells.lookup x = some c -> ∀ v, s.heap.IsCell c v -> h'.IsCell c v := λ x c e v ⟨o, ho, hd⟩ => by
  have nch : c ∉ ch := λ z => (hch c z).2.2.1 x c e rfl
  by_cases hc : c ∈ X.fs
  ·obtain ⟨sl, q⟩ := slot c o (I.cne x c e) hc nch ho (I.freeC x c e)
   exact ⟨_, q, hd⟩
  ·exact ⟨o, keep c o (I.cne x c e) hc nch ho (I.freeC x c e), hd⟩
 refine ⟨I.ok, I.os, hg, ⟨λ b o e n hb hx => ?_, λ b o e n hb hx => ?_, λ b o e n hx => ?_, λ b o e hx => ?_, λ b xs e => tups b xs (I.base.tups b xs e), λ b o xs e => frzs b o xs (I.base.frzs b o xs e), λ b ps e => ?_⟩, ?_, λ x c e => ?_, ?_, λ x c e => ?_, λ p hp => ?_, hok, I.len⟩
 ·exact keep b o (neL b o e) hb (neC b o e hx) (I.base.keep b o e n hb hx) (I.base.free b o e n hx)
 ·obtain ⟨sl, e1⟩ := I.base.slot b o e n hb hx
  obtain ⟨sl', e2⟩ := slot b _ (neL b o e) hb (neC b o e hx) e1 (I.base.free b o e n hx)
  exact ⟨sl', e2⟩
 ·obtain ⟨o', e1⟩ := I.base.there b o e hx
  exact free b o' (neC b o e hx) e1 (I.base.free b o e n hx)
 ·obtain ⟨o', e1⟩ := I.base.there b o e hx
  exact there b o' (neC b o e hx) e1
 ·obtain ⟨m1, e1⟩ := I.base.tbls b ps e
  obtain ⟨m2, e2⟩ := tbls b _ e1
  exact ⟨m1 ++ m2, by rw [e2, Array.append_assoc]⟩
 ·obtain ⟨m, hn, hl⟩ := I.loc
  refine ⟨m, ns m hn, λ i x v e1 e2 e3 => ?_⟩
  obtain ⟨u, r, l⟩ := hl i x v e1 e2 e3
  refine ⟨u, r, ?_⟩
  rcases l with l | ⟨k, c, e, z⟩
  ·exact .inl l
  ·exact .inr ⟨k, c, e, cellK x c e _ z⟩
 ·obtain ⟨v, z⟩ := I.cell x c e
  exact ⟨v, cellK x c e v z⟩
 ·obtain ⟨m, ⟨o, _, _, ho, _⟩, _⟩ := I.loc
  exact free _ o (λ z => (hch _ z).2.1 rfl) ho I.free
 ·obtain ⟨v, o, ho, hd⟩ := I.cell x c e
  exact free c o (λ z => (hch c z).2.2.1 x c e rfl) ho (I.freeC x c e)
 ·obtain ⟨e, n, ne, nf, d⟩ := I.pin p hp
  have nch : p.1 ∉ ch := λ z => (hch p.1 z).2.2.2 p hp rfl
  exact ⟨keep p.1 p.2 ne nf nch e n, free p.1 p.2 nch e n, ne, nf, d⟩
theorem Inv.un {t' : Nat} (I : Inv X pins σ H s) (u : Un X.fs [] H H' s.heap h') (hok : HOk X.prog X.w H' h') : Inv X pins σ H' { s with heap := h', toks := t' } := by
 obtain ⟨m, ⟨o, es, ep, ho, r⟩, _⟩ := id I.loc
 obtain ⟨sl, hL⟩ := u.any ho I.free (by simp)
 exact I.step (g' := s.gens) (d' := s.drawn) (ch := []) (λ _ z => nomatch z) (λ b o _ hb _ e n => u.keep b o e n hb (by simp)) (λ b o _ hb _ e n => u.slot b o e n hb (by simp)) (λ b o _ e n => u.free b o e n (by simp)) (λ b o _ e => u.there b o e (by simp)) u.tups u.frzs u.tbls (λ m' hm => by
  obtain ⟨o', es', ep', ho', r'⟩ := hm
  rw [ho] at ho'; cases ho'
  exact ⟨_, es', ep', hL, r'⟩) hok I.bare
theorem Inv.call {g' : Array GenState} {t' : Nat} {d' : Drawn} {ch : List Addr} (I : Inv X pins σ H s) (u : Un (frs X.stack) ch H H' s.heap h') (hok : HOk X.prog X.w H' h') (hg : AllBare g')
  (hch : ∀ b ∈ ch, (b ∈ X.ex ∨ X.s0.heap.objs.size <= b) /\ b ≠ X.env.locals /\ (∀ x c, X.env.cells.lookup x = some c -> c ≠ b) /\ ∀ p ∈ X.pn ++ pins, p.1 ≠ b) :
  Inv X pins σ H' { s with heap := h', gens := g', drawn := d', toks := t' } := by
 obtain ⟨m, ⟨o, es, ep, ho, r⟩, _⟩ := id I.loc
 obtain ⟨sl, hL⟩ := u.any ho I.free λ z => (hch _ z).2.1 rfl
 exact I.step (ch := ch) hch (λ b o hL hb hc e n => u.keep b o e n (λ z => (List.mem_cons.mp (I.stkSub b z)).elim hL hb) hc) (λ b o _ _ hc e n => u.any e n hc) (λ b o hc e n => u.free b o e n hc) (λ b o hc e => u.there b o e hc) u.tups u.frzs u.tbls (λ m' hm => by
  obtain ⟨o', es', ep', ho', r'⟩ := hm
  rw [ho] at ho'; cases ho'
  exact ⟨_, es', ep', hL, r'⟩) hok hg
theorem Inv.turned {t' : Nat} {it : Addr} (I : Inv X pins σ H s) (k : ∀ b o, b ≠ it -> s.heap.get? b = some o -> h'.get? b = some o) (hn : H it = none) (hL : it ≠ X.env.locals)
  (h1 : it ∈ X.ex ∨ X.s0.heap.objs.size <= it) (h2 : ∀ x c, X.env.cells.lookup x = some c -> c ≠ it) (h3 : ∀ p ∈ X.pn ++ pins, p.1 ≠ it) : Inv X pins σ H { s with heap := h', toks := t' } := by
 have nit : ∀ b u, H b = some u -> b ≠ it := λ b u e z => by rw [z, hn] at e; cases e
 refine I.step (g' := s.gens) (d' := s.drawn) (ch := [it]) (λ b hb => ?_) (λ b o _ _ hc e _ => k b o (λ z => hc (by simp [z])) e) (λ b o _ _ hc e _ => ⟨o.slots, k b o (λ z => hc (by simp [z])) e⟩) (λ _ _ _ _ n => n)
  (λ b o hc e => ⟨o, k b o (λ z => hc (by simp [z])) e⟩) (λ _ _ e => e) (λ _ _ _ e => e) (λ b ps e => ⟨#[], by rw [e]; simp⟩) (λ m hm => ?_) (λ b u e => ?_) I.bare
 ·have e : b = it := by simpa using hb
  subst e
  exact ⟨h1, hL, h2, h3⟩
 ·obtain ⟨o, es, ep, ho, r⟩ := hm
  exact ⟨o, es, ep, k _ o (Ne.symm hL) ho, r⟩
 ·refine (I.hok b u e).stay (λ c v hc q => k c v ?_ q) (λ _ q => q) λ _ _ q => q
  rcases hc with z | z
  ·rw [z]; exact nit b u e
  ·exact nit c _ z
theorem Inv.tok (I : Inv X pins σ H s) (t : Nat) : Inv X pins σ H { s with toks := t } := I.un (h' := s.heap) (t' := t) Un.refl I.hok
theorem Inv.kept {t' : Nat} (I : Inv X pins σ H s) (k : ∀ b u, s.heap.get? b = some u -> h'.get? b = some u) : Inv X pins σ H { s with heap := h', toks := t' } := I.un (Un.kept k) (I.hok.kept k)
theorem Inv.laid {a : Addr} {o : HO} {t' : Nat} (I : Inv X pins σ H s) (k : ∀ b u, s.heap.get? b = some u -> h'.get? b = some u) (hp : s.heap.objs.size <= a) (new : zZ X.prog X.w (upd H a o) h' a o) :
  Inv X pins σ (upd H a o) { s with heap := h', toks := t' } := I.un (Un.laid k hp (I.hok.fresh hp)) (I.hok.laid k hp new)
theorem Inv.write {x e : Addr} {o : HO} {t' : Nat} (I : Inv X pins σ H s) (mu : Mut (H x)) (he : e = x ∨ H e = some (.own x)) (k : ∀ b u, b ≠ e -> s.heap.get? b = some u -> h'.get? b = some u) (heo : ∃ u, h'.get? e = some u)
  (new : zZ X.prog X.w (upd H x o) h' x o) : Inv X pins σ (upd H x o) { s with heap := h', toks := t' } := I.un (Un.write mu he k heo) (I.hok.write mu he k heo new)
theorem Inv.pins_of {pins' : List (Addr × Obj)} (I : Inv X pins σ H s) (h : ∀ p ∈ pins', s.heap.get? p.1 = some p.2 /\ H p.1 = none /\ p.1 ≠ X.env.locals /\ p.1 ∉ X.fs /\ ∀ v, p.2.data ≠ .cell v) : Inv X pins' σ H s :=
 ⟨I.ok, I.os, I.bare, I.base, I.loc, I.cell, I.free, I.freeC, λ p hp => (List.mem_append.mp hp).elim (λ z => I.pin p (List.mem_append_left _ z)) (h p), I.hok, I.len⟩
theorem zgd {N : List Str} (hN : N.Nodup) {i j : Nat} {x : Str} (a : N[i]? = some x) (b : N[j]? = some x) : i = j := by
 obtain ⟨h1, e1⟩ := List.getElem?_eq_some_iff.mp a
 obtain ⟨h2, e2⟩ := List.getElem?_eq_some_iff.mp b
 exact (List.getElem_inj hN).mp (e1.trans e2.symm)
theorem zht {M : Model} {A : Around} {E : Value -> Shared -> Prop} {i : Nat} {x : Str} {v : V} {u : Value} {Q : Unit -> Shared -> Prop} (I : Inv X pins σ H s) (hN : X.N.Nodup) (hi : X.N[i]? = some x) (hx : Loc X.env.scope x) (r : RelV v u)
  (h : ∀ s', Inv X pins (σ.set i (some v)) H s' -> (∃ a, Heap.SameBut a s.heap s'.heap /\ (a = X.env.locals ∨ X.env.cells.lookup x = some a)) -> Q () s') (hf : X.fn x = true ∨ X.env.scope.names.lookup x = some .local := by first | exact .inl rfl | exact .inr rfl | assumption) : wpAny M A (storeName X.env x u) Q E s := by
 obtain ⟨m, hn, hl⟩ := id I.loc
 have hcls : (X.env.scope.kind == .class || (X.env.scope.kind == .module && X.env.locals != X.env.globals)) = false := by rw [I.ok.kind]; rfl
 have hiσ : i < σ.length := by rw [I.len]; exact (List.getElem?_eq_some_iff.mp hi).1
 have cne := I.cne
 have tracked : ∀ {a : Addr} {h' : Heap}, (∃ o, s.heap.get? a = some o /\ H a = none) -> Heap.SameBut a s.heap h' -> HOk X.prog X.w H h' := λ {a h'} ha hs b ob e => by
  obtain ⟨_, _, hfree⟩ := ha
  refine (I.hok b ob e).stay (λ c w' hc q => (hs.2 c ?_).trans q) (λ _ q => q) λ _ _ q => q
  rintro rfl
  rcases hc with rfl | hc
  ·rw [hfree] at e; cases e
  ·rw [hfree] at hc; cases hc
 rcases hx with hk | hk
 ·refine wpAny_storeName_local hk hn (λ h' hn' hs => ?_) hcls
  obtain ⟨oL, _, _, hoL, _⟩ := id hn
  refine h _ ⟨I.ok, I.os, I.bare, ⟨λ b o e n hb hx => ?_, λ b o e n hb hx => ?_, I.base.free, λ b o e hx => ?_, I.base.tups, I.base.frzs, I.base.tbls⟩, ⟨_, hn', λ j y v' e1 e2 e3 => ?_⟩, λ y c e => ?_, I.free, I.freeC, λ p hp => ?_, tracked ⟨oL, hoL, I.free⟩ hs, by simpa using I.len⟩ ⟨_, hs, .inl rfl⟩
  ·exact (hs.2 b (Nat.ne_of_lt (Nat.lt_of_lt_of_le (Heap.lt_size e) I.ok.above))).trans (I.base.keep b o e n hb hx)
  ·obtain ⟨sl, e1⟩ := I.base.slot b o e n hb hx
   exact ⟨sl, (hs.2 b (Nat.ne_of_lt (Nat.lt_of_lt_of_le (Heap.lt_size e) I.ok.above))).trans e1⟩
  ·obtain ⟨o', e1⟩ := I.base.there b o e hx
   exact ⟨o', (hs.2 b (Nat.ne_of_lt (Nat.lt_of_lt_of_le (Heap.lt_size e) I.ok.above))).trans e1⟩
  ·by_cases hj : j = i
   ·subst hj
    rw [hi] at e1; cases e1
    rw [List.getElem?_set_self hiσ] at e2
    cases e2
    exact ⟨u, r, .inl ⟨hk, by simp⟩⟩
   ·rw [List.getElem?_set_ne (Ne.symm hj)] at e2
    obtain ⟨u', r', q⟩ := hl j y v' e1 e2 e3
    refine ⟨u', r', ?_⟩
    rcases q with ⟨k, e⟩ | ⟨k, c, e, z⟩
    ·refine .inl ⟨k, ?_⟩
     have : y ≠ x := λ e => hj (zgd hN e1 (e ▸ hi))
     simp [this, e]
    ·exact .inr ⟨k, c, e, z.sameBut hs (cne y c e)⟩
  ·obtain ⟨w', z⟩ := I.cell y c e
   exact ⟨w', z.sameBut hs (cne y c e)⟩
  ·obtain ⟨e, n, ne, nf, d⟩ := I.pin p hp
   exact ⟨(hs.2 p.1 ne).trans e, n, ne, nf, d⟩
 ·have hfn : X.fn x = true := by
   rcases hf with z | z
   ·exact z
   ·rw [z] at hk; cases hk
  obtain ⟨c, hc⟩ := I.ok.has x (.inl hk)
  obtain ⟨w', z⟩ := I.cell x c hc
  refine wpAny_storeName_cell I.ok.kind hk hc z (λ h' hc' hs => ?_)
  obtain ⟨oc, hoc, hocd⟩ := id z
  refine h { s with heap := h' } ⟨I.ok, I.os, I.bare, ⟨λ b o e n hb hx => ?_, λ b o e n hb hx => ?_, I.base.free, λ b o e hx => ?_, I.base.tups, I.base.frzs, I.base.tbls⟩, ⟨m, hn.sameBut hs (Ne.symm (cne x c hc)), λ j y v' e1 e2 e3 => ?_⟩, λ y c' e => ?_, I.free, I.freeC, λ p hp => ?_, tracked ⟨oc, hoc, I.freeC x c hc⟩ hs, by simpa using I.len⟩ ⟨c, hs, .inr hc⟩
  ·exact (hs.2 b (Nat.ne_of_lt (Nat.lt_of_lt_of_le (Heap.lt_size e) (I.ok.cab x c hfn hc)))).trans (I.base.keep b o e n hb hx)
  ·obtain ⟨sl, e1⟩ := I.base.slot b o e n hb hx
   exact ⟨sl, (hs.2 b (Nat.ne_of_lt (Nat.lt_of_lt_of_le (Heap.lt_size e) (I.ok.cab x c hfn hc)))).trans e1⟩
  ·obtain ⟨o', e1⟩ := I.base.there b o e hx
   exact ⟨o', (hs.2 b (Nat.ne_of_lt (Nat.lt_of_lt_of_le (Heap.lt_size e) (I.ok.cab x c hfn hc)))).trans e1⟩
  ·by_cases hj : j = i
   ·subst hj
    rw [hi] at e1; cases e1
    rw [List.getElem?_set_self hiσ] at e2
    cases e2
    exact ⟨u, r, .inr ⟨.inl hk, c, hc, hc'⟩⟩
   ·rw [List.getElem?_set_ne (Ne.symm hj)] at e2
    obtain ⟨u', r', q⟩ := hl j y v' e1 e2 e3
    refine ⟨u', r', ?_⟩
    rcases q with q | ⟨k, c', e, z'⟩
    ·exact .inl q
    ·refine .inr ⟨k, c', e, z'.sameBut hs ?_⟩
     rintro rfl
     exact hj (zgd hN e1 (I.ok.inj _ _ _ e hc ▸ hi))
  ·by_cases hcc : c' = c
   ·subst hcc; exact ⟨_, hc'⟩
   ·obtain ⟨w2, z2⟩ := I.cell y c' e
    exact ⟨w2, z2.sameBut hs hcc⟩
  ·obtain ⟨e, n, ne, nf, d⟩ := I.pin p hp
   refine ⟨(hs.2 p.1 ?_).trans e, n, ne, nf, d⟩
   intro q
   rw [q, hoc] at e
   have q' : oc = p.2 := Option.some.inj e
   exact d w' (by rw [<- q']; exact hocd)
theorem zda {M : Model} {A : Around} {E : Value -> Shared -> Prop} {i : Nat} {x : Str} {v : V} {u : Value} {Q : Unit -> Shared -> Prop} (I : Inv X pins σ H s) (hN : X.N.Nodup) (hi : X.N[i]? = some x) (hx : Loc X.env.scope x) (r : RelV v u)
  (h : ∀ s', Inv X pins (σ.set i (some v)) H s' -> Q () s') (hf : X.fn x = true ∨ X.env.scope.names.lookup x = some .local := by first | exact .inl rfl | exact .inr rfl | assumption) : wpAny M A (storeName X.env x u) Q E s :=
 zht I hN hi hx r (λ s' I' _ => h s' I') hf
theorem Inv.call' {s' : Shared} {ch : List Addr} (I : Inv X pins σ H s) (ho : s'.os = s.os) (u : Un (frs X.stack) ch H H' s.heap s'.heap) (hok : HOk X.prog X.w H' s'.heap) (hg : AllBare s'.gens)
  (hch : ∀ b ∈ ch, (b ∈ X.ex ∨ X.s0.heap.objs.size <= b) /\ b ≠ X.env.locals /\ (∀ x c, X.env.cells.lookup x = some c -> c ≠ b) /\ ∀ p ∈ X.pn ++ pins, p.1 ≠ b) : Inv X pins σ H' s' := by
 obtain ⟨h', g', d', t', o'⟩ := s'
 have e : o' = s.os := ho
 subst e
 exact I.call (g' := g') (t' := t') (d' := d') u hok hg hch
end
noncomputable abbrev XK := Value -> Option Addr -> Hp -> Prop
noncomputable abbrev St := List (Option V)
noncomputable abbrev VK := V -> Hp -> Prop
noncomputable abbrev TE := St -> Hp -> VK -> Prop
noncomputable abbrev TT := St -> Hp -> (Bool -> Hp -> Prop) -> Prop
noncomputable abbrev TA := St -> Hp -> (List V -> Hp -> Prop) -> Prop
structure Ends where
 nx : St -> Hp -> Prop
 rt : VK
 bk : St -> Hp -> Prop := λ _ _ => False
 ct : St -> Hp -> Prop := λ _ _ => False
noncomputable abbrev TS := Ends -> St -> Hp -> Prop
inductive EP (X : Cx) (pins : List (Addr × Obj)) (σ : St) (Q : VK) (u : Value) (s' : Shared) : Prop
 | mk (v : V) (H' : Hp) (I : Inv X pins σ H' s') (r : RelV v u) (q : Q v H')
noncomputable def TP (X : Cx) (pins : List (Addr × Obj)) (σ : St) (Q : Bool -> Hp -> Prop) (b : Bool) (s' : Shared) : Prop := ∃ H', Inv X pins σ H' s' /\ Q b H'
inductive AP (X : Cx) (pins : List (Addr × Obj)) (σ : St) (Q : List V -> Hp -> Prop) (us : List Value) (s' : Shared) : Prop
 | mk (vs : List V) (H' : Hp) (I : Inv X pins σ H' s') (r : Vals vs us) (q : Q vs H')
noncomputable def SP (X : Cx) (pins : List (Addr × Obj)) (D : Ends) (f : Flow) (s' : Shared) : Prop :=
 match f with
 | .next => ∃ σ' H', Inv X pins σ' H' s' /\ D.nx σ' H'
 | .brk => ∃ σ' H', Inv X pins σ' H' s' /\ D.bk σ' H'
 | .cont => ∃ σ' H', Inv X pins σ' H' s' /\ D.ct σ' H'
 | .ret u => ∃ v σ' H', Inv X pins σ' H' s' /\ RelV v u /\ D.rt v H'
noncomputable def PE (X : Cx) (e : Expr) (t : TE) : Prop :=
 ∀ (pins : List (Addr × Obj)) (s : Shared) (σ : St) (H : Hp) (Q : VK), Inv X pins σ H s -> t σ H Q -> wpAny (model X.prog X.w) X.A (eval e X.env) (EP X pins σ Q) X.xe s
noncomputable def PT (X : Cx) (e : Expr) (t : TT) : Prop :=
 ∀ (pins : List (Addr × Obj)) (s : Shared) (σ : St) (H : Hp) (Q : Bool -> Hp -> Prop), Inv X pins σ H s -> t σ H Q -> wpAny (model X.prog X.w) X.A (isTrue e X.env (eval e X.env)) (TP X pins σ Q) X.xe s
noncomputable def PW (X : Cx) (e : Expr) (t : TT) : Prop :=
 ∀ (whole : Sem Value) (pins : List (Addr × Obj)) (s : Shared) (σ : St) (H : Hp) (Q : Bool -> Hp -> Prop), Inv X pins σ H s -> t σ H Q -> wpAny (model X.prog X.w) X.A (isTrue e X.env whole) (TP X pins σ Q) X.xe s
theorem PW.pt {X : Cx} {e : Expr} {t : TT} (h : PW X e t) : PT X e t := h _
noncomputable def PA (X : Cx) (es : List Expr) (t : TA) : Prop :=
 ∀ (pos : Pos) (pins : List (Addr × Obj)) (s : Shared) (σ : St) (H : Hp) (Q : List V -> Hp -> Prop), Inv X pins σ H s -> t σ H Q -> wpAny (model X.prog X.w) X.A (spliced (backTo pos (starEach es X.env))) (AP X pins σ Q) X.xe s
noncomputable def PS (X : Cx) (st : Stmt) (t : TS) : Prop :=
 ∀ (pins : List (Addr × Obj)) (s : Shared) (σ : St) (H : Hp) (D : Ends), Inv X pins σ H s -> t D σ H -> wpAny (model X.prog X.w) X.A (exec st X.env) (SP X pins D) X.xe s
noncomputable def PSs (X : Cx) (st : List Stmt) (t : TS) : Prop :=
 ∀ (pins : List (Addr × Obj)) (s : Shared) (σ : St) (H : Hp) (D : Ends), Inv X pins σ H s -> t D σ H -> wpAny (model X.prog X.w) X.A (execs st X.env) (SP X pins D) X.xe s
theorem thn {α : Type} {t : Sem α} {Q Q' : α -> Shared -> Prop} {M : Model} {A : Around} {E : Value -> Shared -> Prop} {s : Shared} (h : wpAny M A t Q E s) (hQ : ∀ a s, Q a s -> Q' a s) : wpAny M A t Q' E s := wpAny_mono h hQ λ _ _ x => x
end L2
namespace L2
open PySem PySem.Spec PyProof.Rows
section
variable {X : Cx}
noncomputable def tVar (i : Nat) : TE := λ σ H Q => ∃ v, σ[i]? = some (some v) /\ Q v H
noncomputable def tC (v : V) : TE := λ _ H Q => Q v H
theorem zlS {i : Nat} {x : Str} {pos : Pos} (hN : X.N[i]? = some x) (hv : Vis X.env.scope x) (hd : (x == ("__debug__" : Str)) = false := by decide) (hcd : (x == ("__classdict__" : Str)) = false := by decide) : PE X (.Name x pos) (tVar i) := by
 intro pins s σ H Q I h
 obtain ⟨v, e, h⟩ := h
 obtain ⟨m, hn, hl⟩ := I.loc
 obtain ⟨u, r, l⟩ := hl i x v hN e hv
 have fin : EP X pins σ Q u s := ⟨v, H, I, r, h⟩
 rcases l with ⟨hk, hm⟩ | ⟨hk, c, hc, hcell⟩
 ·exact wpAny_Name (wpAny_loadName_local I.ok.kind hk hn hm fin) hd
 ·rcases hk with hk | hk
  ·exact wpAny_Name (wpAny_loadName_cell I.ok.kind hk hc hcell fin) hd
  ·exact wpAny_Name (wpAny_loadName_free I.ok.kind hk hc hcell fin hcd) hd
theorem zoV {i j pos} : PE X (.Constant (.int i) j pos) (tC (.int i)) := λ _ _ _ H _ I h => wpAny_Constant_int ⟨.int i, H, I.tok _, ⟨_, rfl⟩, h⟩
theorem zo5 {b j pos} : PE X (.Constant (.bool b) j pos) (tC (.bl b)) := λ _ _ _ H _ I h => Constant_bool ⟨.bl b, H, I, rfl, h⟩
theorem znY {j pos} : PE X (.Constant .none j pos) (tC .non) := λ _ _ _ H _ I h => Constant_none ⟨.non, H, I, rfl, h⟩
theorem zov {x j pos} : PE X (.Constant (.str x) j pos) (tC (.str x)) := λ _ _ _ H _ I h => Calls.Constant_str ⟨.str x, H, I.tok _, ⟨_, rfl⟩, h⟩
noncomputable def Gl (X : Cx) (x : Str) : Prop := X.env.kindOf x = some .globalImplicit
theorem zd2 {E : Value -> Shared -> Prop} {pins : List (Addr × Obj)} {s : Shared} {σ : St} {H : Hp} {x : Str} {u : Value} {pos : Pos} {Q : Value -> Shared -> Prop} (I : Inv X pins σ H s) (hg : Gl X x) (hm : X.mg x = some u) (h : Q u s)
  (hd : (x == ("__debug__" : Str)) = false := by decide) : wpAny (model X.prog X.w) X.A (eval (.Name x pos) X.env) Q E s :=
 Calls.Name_function_global I.ok.kind hg (Calls.loadGlobal_global (by rw [I.ok.glob]; exact I.mod.glob.keeps I.bk) hm h) hd
theorem zeR {E : Value -> Shared -> Prop} {pins : List (Addr × Obj)} {s : Shared} {σ : St} {H : Hp} {x : Str} {u : Value} {pos : Pos} {Q : Value -> Shared -> Prop} (I : Inv X pins σ H s) (hg : Gl X x) (hm : X.mg x = none) (hv : bootBuiltins x = some u) (h : Q u s)
  (hn : x ≠ "__name__" := by decide) (hd : (x == ("__debug__" : Str)) = false := by decide) : wpAny (model X.prog X.w) X.A (eval (.Name x pos) X.env) Q E s := by
 obtain ⟨mb, h1, h2⟩ := I.mod.blt
 exact Calls.Name_function_global I.ok.kind hg (Calls.loadGlobal_builtin (by rw [I.ok.glob]; exact I.mod.glob.keeps I.bk) hm (by rw [I.ok.blt]; exact h1.keeps I.bk) ((h2 x hn).trans hv) h) hd
theorem zmw {x : Str} {v : V} {u : Value} {pos : Pos} (hg : Gl X x) (hm : X.mg x = some u) (r : RelV v u) (hd : (x == ("__debug__" : Str)) = false := by decide) : PE X (.Name x pos) (tC v) :=
 λ _ _ _ H _ I h => zd2 I hg hm ⟨v, H, I, r, h⟩ hd
theorem zf4 {x : Str} {v : V} {u : Value} {pos : Pos} (hg : Gl X x) (hm : X.mg x = none) (hv : bootBuiltins x = some u) (r : RelV v u) (hn : x ≠ "__name__" := by decide) (hd : (x == ("__debug__" : Str)) = false := by decide) : PE X (.Name x pos) (tC v) :=
 λ _ _ _ H _ I h => zeR I hg hm hv ⟨v, H, I, r, h⟩ hn hd
variable {a b : Expr} {ta tb : TE} {pos : Pos}
theorem zkt (b : Expr) {op : CmpOp} (h : op ≠ .In) (h2 : op ≠ .NotIn) : behindInMarks op b = false := by
 have e1 : (op == CmpOp.In) = false := by cases op <;> first | rfl | exact absurd rfl h
 have e2 : (op == CmpOp.NotIn) = false := by cases op <;> first | rfl | exact absurd rfl h2
 cases b <;> simp [behindInMarks, e1, e2]
noncomputable def tB (t : TE) : TT := λ σ H Q => t σ H λ x H1 => ∃ c, x = .bl c /\ Q c H1
theorem zoi {e : Expr} {t : TE} (h : PE X e t) (he : ∀ whole, isTrue e X.env whole = (do let v <- whole; standAt e.pos; holding [v] (truthy v)) := by intro _; rfl) : PT X e (tB t) := by
 intro pins s σ H Q I hw
 refine isTrue_plain (thn (h pins s σ H _ I hw) λ v s1 ⟨x, H1, I1, r1, q1⟩ => ?_) (he _)
 obtain ⟨d, rfl, q⟩ := q1
 cases r1
 exact wpAny_truthy_bool ⟨H1, I1, q⟩
variable {tA tB' : TT} {rest : List Expr}
noncomputable def tOr (t u : TT) : TT := λ σ H Q => t σ H λ c H1 => if c = true then Q true H1 else u σ H1 Q
noncomputable def tNot (t : TT) : TT := λ σ H Q => t σ H λ c H1 => Q (!c) H1
theorem zoO (ha : PT X a tA) : PW X (.BoolOp .Or [a] pos) tA := by
 intro wh pins s σ H Q I h
 refine isTrue_or (thn (ha pins s σ H Q I h) λ c s1 e => ?_)
 cases c with
 | false => exact isTrue_or_nil e
 | true => exact e
theorem zpg (ha : PT X a tA) (hb : PW X (.BoolOp .Or (b :: rest) pos) tB') : PW X (.BoolOp .Or (a :: b :: rest) pos) (tOr tA tB') := by
 intro wh pins s σ H Q I h
 refine isTrue_or (thn (ha pins s σ H _ I h) λ c s1 ⟨H1, I1, q1⟩ => ?_)
 cases c with
 | true => exact ⟨H1, I1, q1⟩
 | false => exact hb wh pins s1 σ H1 Q I1 q1
theorem zoK (ha : PT X a tA) : PT X (.UnaryOp .Not a pos) (tNot tA) := by
 intro pins s σ H Q I h
 exact isTrue_not (ha pins s σ H (λ c H1 => Q (!c) H1) I h)
noncomputable def zo8 (ta tb : TE) : TE := λ σ H Q => ta σ H λ x H1 => ∃ c, x = .bl c /\ if c = true then tb σ H1 Q else Q (.bl false) H1
noncomputable def zpM (ta : TE) : TE := λ σ H Q => ta σ H λ x H1 => ∃ c, x = .bl c /\ Q (.bl (!c)) H1
theorem zn7 {op} {t : TE} (h : PE X a t) : PE X (.BoolOp op [a] pos) t := λ pins s σ H Q I hw => BoolOp_one (h pins s σ H Q I hw)
theorem zoE (ha : PE X a ta) (hb : PE X (.BoolOp .And (b :: rest) pos) tb) : PE X (.BoolOp .And (a :: b :: rest) pos) (zo8 ta tb) := by
 intro pins s σ H Q I h
 refine BoolOp_and (thn (ha pins s σ H _ I h) λ v s1 ⟨x, H1, I1, r1, q1⟩ => ?_)
 obtain ⟨c, rfl, q1⟩ := q1
 cases r1
 refine wpAny_truthy_bool ?_
 cases c with
 | true => exact hb pins s1 σ H1 Q I1 q1
 | false => exact ⟨.bl false, H1, I1, rfl, q1⟩
theorem zoc (ha : PE X a ta) : PE X (.UnaryOp .Not a pos) (zpM ta) := by
 intro pins s σ H Q I h
 refine UnaryOp_ (thn (ha pins s σ H _ I h) λ v s1 ⟨x, H1, I1, r1, q1⟩ => ?_)
 obtain ⟨c, rfl, q1⟩ := q1
 cases r1
 exact not_of (wpAny_truthy_bool ⟨.bl (!c), H1, I1, rfl, q1⟩)
noncomputable def tIf (t : TT) (ta tb : TE) : TE := λ σ H Q => t σ H λ c H1 => if c = true then ta σ H1 Q else tb σ H1 Q
theorem zlj {c : Expr} (hc : PT X c tA) (ha : PE X a ta) (hb : PE X b tb) : PE X (.IfExp c a b pos) (tIf tA ta tb) := by
 intro pins s σ H Q I h
 refine wpAny_IfExp (thn (hc pins s σ H _ I h) λ d s1 ⟨H1, I1, q1⟩ => ?_)
 cases d with
 | true => exact ha pins s1 σ H1 Q I1 q1
 | false => exact hb pins s1 σ H1 Q I1 q1
end
end L2
namespace L2
open PySem PySem.Spec PyProof.Rows
noncomputable def SqL (K : Frag) (H : Hp) (a : Addr) (xs : List V) : Prop :=
 Rd H a (.lst xs) ∨
  ∃ (o : Obj) (its : Array Value) (n : Nat), K.lookup a = some o /\ o.cls = .type "list" /\ o.dict = none /\ o.data = .seq its n /\ its.size <= sizeLine /\ Vals xs its.toList
noncomputable def SqT (K : Frag) (H : Hp) (a : Addr) (xs : List V) : Prop :=
 Rd H a (.tup xs) ∨
  ∃ (o : Obj) (its : Array Value) (n : Nat), K.lookup a = some o /\ (o.cls = .type "tuple" /\ o.dict = none) /\ o.data = .seq its n /\ its.size <= sizeLine /\ Vals xs its.toList
noncomputable def absV : Value -> Option V
 | .none => some .non
 | .bool b => some (.bl b)
 | .int i _ => some (.int i)
 | .str x _ => some (.str x)
 | .bytes b _ => some (.byt b)
 | .float b _ => some (.flt b)
 | .ref a => some (.ref a)
 | .type n => some (.ty n)
 | _ => none
theorem RelV.abs {x : V} {u : Value} (r : RelV x u) : absV u = some x := by
 cases x with
 | non => cases r; rfl
 | bl _ => cases r; rfl
 | int _ => obtain ⟨t, rfl⟩ := r; rfl
 | str _ => obtain ⟨t, rfl⟩ := r; rfl
 | byt _ => obtain ⟨t, rfl⟩ := r; rfl
 | flt _ => obtain ⟨t, rfl⟩ := r; rfl
 | ref _ => cases r; rfl
 | ty _ => cases r; rfl
theorem RelV.inj {x y : V} {u : Value} (r : RelV x u) (q : RelV y u) : x = y := Option.some.inj (r.abs.symm.trans q.abs)
theorem Vals.inj : ∀ {xs ys : List V} {us : List Value}, Vals xs us -> Vals ys us -> xs = ys
 | _, _, _, .nil, .nil => rfl
 | _, _, _, .cons r t, .cons r' t' => by rw [r.inj r', Vals.inj t t']
section
variable {X : Cx} {pins : List (Addr × Obj)} {σ : St} {H : Hp} {s : Shared} {a : Addr} {xs ys : List V}
theorem SqL.of {K : Frag} (h : H a = some (.lst xs)) : SqL K H a xs := .inl (.inl h)
theorem SqT.of {K : Frag} (h : H a = some (.tup xs)) : SqT K H a xs := .inl (.inl h)
theorem Inv.list (I : Inv X pins σ H s) (h : SqL X.K H a xs) : ∃ its : List Value, Vals xs its /\ PlainL s.heap a its.toArray /\ xs.length <= sizeLine := by
 rcases h with h | ⟨o, its, n, hk, hc, hd, hs, hz, r⟩
 ·obtain ⟨z, its, n, r, e⟩ := h.ok I.hok
  exact ⟨its, r, ⟨_, n, e, rfl, rfl, rfl⟩, z⟩
 ·refine ⟨its.toList, r, ⟨o, n, I.kIn a o hk, hc, hd, by simpa using hs⟩, ?_⟩
  have e := r.length
  simp only [Array.length_toList] at e
  omega
theorem Inv.tuple (I : Inv X pins σ H s) (h : SqT X.K H a xs) : ∃ its : List Value, Vals xs its /\ IsTup s.heap a its.toArray /\ xs.length <= sizeLine := by
 rcases h with h | ⟨o, its, n, hk, hc, hs, hz, r⟩
 ·obtain ⟨z, its, r, p⟩ := h.ok I.hok
  exact ⟨its, r, p.tup, z⟩
 ·refine ⟨its.toList, r, ⟨o, I.kIn a o hk, hc.1, n, by simpa using hs⟩, ?_⟩
  have e := r.length
  simp only [Array.length_toList] at e
  omega
theorem Inv.list_inj (I : Inv X pins σ H s) (h : SqL X.K H a xs) (h' : SqL X.K H a ys) : xs = ys := by
 obtain ⟨its, r, ⟨o, n, e, _, _, d⟩, _⟩ := I.list h
 obtain ⟨its', r', ⟨o', n', e', _, _, d'⟩, _⟩ := I.list h'
 rw [e] at e'; cases e'
 rw [d] at d'
 injection d' with d1 _
 have : its = its' := by simpa using congrArg Array.toList d1
 subst this
 exact r.inj r'
theorem Inv.tuple_inj (I : Inv X pins σ H s) (h : SqT X.K H a xs) (h' : SqT X.K H a ys) : xs = ys := by
 obtain ⟨its, r, ⟨o, e, _, n, d⟩, _⟩ := I.tuple h
 obtain ⟨its', r', ⟨o', e', _, n', d'⟩, _⟩ := I.tuple h'
 rw [e] at e'; cases e'
 rw [d] at d'
 injection d' with d1 _
 have : its = its' := by simpa using congrArg Array.toList d1
 subst this
 exact r.inj r'
end
noncomputable abbrev Cx.wish (X : Cx) (E : Value -> Shared -> Prop) : Cx := { X with xe := E }
noncomputable abbrev Cx.nox (X : Cx) : Cx := X.wish λ _ _ => False
theorem Cx.Ok.wish {X : Cx} (ok : X.Ok) (E : Value -> Shared -> Prop) : (X.wish E).Ok :=
 ⟨ok.mod, ok.kind, ok.glob, ok.blt, ok.above, ok.inj, ok.has, ok.cab, ok.hd, ok.frames, ok.stk, ok.exf, ok.bs, ok.bsz, ok.noex, ok.exfs, ok.funs, ok.frf⟩
theorem Cx.Ok.unwish {X : Cx} {E : Value -> Shared -> Prop} (ok : (X.wish E).Ok) : X.Ok :=
 ⟨ok.mod, ok.kind, ok.glob, ok.blt, ok.above, ok.inj, ok.has, ok.cab, ok.hd, ok.frames, ok.stk, ok.exf, ok.bs, ok.bsz, ok.noex, ok.exfs, ok.funs, ok.frf⟩
section
variable {X : Cx} {pins : List (Addr × Obj)} {σ : St} {H : Hp} {s : Shared} {E : Value -> Shared -> Prop}
theorem Inv.wish (I : Inv X pins σ H s) (E : Value -> Shared -> Prop) : Inv (X.wish E) pins σ H s := ⟨I.ok.wish E, I.os, I.bare, I.base, I.loc, I.cell, I.free, I.freeC, I.pin, I.hok, I.len⟩
theorem Inv.unwish (I : Inv (X.wish E) pins σ H s) : Inv X pins σ H s := ⟨I.ok.unwish, I.os, I.bare, I.base, I.loc, I.cell, I.free, I.freeC, I.pin, I.hok, I.len⟩
theorem SP.unwish {D : Ends} {f : Flow} {s' : Shared} (h : SP (X.wish E) pins D f s') : SP X pins D f s' := by
 cases f with
 | next => obtain ⟨σ', H', I, q⟩ := h; exact ⟨σ', H', I.unwish, q⟩
 | brk => obtain ⟨σ', H', I, q⟩ := h; exact ⟨σ', H', I.unwish, q⟩
 | cont => obtain ⟨σ', H', I, q⟩ := h; exact ⟨σ', H', I.unwish, q⟩
 | ret u => obtain ⟨v, σ', H', I, r, q⟩ := h; exact ⟨v, σ', H', I.unwish, r, q⟩
theorem PT.nox {e : Expr} {t : TT} (h : PT X.nox e t) : PT X e t := λ pins s σ H Q I hw =>
 wpAny_mono (h pins s σ H Q (I.wish _) hw) (λ _ _ ⟨H', I', q⟩ => ⟨H', I'.unwish, q⟩) λ _ _ z => False.elim z
theorem PSs.nox {st : List Stmt} {t : TS} (h : PSs X.nox st t) : PSs X st t := λ pins s σ H D I hw =>
 wpAny_mono (h pins s σ H D (I.wish _) hw) (λ _ _ q => q.unwish) λ _ _ z => False.elim z
end
section
variable {X : Cx} {st : Stmt} {rest : List Stmt} {t u : TS} {e : Expr} {te : TE} {pos : Pos}
noncomputable def zpq : TS := λ D σ H => D.nx σ H
noncomputable def tSeq (t u : TS) : TS := λ D σ H => t { D with nx := u D } σ H
theorem zl8 : PSs X [] zpq := λ _ _ σ H _ I h => wpAny_execs_nil ⟨σ, H, I, h⟩
theorem zku (h1 : PS X st t) (h2 : PSs X rest u) : PSs X (st :: rest) (tSeq t u) := by
 intro pins s σ H D I h
 refine wpAny_execs_cons (thn (h1 pins s σ H { D with nx := u D } I h) λ f s1 q => ?_)
 cases f with
 | next =>
  obtain ⟨σ', H', I', q⟩ := q
  exact h2 pins s1 σ' H' D I' q
 | ret v => exact q
 | brk => exact q
 | cont => exact q
theorem Inv.quiet {pins : List (Addr × Obj)} {σ : St} {H : Hp} {s : Shared} (I : Inv X pins σ H s) : interactive X.env = false := by simp [interactive, I.ok.kind]
noncomputable def zpz (te : TE) : TS := λ D σ H => te σ H λ _ H1 => D.nx σ H1
theorem zne (he : PE X e te) (hs : swapsWith e none pos.line X.env = pure false := by rfl) : PS X (.Expr e pos) (zpz te) := by
 intro pins s σ H D I h
 exact wpAny_Expr_any (thn (he pins s σ H _ I h) λ v s1 ⟨x, H1, I1, r1, q1⟩ => ⟨σ, H1, I1, q1⟩) I.quiet hs
noncomputable def tRet (te : TE) : TS := λ D σ H => te σ H D.rt
theorem znN (he : PE X e te) : PS X (.Return (some e) pos) (tRet te) := by
 intro pins s σ H D I h
 exact wpAny_Return_some (thn (he pins s σ H _ I h) λ v s1 ⟨x, H1, I1, r1, q1⟩ => ⟨x, σ, H1, I1, r1, q1⟩)
noncomputable def tIfS (c : TT) (t u : TS) : TS := λ D σ H => c σ H λ b H1 => if b = true then t D σ H1 else u D σ H1
theorem zo9 {c : Expr} {a b : List Stmt} {tc : TT} (hc : PT X c tc) (ha : PSs X a t) (hb : PSs X b u) : PS X (.If c a b pos) (tIfS tc t u) := by
 intro pins s σ H D I h
 refine wpAny_If (thn (hc pins s σ H _ I h) λ d s1 ⟨H1, I1, q1⟩ => ?_)
 cases d with
 | true => exact ha pins s1 σ H1 D I1 q1
 | false => exact hb pins s1 σ H1 D I1 q1
end
noncomputable abbrev TG := V -> St -> Hp -> (St -> Hp -> Prop) -> Prop
noncomputable abbrev TGs := List V -> St -> Hp -> (St -> Hp -> Prop) -> Prop
noncomputable def PG (X : Cx) (target : Expr) (t : TG) : Prop :=
 ∀ (pins : List (Addr × Obj)) (s : Shared) (σ : St) (H : Hp) (v : V) (u : Value) (Q : St -> Hp -> Prop), Inv X pins σ H s -> RelV v u -> t v σ H Q ->
  wpAny (model X.prog X.w) X.A (assign target X.env u) (λ _ s' => ∃ σ' H', Inv X pins σ' H' s' /\ Q σ' H') X.xe s
noncomputable def PGs (X : Cx) (ts : List Expr) (t : TGs) : Prop :=
 ∀ (pins : List (Addr × Obj)) (s : Shared) (σ : St) (H : Hp) (vs : List V) (us : List Value) (Q : St -> Hp -> Prop), Inv X pins σ H s -> Vals vs us -> t vs σ H Q ->
  wpAny (model X.prog X.w) X.A (assignInOrder ((assignEach ts X.env).map (·.2)) us) (λ _ s' => ∃ σ' H', Inv X pins σ' H' s' /\ Q σ' H') X.xe s
noncomputable abbrev TSet := V -> V -> V -> Hp -> (Hp -> Prop) -> Prop
noncomputable def PSet (X : Cx) (t : TSet) : Prop :=
 ∀ (pins : List (Addr × Obj)) (s : Shared) (σ : St) (H : Hp) (o i v : V) (ov iv u : Value) (Q : Hp -> Prop), Inv X pins σ H s -> RelV o ov -> RelV i iv -> RelV v u -> t o i v H Q ->
  wpAny (model X.prog X.w) X.A (setItem ov iv u) (λ _ s' => ∃ H', Inv X pins σ H' s' /\ Q H') X.xe s
section
variable {X : Cx} {pos : Pos}
noncomputable def zle (i : Nat) : TG := λ v σ H Q => Q (σ.set i (some v)) H
theorem zhK {i : Nat} {x : Str} (hN : X.N.Nodup) (hi : X.N[i]? = some x) (hx : Loc X.env.scope x) (hf : X.fn x = true ∨ X.env.scope.names.lookup x = some .local := by first | exact .inl rfl | exact .inr rfl | assumption) : PG X (.Name x pos) (zle i) := by
 intro pins s σ H v u Q I r h
 exact wpAny_assign_Name (zda I hN hi hx r (λ s' I' => ⟨_, H, I', h⟩) hf)
noncomputable def gNil : TGs := λ vs σ H Q => vs = [] /\ Q σ H
noncomputable def zpx (t : TG) (u : TGs) : TGs := λ vs σ H Q => ∃ v r, vs = v :: r /\ t v σ H λ σ' H' => u r σ' H' Q
theorem zmm : PGs X [] gNil := by
 intro pins s σ H vs us Q I r h
 obtain ⟨e, h⟩ := h
 subst e
 cases r
 exact assignInOrder_nil ⟨σ, H, I, h⟩
theorem zin {e : Expr} {es : List Expr} {t : TG} {u : TGs} (h1 : PG X e t) (h2 : PGs X es u)
  (hs : (assignEach (e :: es) X.env).map (·.2) = assign e X.env :: (assignEach es X.env).map (·.2) := by rfl) : PGs X (e :: es) (zpx t u) := by
 intro pins s σ H vs us Q I r h
 obtain ⟨v, vr, e1, h⟩ := h
 subst e1
 cases r with
 | cons r rr =>
  rw [hs]
  refine assignInOrder_cons (thn (h1 pins s σ H _ _ _ I r h) λ _ s1 ⟨σ1, H1, I1, q1⟩ => ?_)
  exact h2 pins s1 σ1 H1 _ _ Q I1 rr q1
noncomputable def gTup (K : Frag) (n : Nat) (t : TGs) : TG := λ v σ H Q => ∃ a xs, v = .ref a /\ SqT K H a xs /\ xs.length = n /\ t xs σ H Q
theorem zoL {es : List Expr} {k : Nat} {t : TGs} {n : Nat} (hc : X.calm = true) (h : PGs X es t)
  (hn : (assignEach es X.env).length = n := by rfl) (hst : (assignEach es X.env).findIdx? (·.1) = none := by rfl) : PG X (.Tuple es k pos) (gTup X.K n t) := by
 intro pins s σ H v u Q I r hw
 obtain ⟨a, xs, e1, hq, hl, hw⟩ := hw
 subst e1
 cases r
 obtain ⟨its, rv, ht, hz⟩ := I.tuple hq
 refine assign_Tuple_tuple (I.ok.hd hc) ht (by simp [hn, <- hl, rv.length]) hst λ h' hx => ?_
 have I1 : Inv X pins σ H { s with heap := h' } := I.kept (t' := s.toks) λ b o e => hx b o (Nat.ne_of_lt (Heap.lt_size e)) e
 exact h pins _ σ H xs _ Q I1 (by simpa using rv) hw
noncomputable def gSub (to ti : TE) (t : TSet) : TG := λ v σ H Q => to σ H λ o H1 => ti σ H1 λ i H2 => t o i v H2 λ H3 => Q σ H3
theorem zo1 {o i : Expr} {to ti : TE} {t : TSet} (ho : PE X o to) (hi : PE X i ti) (hs : PSet X t)
  (ha : ∀ v, assign (.Subscript o i pos) X.env v = (do
   let ov <- holding [v] (eval o X.env)
   let iv <- holding [v, ov] (eval i X.env)
   standAt pos
   holding [v, ov, iv] (setItem ov iv v)
   release [v, ov, iv] []) := by intro _; rfl) : PG X (.Subscript o i pos) (gSub to ti t) := by
 intro pins s σ H v u Q I r h
 rw [ha]
 refine wpAny_bind (wpAny_holding (thn (ho pins s σ H _ I h) λ ov s1 ⟨x, H1, I1, r1, q1⟩ => ?_))
 refine wpAny_bind (wpAny_holding (thn (hi pins s1 σ H1 _ I1 q1) λ iv s2 ⟨y, H2, I2, r2, q2⟩ => ?_))
 refine wpAny_bind (wpAny_standAt (wpAny_bind (wpAny_holding (thn (hs pins s2 σ H2 x y v ov iv u _ I2 r1 r2 r q2) λ _ s3 ⟨H3, I3, q3⟩ => ?_))))
 exact wpAny_release ⟨σ, H3, I3, q3⟩
noncomputable def tAsg (te : TE) (g : TG) : TS := λ D σ H => te σ H λ x H1 => g x σ H1 D.nx
theorem zlI {tg e : Expr} {te : TE} {g : TG} (he : PE X e te) (hg : PG X tg g) (hs : swapsWithSole [tg] e pos.line X.env = pure false := by rfl) (hw : swappedStores [tg] e X.env = pure none := by rfl)
  (h1 : (assignEach [tg] X.env).map (·.2) = [assign tg X.env] := by rfl) : PS X (.Assign [tg] e pos) (tAsg te g) := by
 intro pins s σ H D I h
 refine wpAny_Assign_stores (thn (he pins s σ H _ I h) λ v s1 ⟨x, H1, I1, r1, q1⟩ => ?_) hs hw
 rw [h1]
 exact thn (hg pins s1 σ H1 x v _ I1 r1 q1) λ _ s2 q => q
theorem zoN {i : Nat} {x : Str} {e : Expr} {te : TE} {pos' : Pos} (hN : X.N.Nodup) (hi : X.N[i]? = some x) (hx : Loc X.env.scope x) (he : PE X e te) (hs : swapsWith e (some (.Name x pos')) pos.line X.env = pure false := by rfl) (hf : X.fn x = true ∨ X.env.scope.names.lookup x = some .local := by first | exact .inl rfl | exact .inr rfl | assumption) :
  PS X (.Assign [.Name x pos'] e pos) (tAsg te (zle i)) := by
 intro pins s σ H D I h
 refine wpAny_Assign_Name (thn (he pins s σ H _ I h) λ v s1 ⟨y, H1, I1, r1, q1⟩ => ?_) hs
 exact zda I1 hN hi hx r1 (λ s2 I2 => ⟨_, H1, I2, q1⟩) hf
noncomputable def tPar (i j : Nat) (ta : TA) : TS := λ D σ H => ta σ H λ vs H1 => ∃ v w, vs = [v, w] /\ D.nx ((σ.set i (some v)).set j (some w)) H1
theorem zoh {i j : Nat} {x y : Str} {a b : Expr} {ta : TA} {px py pt : Pos} {kt k2 pt2} (hc : X.calm = true) (hN : X.N.Nodup) (hi : X.N[i]? = some x) (hj : X.N[j]? = some y) (hij : i ≠ j)
  (hx : X.env.scope.names.lookup x = some .local) (hy : X.env.scope.names.lookup y = some .local) (ha : PA X [a, b] ta)
  (hw : swappedStores [.Tuple [.Name x px, .Name y py] kt pt] (.Tuple [a, b] k2 pt2) X.env = pure (some [x, y]))
  (hs : swapsWithSole [.Tuple [.Name x px, .Name y py] kt pt] (.Tuple [a, b] k2 pt2) pos.line X.env = pure false := by rfl) :
  PS X (.Assign [.Tuple [.Name x px, .Name y py] kt pt] (.Tuple [a, b] k2 pt2) pos) (tPar i j ta) := by
 intro pins s σ H D I h
 rw [exec_Assign_arm]
 refine wpAny_bind (wpAny_standAt ?_)
 rw [hs]
 refine wpAny_bind (wpAny_pure ?_)
 rw [if_neg (by decide)]
 refine wpAny_bind (Tuple_ (thn (ha _ pins s σ H _ I h) λ us s1 ⟨vs, H1, I1, r1, q1⟩ => ?_))
 obtain ⟨v, w, e1, q1⟩ := q1
 subst e1
 obtain ⟨u1, u2, rfl, rv, rw'⟩ : ∃ u1 u2, us = [u1, u2] /\ RelV v u1 /\ RelV w u2 := by
  cases r1 with
  | cons p q =>
   cases q with
   | cons p' q' =>
    cases q'
    exact ⟨_, _, rfl, p, p'⟩
 refine wpAny_newObj_type ?_ (by show 2 <= sizeLine; decide)
 have I2 : Inv X pins σ H1 { s1 with heap := s1.heap.push { cls := .type "tuple", data := .seq [u1, u2].toArray } } := I1.kept (t' := s1.toks) λ b o e => Heap.get?_push_of_some _ e
 rw [hw]
 refine wpAny_bind (wpAny_pure ?_)
 show wpAny (model X.prog X.w) X.A (do rule "assign.swapped-stores"; let items <- unpackItems (.ref s1.heap.objs.size) 2 none; assignInOrder [λ v => bindName X.env y v, λ v => bindName X.env x v] items.reverse; pure Flow.next) _ _ _
 refine wpAny_bind (wpAny_rule (wpAny_bind (unpackItems_tuple (items := #[u1, u2]) (I.ok.hd hc) (IsTup.new s1.heap _) λ h' hx' => ?_)))
 have I3 := I2.kept (h' := h') (t' := s1.toks) λ b o e => hx' b o (Nat.ne_of_lt (Heap.lt_size e)) e
 show wpAny _ _ (assignInOrder [λ v => bindName X.env y v, λ v => bindName X.env x v] [u2, u1] >>= λ _ => pure Flow.next) _ _ _
 refine wpAny_bind (assignInOrder_cons (wpAny_bindName (zda I3 hN hj (.inl hy) rw' (λ s2 I4 => ?_) (.inr hy))))
 refine assignInOrder_cons (wpAny_bindName (zda I4 hN hi (.inl hx) rv (λ s3 I5 => assignInOrder_nil (wpAny_pure ?_)) (.inr hx)))
 rw [List.set_comm _ _ (Ne.symm hij)] at I5
 exact ⟨_, H1, I5, q1⟩
end
section
variable {X : Cx} {pos : Pos}
end
structure It where
 go : Nat -> Hp -> Prop
 yld : Nat -> Hp -> V -> Hp -> Prop
 stop : Nat -> Hp -> Prop
noncomputable def FpOk (X : Cx) (pins : List (Addr × Obj)) (H : Hp) (b : Addr) : Prop :=
 H b = none /\ b ≠ X.env.locals /\ b ∉ X.fs /\ (b ∈ X.ex ∨ X.s0.heap.objs.size <= b) /\ (∀ x c, X.env.cells.lookup x = some c -> c ≠ b) /\ ∀ p ∈ X.pn ++ pins, p.1 ≠ b
theorem Inv.fpOk {X : Cx} {pins : List (Addr × Obj)} {σ : St} {H H' : Hp} {s : Shared} {b : Addr} (I : Inv X pins σ H s) (hb : s.heap.objs.size <= b) (hn : H' b = none) : FpOk X pins H' b := by
 refine ⟨hn, Nat.ne_of_gt (Nat.lt_of_lt_of_le I.lt hb), I.nofs hb, .inr (Nat.le_trans I.sz hb), λ x c e z => ?_, λ p hp z => ?_⟩
 ·obtain ⟨v, q⟩ := I.cell x c e
  exact absurd (Nat.lt_of_lt_of_le q.lt (by rw [z]; exact hb)) (Nat.lt_irrefl _)
 ·exact absurd (Nat.lt_of_lt_of_le (Heap.lt_size (I.pin p hp).1) (by rw [z]; exact hb)) (Nat.lt_irrefl _)
structure Turn (P : Program) (w : World) (K : Frag) (tg : Expr) (J : It) (fp : List Addr) (it : Addr) (tn : Nat -> Heap -> Prop) : Prop where
 mem : it ∈ fp
 obj : ∀ i h, tn i h -> ∀ b ∈ fp, ∃ o, h.get? b = some o /\ ∀ v, o.data ≠ .cell v
 keep : ∀ i h h', tn i h -> (∀ b ∈ fp, ∀ o, h.get? b = some o -> h'.get? b = some o) -> tn i h'
 item : ∀ (X : Cx), X.prog = P -> X.w = w -> X.K = K -> X.calm = true -> ∀ (i : Nat) (pins : List (Addr × Obj)) (s : Shared) (σ : St) (H : Hp) (E : Value -> Shared -> Prop), Inv X pins σ H s -> (∀ b ∈ fp, FpOk X pins H b) -> tn i s.heap -> J.go i H ->
  wpAny (model P w) X.A (pyNext (.ref it)) (λ r s1 => ∃ u, r = some u /\
   wpAny (model P w) X.A (letOwnedTupleGo tg (.ref it) u) (λ _ s2 => ∃ x H', Inv X pins σ H' s2 /\ RelV x u /\ J.yld i H x H' /\ tn (i + 1) s2.heap /\ ∀ b ∈ fp, H' b = none) E s1) E s
 done : ∀ (X : Cx), X.prog = P -> X.w = w -> X.K = K -> X.calm = true -> ∀ (i : Nat) (pins : List (Addr × Obj)) (s : Shared) (σ : St) (H : Hp) (E : Value -> Shared -> Prop), Inv X pins σ H s -> (∀ b ∈ fp, FpOk X pins H b) -> tn i s.heap -> J.stop i H ->
  wpAny (model P w) X.A (pyNext (.ref it)) (λ r s1 => r = none /\ Inv X pins σ H s1) E s
 self : ∀ (A : Around) (i : Nat) (s : Shared) (Q : Value -> Shared -> Prop) (E : Value -> Shared -> Prop), tn i s.heap -> Q (.ref it) s -> wpAny (model P w) A (pyIter (.ref it)) Q E s
noncomputable abbrev TI := St -> Hp -> (It -> Hp -> Prop) -> Prop
inductive PIE (X : Cx) (pins : List (Addr × Obj)) (σ : St) (tg : Expr) (R : It -> Hp -> Prop) (itv : Value) (s2 : Shared) : Prop
 | mk (it : Addr) (fp : List Addr) (tn : Nat -> Heap -> Prop) (J : It) (H' : Hp) (e : itv = .ref it) (I : Inv X pins σ H' s2) (T : Turn X.prog X.w X.K tg J fp it tn) (t0 : tn 0 s2.heap) (f : (∀ b ∈ fp, FpOk X pins H' b)) (q : R J H')
noncomputable def PI (X : Cx) (tg iter : Expr) (wi : TI) : Prop :=
 ∀ (pins : List (Addr × Obj)) (s : Shared) (σ : St) (H : Hp) (R : It -> Hp -> Prop), Inv X pins σ H s -> wi σ H R ->
  wpAny (model X.prog X.w) X.A (eval iter X.env) (λ v s1 => wpAny (model X.prog X.w) X.A (pyIter v) (PIE X pins σ tg R) X.xe s1) X.xe s
theorem zmH {M : Model} {A : Around} {E : Value -> Shared -> Prop} {s : Shared} {tg : Expr} {it : Addr} {u : Value} {o : Obj} {n : String} {vs : Array Value} {Q : Unit -> Shared -> Prop} (ho : s.heap.get? it = some o) (hc : o.cls = .type n) (hd : o.data = .fields vs)
  (hn : ["enumerate", "zip", "dict_itemiterator", "dict_reverseitemiterator", "odict_iterator", "itertools.zip_longest", "itertools.pairwise"].contains n = false) (hQ : Q () s) : wpAny M A (letOwnedTupleGo tg (.ref it) u) Q E s := by
 unfold letOwnedTupleGo
 cases tg <;> first
  | exact wpAny_pure hQ
  | (cases u <;> first
    | exact wpAny_pure hQ
    | (
      refine wpAny_bind (wpAny_load ho ?_)
      rw [hc, hd]
      show wpAny M A (if (["enumerate", "zip", "dict_itemiterator", "dict_reverseitemiterator", "odict_iterator", "itertools.zip_longest", "itertools.pairwise"].contains n && vs[0]? == some (rawInt _)) = true then _ else _) Q E s
      rw [if_neg (by intro h; rw [hn, Bool.false_and] at h; cases h)]
      exact wpAny_pure hQ))
noncomputable def Itl (K : Frag) (a : Addr) : It :=
 ⟨λ i H => ∃ xs x, SqL K H a xs /\ xs[i]? = some x, λ i H x H' => H' = H /\ ∀ xs, SqL K H a xs -> xs[i]? = some x, λ i H => ∃ xs, SqL K H a xs /\ xs.length <= i⟩
noncomputable def Itt (K : Frag) (a : Addr) : It :=
 ⟨λ i H => ∃ xs x, SqT K H a xs /\ xs[i]? = some x, λ i H x H' => H' = H /\ ∀ xs, SqT K H a xs -> xs[i]? = some x, λ i H => ∃ xs, SqT K H a xs /\ xs.length <= i⟩
noncomputable def Itr (lo : Int) (n : Nat) : It := ⟨λ i _ => i < n, λ i H x H' => H' = H /\ x = .int (lo + i), λ i _ => n <= i⟩
theorem zjN {P : Program} {w : World} {K : Frag} {tg : Expr} (a it : Addr) : Turn P w K tg (Itl K a) [it] it (λ i h => h.IsListIter it a i) where
 mem := by simp
 obj := λ i h st b hb => by
  have e : b = it := by simpa using hb
  subst e
  obtain ⟨o, e, c, d⟩ := st
  exact ⟨o, e, λ v z => by rw [d] at z; cases z⟩
 keep := λ i h h' st k => st.at λ o e => k it (by simp) o e
 item := by
  intro X hP hw hK hc i pins s σ H E I hf st hg
  subst hP hw hK
  obtain ⟨xs, x, hq, hx⟩ := hg
  obtain ⟨its, rv, p, hz⟩ := I.list hq
  obtain ⟨u, hu, ru⟩ := rv.get hx
  obtain ⟨f0, f1, f2, f3, f4, f5⟩ := hf it (by simp)
  refine wpAny_pyNext_list_item st p.isList (x := u) (by simpa using hu) λ h' st' sb => ?_
  have I1 : Inv X pins σ H { s with heap := h' } := I.turned (t' := s.toks) (λ b o hb e => (sb.2 b hb).trans e) f0 f1 f3 f4 f5
  obtain ⟨o, e, c, d⟩ := id st'
  exact ⟨u, rfl, zmH (s := { s with heap := h' }) e c d (by decide) ⟨x, H, I1, ru, ⟨rfl, λ ys hy => by rw [I.list_inj hy hq]; exact hx⟩, st', λ b hb => (hf b hb).1⟩⟩
 done := by
  intro X hP hw hK hc i pins s σ H E I hf st hg
  subst hP hw hK
  obtain ⟨xs, hq, hx⟩ := hg
  obtain ⟨its, rv, p, hz⟩ := I.list hq
  obtain ⟨f0, f1, f2, f3, f4, f5⟩ := hf it (by simp)
  have hl := rv.length
  exact wpAny_pyNext_list_end (I.ok.hd hc) st p.isList (by simp; omega) λ h' eb => ⟨rfl, I.turned (t' := s.toks) (λ b o hb e => eb b o hb e) f0 f1 f3 f4 f5⟩
 self := λ _ _ _ _ _ st h => wpAny_pyIter_listiter st h
theorem ziV {P : Program} {w : World} {K : Frag} {tg : Expr} (a it : Addr) : Turn P w K tg (Itt K a) [it] it (λ i h => h.IsTupleIter it a i) where
 mem := by simp
 obj := λ i h st b hb => by
  have e : b = it := by simpa using hb
  subst e
  obtain ⟨o, e, c, d⟩ := st
  exact ⟨o, e, λ v z => by rw [d] at z; cases z⟩
 keep := λ i h h' st k => st.at λ o e => k it (by simp) o e
 item := by
  intro X hP hw hK hc i pins s σ H E I hf st hg
  subst hP hw hK
  obtain ⟨xs, x, hq, hx⟩ := hg
  obtain ⟨its, rv, p, hz⟩ := I.tuple hq
  obtain ⟨u, hu, ru⟩ := rv.get hx
  obtain ⟨f0, f1, f2, f3, f4, f5⟩ := hf it (by simp)
  refine wpAny_pyNext_tuple_item st (show s.heap.IsTuple a its.toArray from p) (x := u) (by simpa using hu) λ h' st' sb => ?_
  have I1 : Inv X pins σ H { s with heap := h' } := I.turned (t' := s.toks) (λ b o hb e => (sb.2 b hb).trans e) f0 f1 f3 f4 f5
  obtain ⟨o, e, c, d⟩ := id st'
  exact ⟨u, rfl, zmH (s := { s with heap := h' }) e c d (by decide) ⟨x, H, I1, ru, ⟨rfl, λ ys hy => by rw [I.tuple_inj hy hq]; exact hx⟩, st', λ b hb => (hf b hb).1⟩⟩
 done := by
  intro X hP hw hK hc i pins s σ H E I hf st hg
  subst hP hw hK
  obtain ⟨xs, hq, hx⟩ := hg
  obtain ⟨its, rv, p, hz⟩ := I.tuple hq
  obtain ⟨f0, f1, f2, f3, f4, f5⟩ := hf it (by simp)
  have hl := rv.length
  exact wpAny_pyNext_tuple_end (I.ok.hd hc) st (show s.heap.IsTuple a its.toArray from p) (by simp; omega) λ h' eb => ⟨rfl, I.turned (t' := s.toks) (λ b o hb e => eb b o hb e) f0 f1 f3 f4 f5⟩
 self := λ _ _ _ _ _ st h => wpAny_pyIter_tupleiter st h
theorem ziW {P : Program} {w : World} {K : Frag} {tg : Expr} (it : Addr) (lo : Int) (n : Nat) : Turn P w K tg (Itr lo n) [it] it (λ i h => IsRangeIter h it (lo + (i : Nat) * 1) ((n : Int) - (i : Nat)) 1) where
 mem := by simp
 obj := λ i h st b hb => by
  have e : b = it := by simpa using hb
  subst e
  exact ⟨_, st, λ v z => by
   have z' : Data.fields _ = Data.cell v := z
   cases z'⟩
 keep := λ i h h' st k => k it (by simp) _ st
 item := by
  intro X hP hw hK hc i pins s σ H E I hf st hg
  subst hP hw hK
  obtain ⟨f0, f1, f2, f3, f4, f5⟩ := hf it (by simp)
  have W := Walks.range (prog := X.prog) (w := X.w) (I.ok.hd hc) it lo 1 n
  refine W.item i s _ _ hg st λ v h' tk hv st' kk => ?_
  obtain ⟨t, rfl⟩ := hv
  have I1 : Inv X pins σ H { s with heap := h', toks := tk } := I.turned (λ b o hb e => kk b o (by simpa using hb) e) f0 f1 f3 f4 f5
  refine ⟨_, rfl, zmH (s := { s with heap := h', toks := tk }) (n := "range_iterator") st' rfl rfl (by decide) ⟨.int (lo + i), H, I1, ⟨t, ?_⟩, ⟨rfl, rfl⟩, st', λ b hb => (hf b hb).1⟩⟩
  rw [Int.mul_one]
 done := by
  intro X hP hw hK hc i pins s σ H E I hf st hg
  subst hP hw hK
  obtain ⟨f0, f1, f2, f3, f4, f5⟩ := hf it (by simp)
  exact wpAny_pyNext_range_end (I.ok.hd hc) st (by have : n <= i := hg; omega) λ h' eb => ⟨rfl, I.turned (t' := s.toks) (λ b o hb e => eb b o hb e) f0 f1 f3 f4 f5⟩
 self := λ _ _ _ _ _ st h => wpAny_pyIter_rangeiter st h
end L2
namespace L2
open PySem PySem.Spec PyProof.Rows
section
variable {X : Cx} {tg : Expr}
theorem zic {pins : List (Addr × Obj)} {σ : St} {H : Hp} {s : Shared} {R : It -> Hp -> Prop} {E : Value -> Shared -> Prop} {lo hi : Int} {t u v : Tok} {tk : Nat} (I : Inv X pins σ H s) (h1 : -(2 ^ 62) <= lo) (h2 : lo < 2 ^ 62) (h3 : -(2 ^ 62) <= hi) (h4 : hi < 2 ^ 62)
  (q : R (Itr lo (hi - lo).toNat) H) : wpAny (model X.prog X.w) X.A (pyIter (.ref s.heap.objs.size)) (PIE X pins σ tg R) E { s with heap := s.heap.push { cls := .type "range", data := .fields #[.int lo t, .int hi u, .int 1 v] }, toks := tk } := by
 refine wpAny_pyIter_range (IsRange.new ..) (small_one h1 h2 h3 h4) ?_
 have I1 : Inv X pins σ H { s with heap := s.heap.push { cls := .type "range", data := .fields #[.int lo t, .int hi u, .int 1 v] }, toks := tk } := I.kept λ b o e => Heap.get?_push_of_some _ e
 refine ⟨(s.heap.push { cls := .type "range", data := .fields #[.int lo t, .int hi u, .int 1 v] }).objs.size, [(s.heap.push { cls := .type "range", data := .fields #[.int lo t, .int hi u, .int 1 v] }).objs.size], _, _, H, rfl,
  I1.kept (t' := tk) λ b o e => Heap.get?_push_of_some _ e, ziW _ lo (hi - lo).toNat, ?_, λ b hb => ?_, q⟩
 ·have e1 : lo + ((0 : Nat) : Int) * 1 = lo := by simp
  have e2 : (((hi - lo).toNat : Nat) : Int) - ((0 : Nat) : Int) = Builtin.Range.rangeSize lo hi 1 := by rw [rangeSize_one]; split <;> omega
  show IsRangeIter _ _ (lo + ((0 : Nat) : Int) * 1) ((((hi - lo).toNat : Nat) : Int) - ((0 : Nat) : Int)) 1
  rw [e1, e2]
  exact Heap.get?_push_size _ rfl
 ·have e : b = (s.heap.push { cls := .type "range", data := .fields #[.int lo t, .int hi u, .int 1 v] }).objs.size := by simpa using hb
  subst e
  exact I1.fpOk (Nat.le_refl _) (I1.hok.fresh (Nat.le_refl _))
noncomputable def zps (ta : TA) : TI := λ σ H R => ta σ H λ vs H1 => ∃ j : Int, vs = [.int j] /\ -(2 ^ 62) <= j /\ j < 2 ^ 62 /\ R (Itr 0 j.toNat) H1
noncomputable def zpt (ta : TA) : TI := λ σ H R => ta σ H λ vs H1 => ∃ i j : Int, vs = [.int i, .int j] /\ (-(2 ^ 62) <= i /\ i < 2 ^ 62 /\ -(2 ^ 62) <= j /\ j < 2 ^ 62) /\ R (Itr i (j - i).toNat) H1
theorem zjr {a : Expr} {ta : TA} {p pos : Pos} (hg : Gl X "range") (hm : X.mg "range" = none) (ha : PA X [a] ta) (hs : starEach [a] X.env = [(false, eval a X.env)] := by rfl) : PI X tg (.Call (.Name "range" p) [a] [] pos) (zps ta) := by
 intro pins s σ H R I h
 refine Call_ (zeR I hg hm boot_range (PyProof.Rows.callWith_type1 (thn (ha pos pins s σ H _ I h) λ us s1 ⟨vs, H1, I1, r1, q1⟩ => ?_) hs rfl))
 obtain ⟨j, e, q1, q2, q⟩ := q1
 subst e
 cases r1 with
 | cons r rr =>
  cases rr
  obtain ⟨t, rfl⟩ := r
  exact call_range_1 (zic I1 (by omega) (by omega) q1 q2 (by simpa using q))
theorem zjJ {a b : Expr} {ta : TA} {p pos : Pos} (hg : Gl X "range") (hm : X.mg "range" = none) (ha : PA X [a, b] ta) (hs : starEach [a, b] X.env = [(false, eval a X.env), (false, eval b X.env)] := by rfl) (hs2 : starEach [b] X.env = [(false, eval b X.env)] := by rfl) :
  PI X tg (.Call (.Name "range" p) [a, b] [] pos) (zpt ta) := by
 intro pins s σ H R I h
 refine Call_ (zeR I hg hm boot_range (PyProof.Rows.callWith_type1 (thn (ha pos pins s σ H _ I h) λ us s1 ⟨vs, H1, I1, r1, q1⟩ => ?_) (by rw [hs, hs2]) (by rw [hs2]; rfl)))
 obtain ⟨i, j, e, ⟨q1, q2, q3, q4⟩, q⟩ := q1
 subst e
 cases r1 with
 | cons r rr =>
  cases rr with
  | cons r' rr =>
   cases rr
   obtain ⟨t, rfl⟩ := r
   obtain ⟨t', rfl⟩ := r'
   exact call_range_2 (zic I1 q1 q2 q3 q4 q)
noncomputable def tFor (wi : TI) (g : TG) (tb : TS) : TS := λ D σ H => wi σ H λ J H1 => ∃ W : Nat -> Nat -> St -> Hp -> Prop, (∃ m, W 0 m σ H1) /\ ∀ i m σ H, W i m σ H ->
 (J.stop i H /\ D.nx σ H) ∨ (J.go i H /\ ∃ N : St -> Hp -> Prop, (∀ σ' H', N σ' H' -> ∃ m', m' < m /\ W (i + 1) m' σ' H') /\ ∀ x H', J.yld i H x H' -> g x σ H' λ σ2 H2 => tb { D with nx := N, ct := N, bk := D.nx } σ2 H2)
noncomputable def zhj (fp : List Addr) (h : Heap) : List (Addr × Obj) := fp.filterMap λ b => (h.get? b).map λ o => (b, o)
theorem zde {fp : List Addr} {h : Heap} {b : Addr} {o : Obj} (hb : b ∈ fp) (e : h.get? b = some o) : (b, o) ∈ zhj fp h := List.mem_filterMap.mpr ⟨b, hb, by rw [e]; rfl⟩
theorem zj6 {fp : List Addr} {h : Heap} {p : Addr × Obj} (hp : p ∈ zhj fp h) : p.1 ∈ fp /\ h.get? p.1 = some p.2 := by
 obtain ⟨b, hb, e⟩ := List.mem_filterMap.mp hp
 cases q : h.get? b with
 | none => rw [q] at e; cases e
 | some o =>
  rw [q] at e
  have e' : (b, o) = p := Option.some.inj e
  subst e'
  exact ⟨hb, q⟩
theorem Inv.pinned {pins : List (Addr × Obj)} {σ : St} {H : Hp} {s : Shared} {fp : List Addr} (I : Inv X pins σ H s) (hf : ∀ b ∈ fp, FpOk X pins H b) (ho : ∀ b ∈ fp, ∃ o, s.heap.get? b = some o /\ ∀ v, o.data ≠ .cell v) : Inv X (pins ++ zhj fp s.heap) σ H s :=
 I.pins_of λ p hp => (List.mem_append.mp hp).elim (λ z => I.pin p (List.mem_append_right _ z)) λ z => by
  obtain ⟨hb, e⟩ := zj6 z
  obtain ⟨f0, f1, f2, _⟩ := hf p.1 hb
  obtain ⟨o, e', d⟩ := ho p.1 hb
  rw [e] at e'; cases e'
  exact ⟨e, f0, f1, f2, d⟩
theorem Inv.unpinned {pins pl : List (Addr × Obj)} {σ : St} {H : Hp} {s : Shared} (I : Inv X (pins ++ pl) σ H s) : Inv X pins σ H s := I.pins_of λ p hp => I.pin p (List.mem_append_right _ (List.mem_append_left _ hp))
theorem znX {iter : Expr} {body : List Stmt} {wi : TI} {g : TG} {tb : TS} {pos : Pos} (hp : PassesOwn (model X.prog X.w) X.A X.env X.xe) (hc : X.calm = true) (hi : PI X tg iter wi) (hg : PG X tg g) (hb : PSs X body tb)
  (hs : ∀ x, foldedSetIterable iter X.env x = pure x := by intro _; rfl) : PS X (.For tg iter body [] pos) (tFor wi g tb) := by
 intro pins s σ H D I h
 refine wpAny_For (thn (hi pins s σ H _ I h) λ v s1 h1 => thn h1 λ itv s2 h2 => ?_) hs
 obtain ⟨it, fp, tn, J, H2, e, I2, T, st2, f2, W, ⟨m0, w0⟩, turn⟩ := h2
 subst e
 have stat : ∀ {H' : Hp}, (∀ b ∈ fp, H' b = none) -> ∀ b ∈ fp, FpOk X pins H' b := λ hn b hb => ⟨hn b hb, (f2 b hb).2⟩
 refine codeAny_forLoop_any (λ n s' => ∃ i σ' H', Inv X pins σ' H' s' /\ tn i s'.heap /\ (∀ b ∈ fp, H' b = none) /\ W i n σ' H') ?_ m0 ⟨0, σ, H2, I2, st2, λ b hb => (f2 b hb).1, w0⟩
 rintro n s3 ⟨i, σ3, H3, I3, st3, fr3, w3⟩
 rcases turn i n σ3 H3 w3 with ⟨stop, qn⟩ | ⟨go, N, hN, step⟩
 ·refine wpAny_passesOwn hp (thn (T.done X rfl rfl rfl hc i pins s3 σ3 H3 X.xe I3 (stat fr3) st3 stop) λ r s4 ⟨hr, I4⟩ => ?_)
  subst hr
  exact wpAny_execs_nil ⟨σ3, H3, I4, qn⟩
 ·refine wpAny_passesOwn hp (thn (T.item X rfl rfl rfl hc i pins s3 σ3 H3 X.xe I3 (stat fr3) st3 go) λ r s4 ⟨u, hr, h4⟩ => ?_)
  subst hr
  refine wpAny_passesOwn hp (thn h4 λ _ s5 ⟨x, H5, I5, r5, y5, st5, fr5⟩ => ?_)
  have I5' := I5.pinned (stat fr5) (T.obj _ _ st5)
  refine wpAny_passesOwn hp (thn (hg _ s5 σ3 H5 x u _ I5' r5 (step x H5 y5)) λ _ s6 ⟨σ6, H6, I6, q6⟩ => ?_)
  refine wpAny_passesOwn hp (thn (hb _ s6 σ6 H6 _ I6 q6) λ f s7 q7 => ?_)
  have again : ∀ {σ7 : St} {H7 : Hp}, Inv X (pins ++ zhj fp s5.heap) σ7 H7 s7 -> N σ7 H7 -> ∃ m, m < n /\ ∃ i σ' H', Inv X pins σ' H' s7 /\ tn i s7.heap /\ (∀ b ∈ fp, H' b = none) /\ W i m σ' H' := λ {σ7 H7} I7 n7 => by
   obtain ⟨m', hm, w7⟩ := hN σ7 H7 n7
   refine ⟨m', hm, i + 1, σ7, H7, I7.unpinned, T.keep _ _ _ st5 λ b hb o e => (I7.pin (b, o) (List.mem_append_right _ (List.mem_append_right _ (zde hb e)))).1, λ b hb => ?_, w7⟩
   obtain ⟨o, e, d⟩ := T.obj _ _ st5 b hb
   exact (I7.pin (b, o) (List.mem_append_right _ (List.mem_append_right _ (zde hb e)))).2.1
  cases f with
  | next => obtain ⟨σ7, H7, I7, n7⟩ := q7; exact again I7 n7
  | cont => obtain ⟨σ7, H7, I7, n7⟩ := q7; exact again I7 n7
  | brk => obtain ⟨σ7, H7, I7, q7⟩ := q7; exact ⟨σ7, H7, I7.unpinned, q7⟩
  | ret v => obtain ⟨x7, σ7, H7, I7, r7, q7⟩ := q7; exact ⟨x7, σ7, H7, I7.unpinned, r7, q7⟩
end
end L2
namespace L2
open PySem PySem.Spec PyProof.Rows
noncomputable abbrev R2 := V -> V -> Hp -> VK -> Prop
noncomputable def OpR (X : Cx) (f : Value -> Value -> Sem Value) (r : R2) : Prop :=
 ∀ (pins : List (Addr × Obj)) (s : Shared) (σ : St) (H : Hp) (x y : V) (v u : Value) (Q : VK), Inv X pins σ H s -> RelV x v -> RelV y u -> r x y H Q ->
  wpAny (model X.prog X.w) X.A (f v u) (EP X pins σ Q) X.xe s
noncomputable def zcV (X : Cx) (f : Value) (r : List V -> Hp -> VK -> Prop) : Prop :=
 ∀ (pins : List (Addr × Obj)) (s : Shared) (σ : St) (H : Hp) (xs : List V) (us : List Value) (Q : VK), Inv X pins σ H s -> Vals xs us -> r xs H Q ->
  wpAny (model X.prog X.w) X.A (call f us) (EP X pins σ Q) X.xe s
noncomputable def tOp (r : R2) (ta tb : TE) : TE := λ σ H Q => ta σ H λ x H1 => tb σ H1 λ y H2 => r x y H2 Q
noncomputable def tUn (r : V -> Hp -> VK -> Prop) (ta : TE) : TE := λ σ H Q => ta σ H λ x H1 => r x H1 Q
noncomputable def rI (C : Int -> Int -> Prop) (g : Int -> Int -> V) : R2 := λ x y H Q => ∃ i j, x = .int i /\ y = .int j /\ C i j /\ Q (g i j) H
noncomputable def rI0 (g : Int -> Int -> V) : R2 := λ x y H Q => ∃ i j, x = .int i /\ y = .int j /\ Q (g i j) H
section
variable {X : Cx} {a b c : Expr} {ta tb tc : TE} {pos : Pos}
theorem binT (ha : PE X a ta) (hb : PE X b tb) {pins : List (Addr × Obj)} {s : Shared} {σ : St} {H : Hp} {R : V -> V -> Hp -> Prop} (I : Inv X pins σ H s)
  (h : ta σ H λ x H1 => tb σ H1 λ y H2 => R x y H2) {Q : Value -> Shared -> Prop} {f : Value -> Value -> Sem Value}
  (hf : ∀ v u s2 x y H2, Inv X pins σ H2 s2 -> RelV x v -> RelV y u -> R x y H2 -> wpAny (model X.prog X.w) X.A (f v u) Q X.xe s2) :
  wpAny (model X.prog X.w) X.A (eval a X.env) (λ v s₁ => wpAny (model X.prog X.w) X.A (eval b X.env) (λ u s₂ => wpAny (model X.prog X.w) X.A (f v u) Q X.xe s₂) X.xe s₁) X.xe s := by
 refine thn (ha pins s σ H _ I h) λ v s1 ⟨x, H1, I1, r1, q1⟩ => ?_
 refine thn (hb pins s1 σ H1 _ I1 q1) λ u s2 ⟨y, H2, I2, r2, q2⟩ => ?_
 exact hf v u s2 x y H2 I2 r1 r2 q2
theorem zpm {op : Operator} {r : R2} (ho : OpR X (binaryOp op) r) (ha : PE X a ta) (hb : PE X b tb) : PE X (.BinOp a op b pos) (tOp r ta tb) := by
 intro pins s σ H Q I h
 exact wpAny_BinOp (binT ha hb I h λ v u s2 x y H2 I2 rx ry q => ho pins s2 σ H2 x y v u Q I2 rx ry q)
theorem opI {f : Value -> Value -> Sem Value} {C : Int -> Int -> Prop} {g : Int -> Int -> Int}
  (rule : ∀ (i j : Int) (t u : Tok) (s : Shared) (Q : Value -> Shared -> Prop) (E : Value -> Shared -> Prop), C i j -> Q (.int (g i j) s.toks) { s with toks := s.toks + 1 } -> wpAny (model X.prog X.w) X.A (f (.int i t) (.int j u)) Q E s) :
  OpR X f (rI C λ i j => .int (g i j)) := by
 intro pins s σ H x y v u Q I rx ry h
 obtain ⟨i, j, rfl, rfl, hc, q⟩ := h
 obtain ⟨t, rfl⟩ := rx
 obtain ⟨t', rfl⟩ := ry
 exact rule i j t t' s _ _ hc ⟨.int (g i j), H, I.tok _, ⟨_, rfl⟩, q⟩
theorem opI0 {f : Value -> Value -> Sem Value} {g : Int -> Int -> Int}
  (rule : ∀ (i j : Int) (t u : Tok) (s : Shared) (Q : Value -> Shared -> Prop) (E : Value -> Shared -> Prop), Q (.int (g i j) s.toks) { s with toks := s.toks + 1 } -> wpAny (model X.prog X.w) X.A (f (.int i t) (.int j u)) Q E s) :
  OpR X f (rI0 λ i j => .int (g i j)) := by
 intro pins s σ H x y v u Q I rx ry h
 obtain ⟨i, j, rfl, rfl, q⟩ := h
 obtain ⟨t, rfl⟩ := rx
 obtain ⟨t', rfl⟩ := ry
 exact rule i j t t' s _ _ ⟨.int (g i j), H, I.tok _, ⟨_, rfl⟩, q⟩
theorem opB0 {f : Value -> Value -> Sem Value} {g : Int -> Int -> Bool}
  (rule : ∀ (i j : Int) (t u : Tok) (s : Shared) (Q : Value -> Shared -> Prop) (E : Value -> Shared -> Prop), Q (.bool (g i j)) s -> wpAny (model X.prog X.w) X.A (f (.int i t) (.int j u)) Q E s) :
  OpR X f (rI0 λ i j => .bl (g i j)) := by
 intro pins s σ H x y v u Q I rx ry h
 obtain ⟨i, j, rfl, rfl, q⟩ := h
 obtain ⟨t, rfl⟩ := rx
 obtain ⟨t', rfl⟩ := ry
 exact rule i j t t' s _ _ ⟨.bl (g i j), H, I, rfl, q⟩
noncomputable def CDiv (i j : Int) : Prop := 0 < j /\ j < 1073741824
noncomputable def CPow (i j : Int) : Prop := 0 <= j /\ j <= 1000000 /\ i.natAbs < 2 ^ 64
noncomputable def CMul (i j : Int) : Prop := (-(2 ^ 64) < i /\ i < 2 ^ 64) ∨ (-(2 ^ 64) < j /\ j < 2 ^ 64)
theorem CMul.ok {i j : Int} (h : CMul i j) : IntMulOk i j := by
 rcases h with ⟨h1, h2⟩ | ⟨h1, h2⟩
 ·exact .of_left (intBits_le_64 h1 h2)
 ·exact .of_right (intBits_le_64 h1 h2)
theorem zoQ : OpR X (binaryOp .Add) (rI0 λ i j => .int (i + j)) := opI0 λ _ _ _ _ _ _ _ q => add_int q
theorem zoT : OpR X (binaryOp .Sub) (rI0 λ i j => .int (i - j)) := opI0 λ _ _ _ _ _ _ _ q => sub_int q
theorem zoa : OpR X (binaryOp .Mult) (rI CMul λ i j => .int (i * j)) := opI λ _ _ _ _ _ _ _ hc q => mul_int q hc.ok
theorem zmM : OpR X (binaryOp .FloorDiv) (rI CDiv λ i j => .int (i / j)) := opI λ i j _ _ _ _ _ hc q => by
 have h1 : (0 : Int) < j := hc.1
 have h2 : j < 1073741824 := hc.2
 exact floordiv_int (by omega) (by rw [Int.fdiv_eq_ediv_of_nonneg i (by omega)]; exact q) (.inl (PyProof.noPylong_small (by omega)))
theorem zoI : OpR X (binaryOp .Mod) (rI (λ _ j => 0 < j) λ i j => .int (i % j)) := opI λ i j _ _ _ _ _ hc q => by
 have h1 : (0 : Int) < j := hc
 exact mod_int' (by omega) (by rw [Int.fmod_eq_emod_of_nonneg i (by omega)]; exact q)
theorem znL : OpR X (binaryOp .Pow) (rI CPow λ i j => .int (i ^ j.toNat)) := opI λ _ _ _ _ _ _ _ hc q => pow_int_small hc.1 hc.2.1 hc.2.2 q
theorem zn4 : OpR X (binaryOp .LShift) (rI CPow λ i j => .int (i * 2 ^ j.toNat)) := opI λ _ _ _ _ _ _ _ hc q => lshift_int_small hc.1 hc.2.1 hc.2.2 q
theorem zoA : OpR X (binaryOp .BitXor) (rI0 λ i j => .int (Builtin.bitXor i j)) := opI0 λ _ _ _ _ _ _ _ q => xor_int q
end
section
variable {X : Cx} {a b c : Expr} {ta tb tc : TE} {pos : Pos}
theorem znI {pins : List (Addr × Obj)} {σ : St} {H : Hp} {s : Shared} {Q : VK} {k k' : Bool} (I : Inv X pins σ H s) (q : Q (.bl k) H) (e : k = k') : EP X pins σ Q (.bool k') s := by
 subst e
 exact ⟨.bl k, H, I, rfl, q⟩
theorem zpu : OpR X (compareOp .Lt) (rI0 λ i j => .bl (decide (i < j))) := opB0 λ _ _ _ _ _ _ _ q => lt_int q
theorem zpP : OpR X (compareOp .LtE) (rI0 λ i j => .bl (decide (i <= j))) := opB0 λ _ _ _ _ _ _ _ q => le_int q
theorem zpl : OpR X (compareOp .Gt) (rI0 λ i j => .bl (decide (j < i))) := opB0 λ _ _ _ _ _ _ _ q => gt_int q
theorem zpc : OpR X (compareOp .GtE) (rI0 λ i j => .bl (decide (j <= i))) := opB0 λ _ _ _ _ _ _ _ q => ge_int q
theorem zok : OpR X (compareOp .Is) (λ x y H Q => y = .non /\ Q (.bl (decide (x = .non))) H) := by
 intro pins s σ H x y v u Q I rx ry h
 obtain ⟨rfl, q⟩ := h
 cases ry
 refine is_none_gen (znI I q ?_)
 cases x <;> first
  | (cases rx; rfl)
  | (obtain ⟨t, rfl⟩ := rx; rfl)
theorem OpR.or {f : Value -> Value -> Sem Value} {r r' : R2} (h : OpR X f r) (h' : OpR X f r') : OpR X f (λ x y H Q => r x y H Q ∨ r' x y H Q) := by
 intro pins s σ H x y v u Q I rx ry q
 rcases q with q | q
 ·exact h pins s σ H x y v u Q I rx ry q
 ·exact h' pins s σ H x y v u Q I rx ry q
theorem zm5 {op : CmpOp} {r : R2} (ho : OpR X (compareOp op) r) (ha : PE X a ta) (hb : PE X b tb) (hm : behindInMarks op b = false) : PE X (.Compare a [op] [b] pos) (tOp r ta tb) := by
 intro pins s σ H Q I h
 exact wpAny_Compare1 (binT ha hb I h λ v u s2 x y H2 I2 rx ry q => ho pins s2 σ H2 x y v u Q I2 rx ry q) hm
noncomputable def znG (t : TE) : TT := λ σ H Q => t σ H λ x H' => ∃ k, x = .bl k /\ Q k H'
theorem zmr {op : CmpOp} {r : R2} (ho : OpR X (compareOp op) r) (ha : PE X a ta) (hb : PE X b tb) (hm : behindInMarks op b = false) : PT X (.Compare a [op] [b] pos) (znG (tOp r ta tb)) := by
 intro pins s σ H Q I h
 refine wpAny_isTrue_Compare1 (thn (ha pins s σ H _ I h) λ v s1 ⟨x, H1, I1, r1, q1⟩ => thn (hb pins s1 σ H1 _ I1 q1) λ u s2 ⟨y, H2, I2, r2, q2⟩ =>
  thn (ho pins s2 σ H2 x y v u _ I2 r1 r2 q2) λ c s3 ⟨z, H3, I3, r3, k, e, q3⟩ => ?_) hm
 subst e
 cases r3
 exact wpAny_truthy_bool ⟨H3, I3, q3⟩
noncomputable def zjB (r r' : R2) (ta tb tc : TE) : TE := λ σ H Q => ta σ H λ x H1 => tb σ H1 λ y H2 => r x y H2 λ z H3 => ∃ k, z = .bl k /\
 (if k = true then tc σ H3 λ w' H4 => r' y w' H4 Q else Q (.bl false) H3)
theorem zkA {op op' : CmpOp} {r r' : R2} (ho : OpR X (compareOp op) r) (ho' : OpR X (compareOp op') r') (ha : PE X a ta) (hb : PE X b tb) (hc : PE X c tc)
  (hm : lastMarks [op, op'] [b, c] = false := by with_unfolding_all rfl) : PE X (.Compare a [op, op'] [b, c] pos) (zjB r r' ta tb tc) := by
 intro pins s σ H Q I h
 refine Compare_chain (thn (ha pins s σ H _ I h) λ v s1 ⟨x, H1, I1, r1, q1⟩ => chain_link (thn (hb pins s1 σ H1 _ I1 q1) λ u s2 ⟨y, H2, I2, r2, q2⟩ =>
  thn (ho pins s2 σ H2 x y v u _ I2 r1 r2 q2) λ d s3 ⟨z, H3, I3, r3, k, e, q3⟩ => ?_)) hm
 subst e
 cases r3
 refine wpAny_truthy_bool ?_
 cases k with
 | false => exact ite_ff ⟨.bl false, H3, I3, rfl, q3⟩
 | true => exact ite_tt (chain_last (thn (hc pins s3 σ H3 _ I3 q3) λ w' s4 ⟨z', H4, I4, r4, q4⟩ => ho' pins s4 σ H4 y z' u w' Q I4 r2 r4 q4))
theorem zlc {op op' : CmpOp} {r r' : R2} (ho : OpR X (compareOp op) r) (ho' : OpR X (compareOp op') r') (ha : PE X a ta) (hb : PE X b tb) (hc : PE X c tc)
  (hm : lastMarks [op, op'] [b, c] = false := by with_unfolding_all rfl) : PT X (.Compare a [op, op'] [b, c] pos) (znG (zjB r r' ta tb tc)) := by
 intro pins s σ H Q I h
 refine isTrue_chain (thn (ha pins s σ H _ I h) λ v s1 ⟨x, H1, I1, r1, q1⟩ => test_link (thn (hb pins s1 σ H1 _ I1 q1) λ u s2 ⟨y, H2, I2, r2, q2⟩ =>
  thn (ho pins s2 σ H2 x y v u _ I2 r1 r2 q2) λ d s3 ⟨z, H3, I3, r3, k, e, q3⟩ => ?_)) hm
 subst e
 cases r3
 refine wpAny_truthy_bool ?_
 cases k with
 | false =>
  obtain ⟨k', e', q'⟩ := q3
  cases e'
  exact ite_ff ⟨H3, I3, q'⟩
 | true =>
  refine ite_tt (test_last (thn (hc pins s3 σ H3 _ I3 q3) λ w' s4 ⟨z', H4, I4, r4, q4⟩ => thn (ho' pins s4 σ H4 y z' u w' _ I4 r2 r4 q4) λ d' s5 ⟨z2, H5, I5, r5, k2, e2, q5⟩ => ?_))
  subst e2
  cases r5
  exact wpAny_truthy_bool ⟨H5, I5, q5⟩
theorem zfy : (sizeLine : Nat) < 2 ^ 63 := by rw [sizeLine_eq]; decide
theorem vals1 {x : V} {us : List Value} (r : Vals [x] us) : ∃ u, us = [u] /\ RelV x u := by
 cases r with
 | cons r1 r2 => cases r2; exact ⟨_, rfl, r1⟩
theorem vals2 {x y : V} {us : List Value} (r : Vals [x, y] us) : ∃ u w', us = [u, w'] /\ RelV x u /\ RelV y w' := by
 cases r with
 | cons r1 r2 =>
  cases r2 with
  | cons r3 r4 => cases r4; exact ⟨_, _, rfl, r1, r3⟩
theorem zj0 (hc : X.calm = true) : zcV X (.builtin "max") (λ xs H Q => ∃ i j, xs = [.int i, .int j] /\ Q (.int (if j > i then j else i)) H) := by
 intro pins s σ H xs us Q I r h
 obtain ⟨i, j, rfl, q⟩ := h
 obtain ⟨u, w', rfl, ⟨t, rfl⟩, ⟨t', rfl⟩⟩ := vals2 r
 refine max_two_ints (I.ok.hd hc) λ h' tk k => ⟨_, H, I.kept k, ?_, q⟩
 by_cases hj : j > i
 ·rw [if_pos hj, if_pos hj]; exact ⟨_, rfl⟩
 ·rw [if_neg hj, if_neg hj]; exact ⟨_, rfl⟩
theorem zjH (hc : X.calm = true) : zcV X (.builtin "min") (λ xs H Q => ∃ i j, xs = [.int i, .int j] /\ Q (.int (if j < i then j else i)) H) := by
 intro pins s σ H xs us Q I r h
 obtain ⟨i, j, rfl, q⟩ := h
 obtain ⟨u, w', rfl, ⟨t, rfl⟩, ⟨t', rfl⟩⟩ := vals2 r
 refine min_two_ints (I.ok.hd hc) λ h' tk k => ⟨_, H, I.kept k, ?_, q⟩
 by_cases hj : j < i
 ·rw [if_pos hj, if_pos hj]; exact ⟨_, rfl⟩
 ·rw [if_neg hj, if_neg hj]; exact ⟨_, rfl⟩
theorem zjf : zcV X (.type "int") (λ xs H Q => (∃ i, xs = [.int i] /\ Q (.int i) H) ∨ ∃ k, xs = [.bl k] /\ Q (.int (if k then 1 else 0)) H) := by
 intro pins s σ H xs us Q I r h
 rcases h with ⟨i, rfl, q⟩ | ⟨k, rfl, q⟩
 ·obtain ⟨u, rfl, t, rfl⟩ := vals1 r
  exact call_int_int ⟨.int i, H, I, ⟨_, rfl⟩, q⟩
 ·obtain ⟨u, rfl, r1⟩ := vals1 r
  cases r1
  exact call_int_bool ⟨.int (if k then 1 else 0), H, I.tok _, ⟨_, rfl⟩, q⟩
end
end L2
namespace L2
open PySem PySem.Spec PyProof.Rows
structure ObjM (h : Heap) (x dx C : Addr) (mA : Str -> Option Value) : Prop where
 obj : h.get? x = some (PySem.W.instObj C dx)
 ns : h.Ns1 dx mA
 ne : dx ≠ x
theorem zjy {h : Heap} {dx : Addr} {mA : Str -> Option Value} (n : h.Ns1 dx mA) : ∃ od, h.get? dx = some od /\ ∀ name, PySem.W.lookIn name od = some (mA name) := by
 obtain ⟨o, es, ep, ho, hd, hk, _, hm⟩ := n
 refine ⟨o, ho, λ name => ?_⟩
 have e := hm name
 unfold nsFind findBy at e
 rw [<- Array.find?_toList] at e
 unfold PySem.W.lookIn
 rw [hd]
 dsimp only
 split
 ·rename_i y q
  rw [q] at e
  exact congrArg some e
 ·rename_i q
  rw [q] at e
  have a : es.toList.any (·.refKey) = false := by
   rw [List.any_eq_false]
   intro y hy
   obtain ⟨z, t, hkey⟩ := hk y (Array.mem_toList_iff.mp hy)
   simp [DictEntry.refKey, hkey]
  have a' : ¬ es.toList.any (·.refKey) = true := by rw [a]; exact Bool.false_ne_true
  rw [if_neg a']
  exact congrArg some e
theorem ObjM.look {h : Heap} {x dx C : Addr} {mA : Str -> Option Value} (I : ObjM h x dx C mA) : ∃ od, PySem.W.InstAt h x (PySem.W.instObj C dx) C (some od) /\ ∀ name, PySem.W.lookIn name od = some (mA name) :=
 let ⟨od, ho, hl⟩ := zjy I.ns
 ⟨od, ⟨I.obj, rfl, rfl, ho⟩, hl⟩
section
variable {prog : Program} {w : World} {A : Around} {E : Value -> Shared -> Prop} {s : Shared} {K : Frag} {x dx C f : Addr} {mA : Str -> Option Value} {name : Str} {v : Value}
end
section
variable {P : Program} {w : World} {H H' : Hp} {h h' : Heap} {a C dx : Addr} {fs fs' : List (Str × V)}
theorem zl2 (hok : HOk P w H h) (e : H a = some (.ins C dx fs)) : ∃ mA, ObjM h a dx C mA /\ (∀ f, RelO (fs.lookup f) (mA f)) /\ PySem.Within mA (fs.map (·.1)) /\ fs.length <= 1000 /\ H dx = some (.own a) := by
 obtain ⟨d, z, ne, ob, mA, n, r, q⟩ := (show zZ P w H h a (.ins C dx fs) from hok a _ e)
 exact ⟨mA, ⟨ob, n, ne⟩, r, q, z, d⟩
end
structure Cls (K : Frag) (C : Addr) : Prop where
 pg : PySem.W.plainGet K C Str.empty = true
 hd : PySem.W.hasDictIn K C = true
 po : PySem.W.plainOver K C = true
 sa : PySem.W.findIn K (.ref C) "__setattr__" = some (some (.builtin "object.__setattr__"))
theorem Cls.get {K : Frag} {C : Addr} (c : Cls K C) (f : Str) : PySem.W.plainGet K C f = true := c.pg
section
variable {X : Cx} {pins : List (Addr × Obj)} {σ : St} {H : Hp} {s : Shared} {a C dx : Addr} {fs : List (Str × V)} {f : Str} {v : V} {A : Around} {E : Value -> Shared -> Prop}
end
section
variable {X : Cx} {o e value : Expr} {f : Str} {pos pos' tpos : Pos} {ta tv : TE}
end
section
variable {X : Cx} {pins : List (Addr × Obj)} {σ : St} {H : Hp} {s : Shared} {A : Around} {E : Value -> Shared -> Prop} {Q : Value -> Shared -> Prop} {c : Value} {b : Bool}
inductive TyOf (K : Frag) (H : Hp) : V -> Value -> Prop where
 | non : TyOf K H .non (.type "NoneType")
 | bl (x : Bool) : TyOf K H (.bl x) (.type "bool")
 | int (i : Int) : TyOf K H (.int i) (.type "int")
 | str (x : Str) : TyOf K H (.str x) (.type "str")
 | flt (x : UInt64) : TyOf K H (.flt x) (.type "float")
 | lst {a : Addr} {xs : List V} (e : H a = some (.lst xs)) : TyOf K H (.ref a) (.type "list")
 | frz {a : Addr} {o : Obj} {xs : List V} (e : H a = some (.frz o (.lst xs))) : TyOf K H (.ref a) (.type "list")
 | tup {a : Addr} {xs : List V} (e : H a = some (.tup xs)) : TyOf K H (.ref a) (.type "tuple")
 | dK {a : Addr} {kvs : List (Key × V)} (e : H a = some (.dK kvs)) : TyOf K H (.ref a) (.type "dict")
 | dT {a : Addr} {kvs : List (List Key × V)} (e : H a = some (.dT kvs)) : TyOf K H (.ref a) (.type "dict")
 | ins {a C dx : Addr} {fs : List (Str × V)} (e : H a = some (.ins C dx fs)) (cl : Cls K C) (ha : PySem.W.findIn K (.ref C) "__class__" = some (some (.builtin "object.__class__")))
   (hn : PySem.W.specialIn K (.builtin "object.__class__") "__get__" = some (some (.builtin "getset_descriptor.__get__"))) (htk : PySem.W.takesIn K (.builtin "object.__class__") = some true)
   (hm : PySem.W.mroIn K C (.type "object") = some true) : TyOf K H (.ref a) (.ref C)
theorem zho {x : V} {u t : Value} (I : Inv X pins σ H s) (rx : RelV x u) (ty : TyOf X.K H x t) (e : PySem.W.kitOne X.K t c = some b) (h : ∀ tk, Q (.bool b) { s with toks := tk }) :
  wpAny (model X.prog X.w) A (call (.builtin "isinstance") [u, c]) Q E s := by
 cases ty with
 | non => cases (show u = Value.none from rx); exact PySem.W.kia_one PySem.W.kitx_none I.kIn True.intro e (λ z => nomatch z) h
 | bl y => cases (show u = Value.bool y from rx); exact PySem.W.kia_one PySem.W.kitx_bool I.kIn True.intro e (λ z => nomatch z) h
 | int i => obtain ⟨t, q⟩ := (show ∃ t, u = Value.int i t from rx); cases q; exact PySem.W.kia_one PySem.W.kitx_int I.kIn True.intro e (λ z => nomatch z) h
 | str y => obtain ⟨t, q⟩ := (show ∃ t, u = Value.str y t from rx); cases q; exact PySem.W.kia_one PySem.W.kitx_str I.kIn True.intro e (λ z => nomatch z) h
 | flt y => obtain ⟨t, q⟩ := (show ∃ t, u = Value.float y t from rx); cases q; exact PySem.W.kia_one PySem.W.kitx_float I.kIn True.intro e (λ z => nomatch z) h
 | @lst a xs ea =>
  cases (show u = Value.ref a from rx)
  obtain ⟨_, _, n, _, h1⟩ := (show zZ X.prog X.w H s.heap a (.lst xs) from I.hok a _ ea)
  exact PySem.W.kia_one PySem.W.kitx_list I.kIn ⟨_, h1, rfl⟩ e (λ z => nomatch z) h
 | @frz a ob xs ea =>
  cases (show u = Value.ref a from rx)
  obtain ⟨_, _, _, n, _, h1⟩ := (show zZ X.prog X.w H s.heap a (.frz ob (.lst xs)) from I.hok a _ ea)
  exact PySem.W.kia_one PySem.W.kitx_list I.kIn ⟨_, h1, rfl⟩ e (λ z => nomatch z) h
 | @tup a xs ea =>
  cases (show u = Value.ref a from rx)
  obtain ⟨_, _, _, p⟩ := (show zZ X.prog X.w H s.heap a (.tup xs) from I.hok a _ ea)
  obtain ⟨o, h1, h2, _⟩ := p
  exact PySem.W.kia_one PySem.W.kitx_tuple I.kIn ⟨o, h1, h2.1⟩ e (λ z => nomatch z) h
 | @dK a kvs ea =>
  cases (show u = Value.ref a from rx)
  obtain ⟨_, _, vs, _, p⟩ := (show zZ X.prog X.w H s.heap a (.dK kvs) from I.hok a _ ea)
  obtain ⟨o, es, ep, h1, h2, _⟩ := p
  exact PySem.W.kia_one PySem.W.kitx_dict I.kIn ⟨o, h1, h2.1⟩ e (λ z => nomatch z) h
 | @dT a kvs ea =>
  cases (show u = Value.ref a from rx)
  obtain ⟨_, _, xs, _, o, es, ep, h1, h2, _⟩ := (show zZ X.prog X.w H s.heap a (.dT kvs) from I.hok a _ ea)
  exact PySem.W.kia_one PySem.W.kitx_dict I.kIn ⟨o, h1, h2.1⟩ e (λ z => nomatch z) h
 | @ins a C dx fs ea cl ha hn htk hm =>
  cases (show u = Value.ref a from rx)
  obtain ⟨mA, O, _⟩ := zl2 I.hok ea
  obtain ⟨od, J, _⟩ := O.look
  exact PySem.W.kia_one (PySem.W.kitx_own (cl.get _) cl.hd ha hn htk hm) I.kIn J e (λ z => nomatch z) h
end
end L2
namespace L2
open PySem PySem.Spec PyProof.Rows
structure Room (k : Nat) (A : Around) : Prop where
 hd : A.handled = none
 dp : A.depth + 3 * k + 5 < recursionLimit
 un : A.units + 16 * k + 200 < cLine
theorem Room.mono {j k : Nat} {A : Around} (r : Room k A) (h : j <= k) : Room j A := ⟨r.hd, by have := r.dp; omega, by have := r.un; omega⟩
theorem Room.deeper {k : Nat} {A : Around} (r : Room (k + 1) A) (env : Env) : Room k (A.deeper env) :=
 ⟨r.hd, by have := r.dp; show A.depth + 1 + 3 * k + 5 < _; omega, by have := r.un; show A.units + 3 + 16 * k + 200 < _; omega⟩
theorem Room.depth {k : Nat} {A : Around} (r : Room k A) : A.depth < recursionLimit := by have := r.dp; omega
theorem Room.units {k : Nat} {A : Around} (r : Room k A) : A.units + 64 < cLine := by have := r.un; omega
noncomputable def tNil : TA := λ _ H Q => Q [] H
noncomputable def zkU (ta : TE) (tr : TA) : TA := λ σ H Q => ta σ H λ x H1 => tr σ H1 λ xs H2 => Q (x :: xs) H2
section
variable {X : Cx} {e : Expr} {es : List Expr} {te : TE} {t : TA} {pos : Pos}
theorem zbh : PA X [] tNil := λ _ _ _ _ H Q I h => Calls.spliced_nil ⟨[], H, I, .nil, h⟩
theorem zar (ha : PE X e te) (hr : PA X es t) (hs : starEach (e :: es) X.env = (false, eval e X.env) :: starEach es X.env := by rfl) : PA X (e :: es) (zkU te t) := by
 intro pos pins s σ H Q I h
 rw [hs]
 show wpAny _ _ (spliced ((false, eval e X.env) :: backTo pos (starEach es X.env))) _ _ s
 refine Calls.spliced_cons (thn (ha pins s σ H _ I h) λ u s1 ⟨x, H1, I1, r1, q1⟩ => ?_)
 exact thn (hr pos pins s1 σ H1 _ I1 q1) λ us s2 ⟨xs, H2, I2, r2, q2⟩ => ⟨x :: xs, H2, I2, .cons r1 r2, q2⟩
noncomputable def tTup (t : TA) : TE := λ σ H Q => t σ H λ xs H1 => xs.length <= sizeLine /\ ∀ p, H1 p = none -> Q (.ref p) (upd H1 p (.tup xs))
noncomputable def tLst (t : TA) : TE := λ σ H Q => t σ H λ xs H1 => xs.length <= sizeLine /\ ∀ p, H1 p = none -> Q (.ref p) (upd H1 p (.lst xs))
theorem zlM {x1} (h : PA X es t) : PE X (.Tuple es x1 pos) (tTup t) := by
 intro pins s σ H Q I hq
 refine wpAny_Tuple_spliced (thn (h pos pins s σ H _ I hq) λ us s1 ⟨xs, H1, I1, r, z, q⟩ => ⟨by rw [<- r.length]; exact z, ?_⟩)
 have hf : H1 s1.heap.objs.size = none := I1.hok.fresh (Nat.le_refl _)
 refine ⟨.ref s1.heap.objs.size, upd H1 s1.heap.objs.size (.tup xs), I1.laid (t' := s1.toks) (λ b u e => Heap.get?_push_of_some _ e) (Nat.le_refl _) ?_, rfl, q _ hf⟩
 exact ⟨z, us, r, ⟨_, Heap.get?_push_size _ rfl, ⟨rfl, rfl⟩, _, rfl⟩⟩
theorem zn2 (h : PA X es t) : PE X (.List es pos) (tLst t) := by
 intro pins s σ H Q I hq
 refine wpAny_List_spliced (thn (h pos pins s σ H _ I hq) λ us s1 ⟨xs, H1, I1, r, z, q⟩ => ⟨by rw [<- r.length]; exact z, ?_⟩)
 have hf : H1 s1.heap.objs.size = none := I1.hok.fresh (Nat.le_refl _)
 refine ⟨.ref s1.heap.objs.size, upd H1 s1.heap.objs.size (.lst xs), I1.laid (t' := s1.toks) (λ b u e => Heap.get?_push_of_some _ e) (Nat.le_refl _) ?_, rfl, q _ hf⟩
 exact ⟨z, us, 0, r, Heap.get?_push_size _ rfl⟩
end
noncomputable abbrev Sp := List V -> Hp -> VK -> XK -> Prop
noncomputable abbrev CXT := List Env -> Hp -> Shared -> XK -> Value -> Shared -> Prop
structure Env0 (P : Program) (w : World) (K : Frag) (mg : Str -> Option Value) (base : Heap) (A : Around) (outer : List Env) (s : Shared) (H : Hp) : Prop where
 frames : A.frames = some outer
 mod : Mod K mg base
 bs : ∀ b o, base.get? b = some o -> s.heap.get? b = some o /\ H b = none
 bsz : base.objs.size <= s.heap.objs.size
 funs : s.heap.FunFrames base outer
 frf : ∀ b ∈ frs outer, H b = none
 hok : HOk P w H s.heap
 bare : AllBare s.gens
inductive CE (outer : List Env) (P : Program) (w : World) (H : Hp) (s : Shared) (Q : VK) (u : Value) (s' : Shared) : Prop
 | mk (v : V) (H' : Hp) (os : s'.os = s.os) (b : AllBare s'.gens) (un : Un (frs outer) [] H H' s.heap s'.heap) (hk : HOk P w H' s'.heap) (r : RelV v u) (q : Q v H')
noncomputable def CR (CX : CXT) (outer : List Env) (P : Program) (w : World) (H : Hp) (s : Shared) (Q : VK) (E : XK) (r : Result) (s' : Shared) : Prop :=
 match r with
 | .ok (.ret u) => CE outer P w H s Q u s'
 | .ok _ => False
 | .error e => CX outer H s E e s'
structure FnOk (P : Program) (w : World) (K : Frag) (mg : Str -> Option Value) (base : Heap) (CX : CXT) (k : Nat) (f : Addr) (fd : FuncData) (ps : List Str) (sp : Sp) : Prop where
 len : ∀ vs H Q E, sp vs H Q E -> vs.length = ps.length
 run : ∀ (A : Around) (outer : List Env) (s : Shared) (H : Hp) (args : Args) (us : List Value) (vs : List V) (Q : VK) (E : XK), Room k A -> Env0 P w K mg base A outer s H -> BindsTo s fd args (ps.zip us) -> Vals vs us -> sp vs H Q E ->
  codeAny (model P w) A (.call (.ref f) args) (CR CX outer P w H s Q E) s
theorem FnOk.mono {P : Program} {w : World} {K : Frag} {mg : Str -> Option Value} {base : Heap} {CX : CXT} {j k : Nat} {f : Addr} {fd : FuncData} {ps : List Str} {sp : Sp} (F : FnOk P w K mg base CX j f fd ps sp) (h : j <= k) :
  FnOk P w K mg base CX k f fd ps sp := ⟨F.len, λ A outer s H args us vs Q E hr => F.run A outer s H args us vs Q E (hr.mono h)⟩
theorem FnOk.imp {P : Program} {w : World} {K : Frag} {mg : Str -> Option Value} {base : Heap} {CX : CXT} {k : Nat} {f : Addr} {fd : FuncData} {ps : List Str} {sp sp' : Sp} (F : FnOk P w K mg base CX k f fd ps sp)
  (h : ∀ vs H Q E, sp' vs H Q E -> sp vs H Q E) : FnOk P w K mg base CX k f fd ps sp' :=
 ⟨λ vs H Q E q => F.len vs H Q E (h _ _ _ _ q), λ A outer s H args us vs Q E hr he hb hv hs => F.run A outer s H args us vs Q E hr he hb hv (h _ _ _ _ hs)⟩
section
variable {X : Cx} {pins : List (Addr × Obj)} {σ : St} {H : Hp} {s s' : Shared}
theorem Inv.env0 (I : Inv X pins σ H s) : Env0 X.prog X.w X.K X.mg X.base X.A X.stack s H :=
 ⟨I.ok.frames, I.ok.mod, I.bs, Nat.le_trans I.ok.bsz I.sz, I.stack, I.stkFree, I.hok, I.bare⟩
theorem Inv.after {Q : VK} {u : Value} (I : Inv X pins σ H s) (h : CE X.stack X.prog X.w H s Q u s') : EP X pins σ Q u s' := by
 obtain ⟨v, H', os, bare, un, hok, r, q⟩ := h
 obtain ⟨hh, g, d, t, os'⟩ := s'
 obtain rfl : os' = s.os := os
 exact ⟨v, H', I.call (h' := hh) (g' := g) (d' := d) (t' := t) (ch := []) un hok bare (λ b z => absurd z (by simp)), r, q⟩
end
noncomputable def zpJ (sp : Sp) (dvs : List V) (E : XK) (t : TA) : TE := λ σ H Q => t σ H λ vs H1 => sp (vs ++ dvs) H1 Q E
noncomputable def Binds (K : Frag) (fd : FuncData) (ps : List Str) (ds : List Value) : Prop :=
 ∀ (s : Shared) (us : List Value), K.In s.heap -> (us ++ ds).length = ps.length -> BindsTo s fd ⟨us, []⟩ (ps.zip (us ++ ds))
theorem Binds.all {K : Frag} {fd : FuncData} {ps : List Str} (h : ∀ us : List Value, us.length = ps.length -> bindArgs fd ⟨us, []⟩ = pure (ps.zip us)) : Binds K fd ps [] := λ s us _ hl => by
 rw [List.append_nil] at hl ⊢
 exact .of_eq (h us hl)
noncomputable def Passes (CX : CXT) (X : Cx) (E : XK) : Prop := ∀ (pins : List (Addr × Obj)) (σ : St) (H : Hp) (s : Shared) (e : Value) (s' : Shared), Inv X pins σ H s -> CX X.stack H s E e s' -> X.xe e s'
section
variable {X : Cx} {CX : CXT} {k : Nat} {f C : Addr} {fd : FuncData} {ps : List Str} {sp : Sp} {dvs : List V} {ds : List Value} {E : XK} {x m : Str} {p pos apos : Pos} {e o : Expr} {es : List Expr} {ta : TE} {t : TA}
theorem zno {pins : List (Addr × Obj)} {σ : St} {H : Hp} {s : Shared} {Q : VK} {us : List Value} {vs : List V} (F : FnOk X.prog X.w X.K X.mg X.base CX k f fd ps sp) (hr : Room k X.A) (hb : Binds X.K fd ps ds) (hd : Vals dvs ds) (hx : Passes CX X E)
  (I : Inv X pins σ H s) (r : Vals vs us) (h : sp (vs ++ dvs) H Q E) : wpAny (model X.prog X.w) X.A (call (.ref f) us) (EP X pins σ Q) X.xe s := by
 have r2 : Vals (vs ++ dvs) (us ++ ds) := r.append hd
 have hl : (us ++ ds).length = ps.length := by rw [<- r2.length]; exact F.len _ _ _ _ h
 refine wpAny_call (codeAny_mono (F.run X.A X.stack s H ⟨us, []⟩ (us ++ ds) (vs ++ dvs) Q E hr I.env0 (hb s us I.kIn hl) r2 h) λ r s' hq => ?_)
 cases r with
 | error e => exact hx pins σ H s e s' I hq
 | ok fl =>
  cases fl with
  | ret u => exact I.after hq
  | next => exact False.elim hq
  | brk => exact False.elim hq
  | cont => exact False.elim hq
theorem zjS (F : FnOk X.prog X.w X.K X.mg X.base CX k f fd ps sp) (hr : Room k X.A) (hg : Gl X x) (hm : X.mg x = some (.ref f)) (hk : PySem.W.keepIn X.K (.ref f) = true) (hb : Binds X.K fd ps ds) (hd : Vals dvs ds) (hx : Passes CX X E)
  (ha : PA X (e :: es) t) (hdb : (x == ("__debug__" : Str)) = false := by decide) (he : starEach (e :: es) X.env = (false, eval e X.env) :: starEach es X.env := by rfl) (hpl : (backTo pos (starEach es X.env)).any (·.1) = false := by rfl) :
  PE X (.Call (.Name x p) (e :: es) [] pos) (zpJ sp dvs E t) := by
 intro pins s σ H Q I h
 refine wpAny_Call_Name_kw (zd2 I hg hm ?_ hdb)
 refine PySem.W.callWith_K (h₀ := X.base) I.ok.mod.kin hk (thn (ha pos pins s σ H _ I h) λ us s1 ⟨vs, H1, I1, r, q⟩ => ⟨I1.kIn, ?_⟩) he hpl
 exact zno F hr hb hd hx I1 r q
end
section
variable {X : Cx} {CX : CXT} {k : Nat} {f C : Addr} {fd : FuncData} {ps ks : List Str} {sp : Sp} {E : XK} {x m : Str} {p pos apos kpos : Pos} {e o : Expr} {es : List Expr} {kws : List Keyword} {te ta : TE} {t tk : TA} {nm : Option Str}
variable {g : List Value -> List Value -> List Value} {gV : List V -> List V -> List V}
end
structure zai (N P : List Str) (sc : Scope) : Prop where
 kind : sc.kind = .function
 co : sc.isCoroutine = false
 gen : sc.isGenerator = false
 nd : N.Nodup
 pre : N.take P.length = P
 par : ∀ x ∈ P, sc.names.lookup x = some .local ∨ sc.names.lookup x = some .cell
 nofree : ∀ y ∈ sc.names, y.2 ≠ .free
theorem zg8 {kindOf : Str -> Option NameKind} {x : Str} : ∀ {binds : List (Str × Value)} {m : Str -> Option Value}, (∀ v, (x, v) ∉ binds) -> bindL kindOf binds m x = m x
 | [], _, _ => rfl
 | (n, v) :: r, m, h => by
  unfold bindL
  rw [zg8 λ w hw => h w (List.mem_cons_of_mem _ hw)]
  split
  ·have : x ≠ n := by rintro rfl; exact h v List.mem_cons_self
   simp [this]
  ·rfl
theorem zgK {kindOf : Str -> Option NameKind} {x : Str} : ∀ {binds : List (Str × Value)} {m : Str -> Option Value}, (∀ v, (x, v) ∉ binds) -> bindC kindOf binds m x = m x
 | [], _, _ => rfl
 | (n, v) :: r, m, h => by
  unfold bindC
  rw [zgK λ w hw => h w (List.mem_cons_of_mem _ hw)]
  split
  ·rfl
  ·have : x ≠ n := by rintro rfl; exact h v List.mem_cons_self
   simp [this]
theorem zgL {kindOf : Str -> Option NameKind} {x : Str} {v : Value} : ∀ {P : List Str} {vs : List Value} {i : Nat} {m : Str -> Option Value}, P.Nodup -> P[i]? = some x -> vs[i]? = some v -> kindOf x = some .local ->
  bindL kindOf (P.zip vs) m x = some v
 | [], _, _, _, _, h, _, _ => by simp at h
 | _ :: _, [], _, _, _, _, h, _ => by simp at h
 | p :: P, w :: vs, 0, m, nd, h1, h2, hk => by
  simp at h1 h2; subst h1; subst h2
  show bindL kindOf ((p, w) :: P.zip vs) m p = _
  unfold bindL
  rw [zg8 λ v hv => (List.nodup_cons.mp nd).1 (List.of_mem_zip hv).1, if_pos hk]
  simp
 | p :: P, w :: vs, i + 1, m, nd, h1, h2, hk => by
  show bindL kindOf ((p, w) :: P.zip vs) m x = _
  unfold bindL
  exact zgL (i := i) (List.nodup_cons.mp nd).2 (by simpa using h1) (by simpa using h2) hk
theorem zhd {kindOf : Str -> Option NameKind} {x : Str} {v : Value} : ∀ {P : List Str} {vs : List Value} {i : Nat} {m : Str -> Option Value}, P.Nodup -> P[i]? = some x -> vs[i]? = some v -> kindOf x ≠ some .local ->
  bindC kindOf (P.zip vs) m x = some v
 | [], _, _, _, _, h, _, _ => by simp at h
 | _ :: _, [], _, _, _, _, h, _ => by simp at h
 | p :: P, w :: vs, 0, m, nd, h1, h2, hk => by
  simp at h1 h2; subst h1; subst h2
  show bindC kindOf ((p, w) :: P.zip vs) m p = _
  unfold bindC
  rw [zgK λ v hv => (List.nodup_cons.mp nd).1 (List.of_mem_zip hv).1, if_neg hk]
  simp
 | p :: P, w :: vs, i + 1, m, nd, h1, h2, hk => by
  show bindC kindOf ((p, w) :: P.zip vs) m x = _
  unfold bindC
  exact zhd (i := i) (List.nodup_cons.mp nd).2 (by simpa using h1) (by simpa using h2) hk
noncomputable def start (N : List Str) (vs : List V) : St := vs.map some ++ List.replicate (N.length - vs.length) none
noncomputable def cxOf (CX : CXT) (P : Program) (w : World) (K : Frag) (mg : Str -> Option Value) (base : Heap) (N : List Str) (qual : Str) (scope : Scope) (f : Addr) (cd : Value) (A : Around) (outer : List Env) (s : Shared) (H : Hp) (E : XK) : Cx where
 prog := P
 w := w
 K := K
 mg := mg
 base := base
 A := A.deeper (envOfC qual scope s.heap.objs.size f cd)
 N := N
 s0 := s
 H0 := H
 env := envOfC qual scope s.heap.objs.size f cd
 outer := outer
 stack := envOfC qual scope s.heap.objs.size f cd :: outer
 ex := []
 calm := true
 fn := λ _ => true
 pn := []
 xe := λ e s' => wpAny (model P w) (A.deeper (envOfC qual scope s.heap.objs.size f cd)) (leaving (envOfC qual scope s.heap.objs.size f cd) e) (λ _ s'' => CX outer H s E e s'') (λ e' s'' => CX outer H s E e' s'') s'
theorem ziE {sc : Scope} {n : Nat} {x : Str} (h : sc.names.lookup x = some .cell) : ∃ c, (cellsFrom n sc.names []).lookup x = some c := by
 have q := PySem.W.cellsFrom_some sc.names n [] (.inl h)
 exact Option.isSome_iff_exists.mp q
theorem zke {CX : CXT} {P : Program} {w : World} {K : Frag} {mg : Str -> Option Value} {base : Heap} {N ps : List Str} {qual : Str} {scope : Scope} {f : Addr} {cd : Value} {A : Around} {outer : List Env} {s s1 : Shared} {H : Hp} {E : XK} {us : List Value} {vs : List V}
  (S : zai N ps scope) (hd : A.handled = none) (e0 : Env0 P w K mg base A outer s H) (hl : vs.length = ps.length) (r : Vals vs us)
  (x : InCallC s s.heap.objs.size (bindL (envOfC qual scope s.heap.objs.size f cd).kindOf (ps.zip us) λ _ => none) (cellsFrom (s.heap.objs.size + 1) scope.names []) (bindC (envOfC qual scope s.heap.objs.size f cd).kindOf (ps.zip us) λ _ => none) s1) :
  Inv (cxOf CX P w K mg base N qual scope f cd A outer s H E) [] (start N vs) H s1 := by
 have hpl : ps.length <= N.length := by have := congrArg List.length S.pre; rw [List.length_take] at this; omega
 obtain ⟨h1, tk, rfl, hk⟩ := x.done
 have noA : ∀ b : Addr, b ∉ (cxOf CX P w K mg base N qual scope f cd A outer s H E).ex := λ b z => absurd (show b ∈ ([] : List Addr) from z) (by simp)
 refine ⟨⟨e0.mod, S.kind, rfl, rfl, Nat.le_refl _, λ y z c h1 h2 => ?_, λ y hy => ?_, λ y c _ h => ?_, λ _ => hd, Around.frames_deeper e0.frames, .inr ⟨rfl, rfl⟩, λ b z => absurd z (noA b), e0.bs, e0.bsz, λ b _ _ => noA b, λ b z => absurd z (noA b), e0.funs, e0.frf⟩,
  rfl, e0.bare, Un.kept hk, ⟨_, x.toInCall.ns, λ i y v h1 h2 h3 => ?_⟩, λ y c h => ⟨_, x.cell y c h⟩, e0.hok.fresh (Nat.le_refl _), λ y c h => ?_, λ p hp => absurd (show p ∈ ([] : List (Addr × Obj)) from hp) (by simp), e0.hok.kept hk, ?_⟩
 ·exact name_of_addr x.apart (PySem.mem_of_lookup h1) (PySem.mem_of_lookup h2)
 ·have hy : scope.names.lookup y = some .cell ∨ scope.names.lookup y = some .free := hy
  rcases hy with hy | hy
  ·exact ziE hy
  ·exact absurd rfl (S.nofree _ (PySem.mem_of_lookup hy))
 ·exact Nat.le_of_lt (x.above y c (PySem.mem_of_lookup h))
 ·have hi : i < vs.length := by
   unfold start at h2
   by_cases hi : i < vs.length
   ·exact hi
   ·rw [List.getElem?_append_right (by simpa using hi)] at h2
    rw [List.getElem?_replicate] at h2
    split at h2 <;> cases h2
  have ha : vs[i]? = some v := by
   unfold start at h2
   rw [List.getElem?_append_left (by simpa using hi), List.getElem?_map] at h2
   cases e : vs[i]? with
   | none => rw [e] at h2; cases h2
   | some a => rw [e] at h2; cases h2; rfl
  obtain ⟨u, hu, rv⟩ := r.get ha
  have hp : ps[i]? = some y := by
   rw [<- S.pre, List.getElem?_take_of_lt (by omega)]; exact h1
  have ndP : ps.Nodup := by rw [<- S.pre]; exact S.nd.sublist (List.take_sublist _ _)
  refine ⟨u, rv, ?_⟩
  rcases S.par y (List.mem_of_getElem? hp) with k | k
  ·exact .inl ⟨k, zgL ndP hp hu k⟩
  ·obtain ⟨c, e⟩ := ziE (n := s.heap.objs.size + 1) k
   refine .inr ⟨.inl k, c, e, ?_⟩
   have q := x.cell y c e
   rw [zhd ndP hp hu (by show scope.names.lookup y ≠ _; rw [k]; decide)] at q
   exact q
 ·exact e0.hok.fresh (Nat.le_of_lt (x.above y c (PySem.mem_of_lookup h)))
 ·unfold start
  show _ = N.length
  rw [List.length_append, List.length_map, List.length_replicate]
  omega
theorem zmL {CX : CXT} {P : Program} {w : World} {K : Frag} {mg : Str -> Option Value} {base : Heap} {k : Nat} {f : Addr} {name qual : Str} {params : Arguments} {body : List Stmt} {scope : Scope} {dV kV doc pm cdv ct oc : Value} {an od : Option Addr}
  {osl : Array (Option Value)} {N ps : List Str} {sp : Sp} (lk : K.lookup f = some ⟨oc, od, .func (PySem.W.fnOf name qual params body scope dV kV doc pm an cdv ct), osl⟩) (hcd : PySem.W.codeIn K cdv qual = true) (S : zai N ps scope)
  (len : ∀ vs H Q E, sp vs H Q E -> vs.length = ps.length)
  (hbody : ∀ (A : Around) (outer : List Env) (s : Shared) (H : Hp) (vs : List V) (Q : VK) (E : XK), Room k (A.deeper (envOfC qual scope s.heap.objs.size f cdv)) -> sp vs H Q E ->
   ∃ t, PSs (cxOf CX P w K mg base N qual scope f cdv A outer s H E) body t /\ t { nx := λ _ H' => Q .non H', rt := Q } (start N vs) H) :
  FnOk P w K mg base CX (k + 1) f (PySem.W.fnOf name qual params body scope dV kV doc pm an cdv ct) ps sp := by
 refine ⟨len, λ A outer s H args us vs Q E hr e0 hb r hsp => ?_⟩
 have hl := len _ _ _ _ hsp
 have KX : K.In s.heap := e0.mod.kin.keeps λ b o e => (e0.bs b o e).1
 have lim : s.heap.NoLimit := e0.mod.nolimit.keeps λ b o e => (e0.bs b o e).1
 have hkind : ∀ y ∈ ps.zip us, scope.names.lookup y.1 = some .local ∨ (scope.names.lookup y.1 = some .cell /\ ((cellsFrom (s.heap.objs.size + 1) scope.names []).lookup y.1).isSome = true) := λ ⟨n, v⟩ hy => by
  rcases S.par n (List.of_mem_zip hy).1 with q | q
  ·exact .inl q
  ·exact .inr ⟨q, PySem.W.cellsFrom_some _ _ _ (.inl q)⟩
 refine codeAny_call_function hr.depth (KX _ _ lk) rfl S.co S.gen rfl (PySem.W.codeRec_of KX hcd) (hb _ _ _ _ ?_)
 refine wpAny_newFunctionEnv_cells S.kind hkind λ env he s1 x => ?_
 subst he
 refine ⟨lim.keeps x.toInCall.keep, codeAny_func ?_⟩
 obtain ⟨t, ht, hq⟩ := hbody A outer s H vs Q E (hr.deeper _) hsp
 have I : Inv (cxOf CX P w K mg base N qual scope f cdv A outer s H E) [] (start N vs) H s1 := zke S hr.hd e0 hl r x
 refine wpAny_mono (ht [] s1 (start N vs) H _ I hq) (λ fl s' hs => ?_) λ e s' hs => hs
 have fin : ∀ {σ' : St} {H' : Hp} {v : V} {u : Value}, Inv (cxOf CX P w K mg base N qual scope f cdv A outer s H E) [] σ' H' s' -> RelV v u -> Q v H' -> CE outer P w H s Q u s' :=
  λ {σ' H' v u} J rv q => ⟨v, H', J.os, J.bare, J.base, J.hok, rv, q⟩
 cases fl with
 | ret u =>
  obtain ⟨v, σ', H', J, rv, q⟩ := hs
  exact fin J rv q
 | next =>
  obtain ⟨σ', H', J, q⟩ := hs
  exact fin (v := V.non) (u := Value.none) J rfl q
 | brk =>
  obtain ⟨_, _, _, q⟩ := hs
  exact False.elim q
 | cont =>
  obtain ⟨_, _, _, q⟩ := hs
  exact False.elim q
end L2
namespace L2
open PySem PySem.Spec PyProof.Rows
section
variable {X : Cx} {x : Str} {p pos : Pos} {e : Expr} {es : List Expr} {t : TA} {id T : String} {r : List V -> Hp -> VK -> Prop}
noncomputable def tCB (r : List V -> Hp -> VK -> Prop) (t : TA) : TE := λ σ H Q => t σ H λ vs H1 => r vs H1 Q
theorem zcD (hc : zcV X (.builtin id) r) (hg : Gl X x) (hm : X.mg x = none) (hv : bootBuiltins x = some (.builtin id)) (ha : PA X (e :: es) t) (hn : x ≠ "__name__" := by decide) (hdb : (x == ("__debug__" : Str)) = false := by decide)
  (he : starEach (e :: es) X.env = (false, eval e X.env) :: starEach es X.env := by rfl) (hpl : (backTo pos (starEach es X.env)).any (·.1) = false := by rfl) : PE X (.Call (.Name x p) (e :: es) [] pos) (tCB r t) := by
 intro pins s σ H Q I h
 refine wpAny_Call_Name_kw (zeR I hg hm hv ?_ hn hdb)
 exact PyProof.Rows.callWith_builtin1 (thn (ha pos pins s σ H _ I h) λ us s1 ⟨vs, H1, I1, r1, q1⟩ => hc pins s1 σ H1 vs us Q I1 r1 q1) he hpl
theorem zg3 (hc : zcV X (.type T) r) (hg : Gl X x) (hm : X.mg x = none) (hv : bootBuiltins x = some (.type T)) (ha : PA X (e :: es) t) (hn : x ≠ "__name__" := by decide) (hdb : (x == ("__debug__" : Str)) = false := by decide)
  (he : starEach (e :: es) X.env = (false, eval e X.env) :: starEach es X.env := by rfl) (hpl : (backTo pos (starEach es X.env)).any (·.1) = false := by rfl) : PE X (.Call (.Name x p) (e :: es) [] pos) (tCB r t) := by
 intro pins s σ H Q I h
 refine wpAny_Call_Name_kw (zeR I hg hm hv ?_ hn hdb)
 exact PyProof.Rows.callWith_type1 (thn (ha pos pins s σ H _ I h) λ us s1 ⟨vs, H1, I1, r1, q1⟩ => hc pins s1 σ H1 vs us Q I1 r1 q1) he hpl
end
end L2
namespace HT
open PySem PyProof.Rows
section
open PySem.SeqAt
open PySem.AutoSeq1 (wpAny_loadPart')
open PySem.MeetsSeq PySem.MeetsSeq2 PySem.MeetsSeq3
end
section
variable {prog : Program} {w : World} {A : Around} {E : Value -> Shared -> Prop} {s : Shared}
theorem zmx {t b : Addr} {vs ws : List Value} {Q : Value -> Shared -> Prop} (ht : IsTup s.heap t vs.toArray) (hb : IsTup s.heap b ws.toArray) (hv : vs ≠ [])
  (h1 : ws = [] -> Q (.ref t) s) (h2 : ws ≠ [] -> Q (.ref s.heap.objs.size) { s with heap := s.heap.push { cls := .type "tuple", data := .seq (vs ++ ws).toArray } })
  (hsz : vs.length + ws.length <= sizeLine) : wpAny (model prog w) A (binaryOp .Add (.ref t) (.ref b)) Q E s := by
 obtain ⟨⟨cls, dd, data, sl⟩, ho, hc, n, hd⟩ := id ht
 obtain ⟨⟨cls2, dd2, data2, sl2⟩, ho2, hc2, n2, hd2⟩ := id hb
 simp only at hc hd hc2 hd2
 subst hc hd hc2 hd2
 have e : vs.toArray ++ ws.toArray = (vs ++ ws).toArray := by simp
 by_cases hw : ws = []
 ·exact concat_meets ⟨_, ho, rfl⟩ ⟨_, ho2, rfl⟩ noFill_tuple_add seq_tuple_add PySem.F.slot_tuple_add PySem.F.entry_tuple_add (PySem.F.args_tuple_add_2 _ _)
   (tuple_addW1 t b vs.toArray ws.toArray n n2 dd dd2 sl sl2 (by simpa using hv) (by simp [hw])) ⟨ho, ho2, h1 hw⟩
 ·refine concat_meets ⟨_, ho, rfl⟩ ⟨_, ho2, rfl⟩ noFill_tuple_add seq_tuple_add PySem.F.slot_tuple_add PySem.F.entry_tuple_add (PySem.F.args_tuple_add_2 _ _)
   (tuple_addW2 t b vs.toArray ws.toArray n n2 dd dd2 sl sl2 (by simpa using hv) (by simpa using hw) (by rw [List.size_toArray, List.size_toArray]; exact hsz)) ⟨ho, ho2, ?_⟩
  rw [e]
  exact h2 hw
end
end HT
namespace L2
open PySem PySem.Spec PyProof.Rows
section
variable {X : Cx} {e : Expr} {te : TE} {lo hi : Option Expr} {tl th : TO} {pos p2 : Pos}
noncomputable def znU (K : Frag) : R2 := λ x y H Q => ∃ a b xs ys, x = .ref a /\ y = .ref b /\ SqT K H a xs /\ SqT K H b ys /\ xs ≠ [] /\ xs.length + ys.length <= sizeLine /\
 (ys = [] -> Q (.ref a) H) /\ (ys ≠ [] -> ∀ p, H p = none -> Q (.ref p) (upd H p (.tup (xs ++ ys))))
theorem Vals.nil_iff {xs : List V} {us : List Value} (r : Vals xs us) : us = [] ↔ xs = [] := by
 cases r with
 | nil => simp
 | cons _ _ => simp
theorem znb : OpR X (binaryOp .Add) (znU X.K) := by
 intro pins s σ H x y v u Q I rx ry h
 obtain ⟨a, b, xs, ys, rfl, rfl, ha, hb, hx, hz, q1, q2⟩ := h
 cases rx
 cases ry
 obtain ⟨its, r1, p1, _⟩ := I.tuple ha
 obtain ⟨its2, r2, p2, _⟩ := I.tuple hb
 refine HT.zmx p1 p2 (λ z => hx (r1.nil_iff.mp z)) (λ z => ⟨.ref a, H, I, rfl, q1 (r2.nil_iff.mp z)⟩) (λ z => ?_) (by rw [<- r1.length, <- r2.length]; exact hz)
 refine ⟨.ref s.heap.objs.size, _, I.laid (t' := s.toks) (o := .tup (xs ++ ys)) (λ b ob q => Heap.get?_push_of_some _ q) (Nat.le_refl _) ?_, rfl, q2 (λ w => z (r2.nil_iff.mpr w)) _ (I.hok.fresh (Nat.le_refl _))⟩
 exact ⟨by rw [List.length_append]; exact hz, _, r1.append r2, zei.new _ _⟩
end
end L2
namespace L2
open PySem PySem.Spec PyProof.Rows
noncomputable def ixN (n : Nat) (i : Int) : Option Nat := if 0 <= i then (if i < n then some i.toNat else none) else if -(n : Int) <= i then some (i + n).toNat else none
noncomputable def atI {α : Type} (xs : List α) (i : Int) : Option α := (ixN xs.length i).bind λ j => xs[j]?
theorem zjO {n : Nat} {i : Int} {j : Nat} (h : ixN n i = some j) : seqIndex? i n = some j /\ j < n /\ -(n : Int) <= i /\ i < n := by
 unfold ixN at h
 by_cases h0 : 0 <= i
 ·rw [if_pos h0] at h
  by_cases h1 : i < n
  ·rw [if_pos h1] at h
   have e : i.toNat = j := Option.some.inj h
   exact ⟨by rw [seqIndex_of h0 h1, e], by omega, by omega, h1⟩
  ·rw [if_neg h1] at h; cases h
 ·rw [if_neg h0] at h
  by_cases h1 : -(n : Int) <= i
  ·rw [if_pos h1] at h
   have e : (i + n).toNat = j := Option.some.inj h
   exact ⟨by rw [seqIndex_neg (by omega) h1, e], by omega, h1, by omega⟩
  ·rw [if_neg h1] at h; cases h
theorem zhL {α : Type} {xs : List α} {i : Int} {v : α} (h : atI xs i = some v) : ∃ j, seqIndex? i xs.length = some j /\ xs[j]? = some v /\ j < xs.length /\ -(xs.length : Int) <= i /\ i < xs.length := by
 unfold atI at h
 cases e : ixN xs.length i with
 | none => rw [e] at h; cases h
 | some j =>
  rw [e] at h
  obtain ⟨h1, h2, h3, h4⟩ := zjO e
  exact ⟨j, h1, h, h2, h3, h4⟩
theorem zga {α : Type} {xs : List α} {j : Nat} {v : α} (h : xs[j]? = some v) : atI xs (j : Int) = some v := by
 have hj : j < xs.length := (List.getElem?_eq_some_iff.mp h).1
 have e : ixN xs.length (j : Int) = some j := by
  unfold ixN
  rw [if_pos (by omega), if_pos (by omega)]; simp
 unfold atI; rw [e]; exact h
noncomputable def zhE (b : Expr) : Prop := ∀ o i, subscripted b false o i = operate [o, i] (getItem o i)
noncomputable def IxR (X : Cx) (r : R2) : Prop :=
 ∀ (value slice : Expr) (pins : List (Addr × Obj)) (s : Shared) (σ : St) (H : Hp) (x y : V) (v u : Value) (Q : VK), Inv X pins σ H s -> RelV x v -> RelV y u -> r x y H Q ->
  subscripted slice false v u = operate [v, u] (getItem v u) -> wpAny (model X.prog X.w) X.A (subscriptTail value slice v u) (EP X pins σ Q) X.xe s
noncomputable def MtR (X : Cx) (id : String) (r : V -> List V -> Hp -> VK -> Prop) : Prop :=
 ∀ (pins : List (Addr × Obj)) (s : Shared) (σ : St) (H : Hp) (x : V) (xs : List V) (v : Value) (us : List Value) (Q : VK), Inv X pins σ H s -> RelV x v -> Vals xs us -> r x xs H Q ->
  wpAny (model X.prog X.w) X.A (call (.builtin id) (v :: us)) (EP X pins σ Q) X.xe s
section
variable {X : Cx} {a b : Expr} {ta tb : TE} {pos : Pos}
theorem IxR.or {r r' : R2} (h : IxR X r) (h' : IxR X r') : IxR X (λ x y H Q => r x y H Q ∨ r' x y H Q) := by
 intro value slice pins s σ H x y v u Q I rx ry q hs
 rcases q with q | q
 ·exact h value slice pins s σ H x y v u Q I rx ry q hs
 ·exact h' value slice pins s σ H x y v u Q I rx ry q hs
theorem zpk {r : R2} (hr : IxR X r) (ha : PE X a ta) (hb : PE X b tb) (hs : zhE b) : PE X (.Subscript a b pos) (tOp r ta tb) := by
 intro pins s σ H Q I h
 exact Subscript_ (binT ha hb I h λ v u s2 x y H2 I2 rx ry q => hr a b pins s2 σ H2 x y v u Q I2 rx ry q (hs _ _))
noncomputable def rIxL (K : Frag) : R2 := λ x y H Q => ∃ p xs i v, x = .ref p /\ y = .int i /\ SqL K H p xs /\ atI xs i = some v /\ Q v H
noncomputable def rIxT (K : Frag) : R2 := λ x y H Q => ∃ p xs i v, x = .ref p /\ y = .int i /\ SqT K H p xs /\ atI xs i = some v /\ Q v H
noncomputable def rIxS : R2 := λ x y H Q => ∃ z i c, x = .str z /\ y = .int i /\ z.length <= sizeLine /\ atI z.cps.toList i = some c /\ Q (.str ⟨#[c]⟩) H
theorem zl7 : IxR X (rIxL X.K) := by
 intro value slice pins s σ H x y v u Q I rx ry h hs
 obtain ⟨p, xs, i, z, rfl, rfl, hq, he, q⟩ := h
 cases rx
 obtain ⟨t, rfl⟩ := ry
 obtain ⟨its, r, pl, hz⟩ := I.list hq
 obtain ⟨j, h1, h2, h3, h4, h5⟩ := zhL he
 obtain ⟨w, ew, rw'⟩ := r.get h2
 have hl := r.length
 have hn := zfy
 have fin : EP X pins σ Q w s := ⟨z, H, I, rw', q⟩
 by_cases h0 : 0 <= i
 ·have hj : i.toNat = j := by
   rw [seqIndex_of h0 h5] at h1
   exact Option.some.inj h1
  exact item_listR pl.isList h0 (by omega) (by rw [hj]; simpa using ew) fin hs
 ·have hj : (i + (its.toArray.size : Int)).toNat = j := by
   rw [seqIndex_neg (by omega) h4] at h1
   rw [List.size_toArray, <- hl]
   exact Option.some.inj h1
  exact subscriptTail_builtinR (x := w) pl.isList.typeIs slot_list_getitem.lookup
   (wpAny_getItem_list_neg (Q := λ r s' => r = w /\ EP X pins σ Q r s') pl.isList (by omega) (by rw [List.size_toArray] <;> omega) (by omega) (by rw [hj]; simpa using ew) ⟨rfl, fin⟩) hs
theorem znV : IxR X (rIxT X.K) := by
 intro value slice pins s σ H x y v u Q I rx ry h hs
 obtain ⟨p, xs, i, z, rfl, rfl, hq, he, q⟩ := h
 cases rx
 obtain ⟨t, rfl⟩ := ry
 obtain ⟨its, r, pl, hz⟩ := I.tuple hq
 obtain ⟨j, h1, h2, h3, h4, h5⟩ := zhL he
 obtain ⟨w, ew, rw'⟩ := r.get h2
 have hl := r.length
 have hn := zfy
 have fin : EP X pins σ Q w s := ⟨z, H, I, rw', q⟩
 exact subscriptTail_builtinR (x := w) pl.typeIs slot_tuple_getitem.lookup
  (getItem_tuple (j := j) (Q := λ r s' => r = w /\ EP X pins σ Q r s') pl (by omega) (by omega) (by rw [List.size_toArray, <- hl]; exact h1) (by simpa using ew) ⟨rfl, fin⟩) hs
theorem zoJ : IxR X rIxS := by
 intro value slice pins s σ H x y v u Q I rx ry h hs
 obtain ⟨z, i, c, rfl, rfl, hz, he, q⟩ := h
 obtain ⟨t, rfl⟩ := rx
 obtain ⟨t', rfl⟩ := ry
 obtain ⟨j, h1, h2, h3, h4, h5⟩ := zhL he
 have hl : z.cps.toList.length = z.length := by simp [Str.length]
 rw [hl] at h1 h4 h5
 have hn := zfy
 exact tail_any (typeIs_str s z t) slot_str_getitem.lookup (getItem_str (c := c) (by
  have e1 : decide (i < -(2 ^ 63 : Int)) = false := decide_eq_false (by omega)
  have e2 : decide (i ≥ 2 ^ 63) = false := decide_eq_false (by omega)
  rw [e1, e2, Bool.or_false]) (by rw [h1]; simpa using h2) ⟨.str ⟨#[c]⟩, H, I.tok _, ⟨_, rfl⟩, q⟩) hs
noncomputable def rIx (K : Frag) : R2 := λ x y H Q => rIxL K x y H Q ∨ rIxT K x y H Q ∨ rIxS x y H Q
theorem zoe : IxR X (rIx X.K) := zl7.or (znV.or zoJ)
theorem zi4 (its : List Value) (n j : Nat) (u : Value) : Obj.mapSeq (·.setIfInBounds j u) { cls := .type "list", data := .seq its.toArray n } = { cls := .type "list", data := .seq (its.set j u).toArray n } := by
 simp [Obj.mapSeq]
theorem Inv.lst {pins : List (Addr × Obj)} {σ : St} {H : Hp} {s : Shared} {p : Addr} {xs : List V} (I : Inv X pins σ H s) (h : H p = some (.lst xs)) :
  ∃ (its : List Value) (n : Nat), Vals xs its /\ s.heap.get? p = some { cls := .type "list", data := .seq its.toArray n } /\ xs.length <= sizeLine := by
 obtain ⟨z, its, n, r, e⟩ := I.hok p _ h
 exact ⟨its, n, r, e, z⟩
theorem Inv.lstUpd {pins : List (Addr × Obj)} {σ : St} {H : Hp} {s : Shared} {p : Addr} {xs ys : List V} {its its' : List Value} {n n' : Nat} {f : Obj -> Obj} (I : Inv X pins σ H s) (h : H p = some (.lst xs))
  (ho : s.heap.get? p = some { cls := .type "list", data := .seq its.toArray n }) (hf : f { cls := .type "list", data := .seq its.toArray n } = { cls := .type "list", data := .seq its'.toArray n' }) (r : Vals ys its') (hz : ys.length <= sizeLine) (t : Nat) :
  Inv X pins σ (upd H p (.lst ys)) { s with heap := s.heap.update p f, toks := t } := by
 have e : (s.heap.update p f).get? p = some { cls := .type "list", data := .seq its'.toArray n' } := by
  rw [Heap.get?_update_self f ho (by rw [hf] <;> rfl), hf]
 refine I.write (x := p) (e := p) (by rw [h]; trivial) (.inl rfl) (λ b u hb q => (Heap.get?_update_other _ _ (Ne.symm hb)).trans q) ⟨_, e⟩ ?_
 exact ⟨hz, its', n', r, e⟩
noncomputable def zo0 : V -> V -> V -> Hp -> (Hp -> Prop) -> Prop := λ o i v H Q => ∃ p xs k j, o = .ref p /\ i = .int k /\ H p = some (.lst xs) /\ ixN xs.length k = some j /\ Q (upd H p (.lst (xs.set j v)))
theorem set_list : PSet X zo0 := by
 intro pins s σ H o i v ov iv u Q I ro ri rv h
 obtain ⟨p, xs, k, j, rfl, rfl, hp, hj, q⟩ := h
 cases ro
 obtain ⟨t, rfl⟩ := ri
 obtain ⟨its, n, r, ho, hz⟩ := I.lst hp
 obtain ⟨h1, h2, h3, h4⟩ := zjO hj
 have hl := r.length
 have hn := zfy
 have I' : Inv X pins σ (upd H p (.lst (xs.set j v))) { s with heap := s.heap.update p (Obj.mapSeq (·.setIfInBounds j u)) } :=
  I.lstUpd hp ho (zi4 its n j u) (r.set rv j) (by rw [List.length_set]; exact hz) s.toks
 by_cases h0 : 0 <= k
 ·have hk : k.toNat = j := by
   rw [seqIndex_of h0 h4] at h1
   exact Option.some.inj h1
  exact PySem.W.ki_setAt ho h0 (by omega) (by rw [List.size_toArray, <- hl]; exact h4) (by rw [hk]; exact ⟨_, I', q⟩)
 ·have hk : (k + (its.toArray.size : Int)).toNat = j := by
   rw [seqIndex_neg (by omega) h3] at h1
   rw [List.size_toArray, <- hl]
   exact Option.some.inj h1
  exact PySem.W.ki_setBack ho (by omega) (by rw [List.size_toArray, <- hl]; exact h3) (by omega) (by rw [hk]; exact ⟨_, I', q⟩)
noncomputable def zfo : V -> Bool
 | .non => true
 | .bl _ => true
 | .int _ => true
 | .str _ => true
 | _ => false
noncomputable def eqV : V -> V -> Bool
 | .non, .non => true
 | .bl a, .bl b => a == b
 | .bl a, .int b => (if a then 1 else 0) == b
 | .int a, .bl b => a == (if b then 1 else 0)
 | .int a, .int b => a == b
 | .str a, .str b => a == b
 | _, _ => false
theorem znn {A : Around} {s : Shared} {y x : V} {u v : Value} (ry : RelV y u) (rx : RelV x v) (fy : zfo y = true) (fx : zfo x = true) : SeqAt.EqAt A s u v (eqV y x) := by
 cases y with
 | non =>
  cases ry
  cases x with
  | non => cases rx; exact SeqAt.EqAt.same _
  | bl b => cases rx; exact SeqAt.EqAt.none_bool b
  | int b => obtain ⟨t, rfl⟩ := rx; exact SeqAt.EqAt.none_int b t
  | str b => obtain ⟨t, rfl⟩ := rx; exact SeqAt.EqAt.none_str b t
  | _ => exact absurd (show false = true from fx) Bool.false_ne_true
 | bl a =>
  cases ry
  cases x with
  | non => cases rx; exact SeqAt.EqAt.bool_none a
  | bl b => cases rx; exact SeqAt.EqAt.bool_bool a b
  | int b => obtain ⟨t, rfl⟩ := rx; exact SeqAt.EqAt.bool_int a b t
  | str b => obtain ⟨t, rfl⟩ := rx; exact SeqAt.EqAt.bool_str a b t
  | _ => exact absurd (show false = true from fx) Bool.false_ne_true
 | int a =>
  obtain ⟨t', rfl⟩ := ry
  cases x with
  | non => cases rx; exact SeqAt.EqAt.int_none a t'
  | bl b => cases rx; exact SeqAt.EqAt.int_bool a t' b
  | int b => obtain ⟨t, rfl⟩ := rx; exact SeqAt.EqAt.int_int a t' b t
  | str b => obtain ⟨t, rfl⟩ := rx; exact SeqAt.EqAt.int_str a t' b t
  | _ => exact absurd (show false = true from fx) Bool.false_ne_true
 | str a =>
  obtain ⟨t', rfl⟩ := ry
  cases x with
  | non => cases rx; exact SeqAt.EqAt.str_none a t'
  | bl b => cases rx; exact SeqAt.EqAt.str_bool a t' b
  | int b => obtain ⟨t, rfl⟩ := rx; exact SeqAt.EqAt.str_int a t' b t
  | str b => obtain ⟨t, rfl⟩ := rx; exact SeqAt.EqAt.str_str a t' b t
  | _ => exact absurd (show false = true from fx) Bool.false_ne_true
 | _ => exact absurd (show false = true from fy) Bool.false_ne_true
noncomputable def eqU (x : V) (u : Value) : Bool := match u with
 | .none => eqV .non x
 | .bool b => eqV (.bl b) x
 | .int i _ => eqV (.int i) x
 | .str z _ => eqV (.str z) x
 | _ => false
theorem zlE {x y : V} {u : Value} (r : RelV y u) (f : zfo y = true) : eqU x u = eqV y x := by
 cases y with
 | non => cases r; rfl
 | bl b => cases r; rfl
 | int i => obtain ⟨t, rfl⟩ := r; rfl
 | str z => obtain ⟨t, rfl⟩ := r; rfl
 | _ => exact absurd (show false = true from f) Bool.false_ne_true
theorem zhH {x : V} : ∀ {xs : List V} {us : List Value}, Vals xs us -> xs.all zfo = true -> us.any (eqU x) = xs.any λ y => eqV y x
 | _, _, .nil, _ => rfl
 | y :: xs, u :: us, .cons r t, f => by
  rw [List.all_cons, Bool.and_eq_true] at f
  rw [List.any_cons, List.any_cons, zlE r f.1, zhH t f.2]
theorem zf5 {A : Around} {s : Shared} {x : V} {v : Value} (rx : RelV x v) (fx : zfo x = true) : ∀ {xs : List V} {us : List Value}, Vals xs us -> xs.all zfo = true -> ∀ u ∈ us, SeqAt.EqAt A s u v (eqU x u)
 | _, _, .nil, _ => λ u hu => by cases hu
 | y :: xs, u :: us, .cons r t, f => λ u' hu => by
  rw [List.all_cons, Bool.and_eq_true] at f
  rcases List.mem_cons.mp hu with rfl | hu
  ·rw [zlE r f.1]; exact znn r rx f.1 fx
  ·exact zf5 rx fx t f.2 u' hu
noncomputable def inV (x : V) (xs : List V) : Bool := xs.any λ y => eqV y x
noncomputable def rIn (K : Frag) (neg : Bool) : R2 := λ x y H Q => ∃ p xs, y = .ref p /\ (SqL K H p xs ∨ SqT K H p xs) /\ zfo x = true /\ xs.all zfo = true /\ Q (.bl (if neg then !inV x xs else inV x xs)) H
theorem zjx : OpR X (compareOp .In) (rIn X.K false) := by
 intro pins s σ H x y v u Q I rx ry h
 obtain ⟨p, xs, rfl, hq, fx, fs, q⟩ := h
 cases ry
 rcases hq with hq | hq
 ·obtain ⟨its, r, pl, hz⟩ := I.list hq
  refine SeqAt.in_listAt (eqU x) pl.isList (λ w hw => zf5 rx fx r fs w (by simpa using hw)) ⟨.bl _, H, I, rfl, ?_⟩
  rw [show its.toArray.any (eqU x) = its.any (eqU x) by simp, zhH r fs]
  exact q
 ·obtain ⟨its, r, pl, hz⟩ := I.tuple hq
  refine SeqAt.in_tupleAt (eqU x) pl (λ w hw => zf5 rx fx r fs w (by simpa using hw)) ⟨.bl _, H, I, rfl, ?_⟩
  rw [show its.toArray.any (eqU x) = its.any (eqU x) by simp, zhH r fs]
  exact q
theorem zgT : zcV X (.builtin "len") (λ xs H Q => ∃ p ys, xs = [.ref p] /\ (SqL X.K H p ys ∨ SqT X.K H p ys) /\ Q (.int ys.length) H) := by
 intro pins s σ H xs us Q I r h
 obtain ⟨p, ys, rfl, hq, q⟩ := h
 obtain ⟨u, rfl, rx⟩ := vals1 r
 cases rx
 have hn := zfy
 rcases hq with hq | hq
 ·obtain ⟨its, r', pl, hz⟩ := I.list hq
  have hlen := r'.length
  exact Calls.call_len_list pl.isList (by simp only [List.size_toArray] <;> omega) ⟨.int ys.length, H, I.tok _, ⟨s.toks + 1, by rw [List.size_toArray, hlen]⟩, q⟩
 ·obtain ⟨its, r', pl, hz⟩ := I.tuple hq
  have hlen := r'.length
  exact len_tuple pl (by simp only [List.size_toArray] <;> omega) ⟨.int ys.length, H, I.tok _, ⟨s.toks + 1, by rw [List.size_toArray, hlen]⟩, q⟩
theorem zgx : zcV X (.type "tuple") (λ xs H Q => ∃ p ys, xs = [.ref p] /\ ((SqL X.K H p ys /\ ∀ l, H l = none -> Q (.ref l) (upd H l (.tup ys))) ∨ (SqT X.K H p ys /\ Q (.ref p) H))) := by
 intro pins s σ H xs us Q I r h
 obtain ⟨p, ys, rfl, h⟩ := h
 obtain ⟨u, rfl, rx⟩ := vals1 r
 cases rx
 rcases h with ⟨hq, q⟩ | ⟨hq, q⟩
 ·obtain ⟨its, r', pl, hz⟩ := I.list hq
  have hlen := r'.length
  refine call_tuple_list pl.isList (λ h' kp => ?_) (by simp only [List.size_toArray] <;> omega)
  have I1 : Inv X pins σ H { s with heap := h' } := I.kept (t' := s.toks) kp
  have I2 : Inv X pins σ (upd H h'.objs.size (.tup ys)) { s with heap := h'.push { cls := .type "tuple", data := .seq its.toArray } } :=
   I1.laid (t' := s.toks) (λ b o e => Heap.get?_push_of_some _ e) (Nat.le_refl _) (show zZ X.prog X.w _ _ _ (.tup ys) from ⟨hz, its, r', zei.new _ _⟩)
  exact ⟨.ref h'.objs.size, _, I2, rfl, q _ (I1.hok.fresh (Nat.le_refl _))⟩
 ·obtain ⟨its, r', pl, hz⟩ := I.tuple hq
  exact call_tuple_same pl ⟨.ref p, H, I, rfl, q⟩
noncomputable def tyV (K : Frag) (T : String) (x : V) (H : Hp) : Prop := match x with
 | .str _ => T = "str"
 | .int _ => T = "int"
 | .ref p => (T = "list" /\ ∃ xs, SqL K H p xs) ∨ (T = "tuple" /\ ∃ o, K.lookup p = some o /\ o.cls = .type "tuple" /\ o.dict = none) ∨
   (T = "dict" /\ ((∃ kvs, H p = some (.dK kvs)) ∨ ∃ kvs, H p = some (.dT kvs))) ∨ (T = "set" /\ ∃ S n, H p = some (.set S n))
 | _ => False
theorem znO {pins : List (Addr × Obj)} {σ : St} {H : Hp} {s : Shared} {T : String} {x : V} {v : Value} (I : Inv X pins σ H s) (r : RelV x v) (ty : tyV X.K T x H) :
  s.TypeIs v T /\ ∀ a, v = .ref a -> ∃ ob, s.heap.get? a = some ob /\ ob.dict = none := by
 cases x with
 | str z =>
  obtain ⟨t, rfl⟩ := r
  cases (show T = "str" from ty)
  exact ⟨typeIs_str s z t, λ _ e => nomatch e⟩
 | int i =>
  obtain ⟨t, rfl⟩ := r
  cases (show T = "int" from ty)
  exact ⟨typeIs_int s i t, λ _ e => nomatch e⟩
 | ref p =>
  cases r
  rcases ty with ⟨rfl, xs, hq⟩ | ⟨rfl, o, hk, hc, hd⟩ | ⟨rfl, hk⟩ | ⟨rfl, S, n, hk⟩
  ·obtain ⟨its, _, pl, _⟩ := I.list hq
   refine ⟨pl.isList.typeIs, λ a e => ?_⟩
   cases e
   obtain ⟨o, n, e, c, hd, _⟩ := pl
   exact ⟨o, e, hd⟩
  ·refine ⟨⟨o, I.kIn p o hk, hc⟩, λ a e => ?_⟩
   cases e
   exact ⟨o, I.kIn _ o hk, hd⟩
  ·have z : ∃ o, s.heap.get? p = some o /\ o.ExactDict := by
    rcases hk with ⟨kvs, hk⟩ | ⟨kvs, hk⟩
    ·obtain ⟨_, _, _, _, o, _, _, e, ex, _⟩ := I.hok p _ hk
     exact ⟨o, e, ex⟩
    ·obtain ⟨_, _, _, _, o, _, _, e, ex, _⟩ := I.hok p _ hk
     exact ⟨o, e, ex⟩
   obtain ⟨o, e, ex⟩ := z
   refine ⟨⟨o, e, ex.1⟩, λ a e2 => ?_⟩
   cases e2
   exact ⟨o, e, ex.2.1⟩
  ·obtain ⟨o, _, _, _, e, ex, _⟩ := I.hok p _ hk
   refine ⟨⟨o, e, ex.1⟩, λ a e2 => ?_⟩
   cases e2
   exact ⟨o, e, ex.2.1⟩
 | _ => exact False.elim ty
noncomputable def tBM (K : Frag) (T : String) (r : V -> List V -> Hp -> VK -> Prop) (to : TE) (t : TA) : TE := λ σ H Q => to σ H λ x H1 => tyV K T x H1 /\ t σ H1 λ xs H2 => r x xs H2 Q
variable {o e : Expr} {es : List Expr} {to : TE} {t : TA} {name : Str} {apos cpos : Pos} {T id : String} {r : V -> List V -> Hp -> VK -> Prop}
theorem zoY (pa : PlainAttrs T) (slot : Slot T name id) (hty : typeOf (.builtin id) = pure (.type "method_descriptor")) (hm : MtR X id r) (ho : PE X o to) (ha : PA X (e :: es) t)
  (hbase : attributeBase o name X.env (eval o X.env) = eval o X.env := by rfl)
  (hfew : ((backTo cpos (starEach (e :: es) X.env)).all (λ x => !x.1) && (backToKw cpos (keywordEach [] X.env)).all (λ x => x.1.isSome)
   && decide ((e :: es).length + ([] : List Keyword).length + (if ([] : List Keyword).isEmpty then 0 else 1) < 30)) = true := by rfl)
  (hline : (apos.endLine == cpos.line) = true := by rfl) (hs : starEach (e :: es) X.env = (false, eval e X.env) :: starEach es X.env := by rfl) (hplain : (backTo cpos (starEach es X.env)).any (·.1) = false := by rfl) :
  PE X (.Call (.Attribute o name apos) (e :: es) [] cpos) (tBM X.K T r to t) := by
 intro pins s σ H Q I h
 refine wpAny_Call_method_late hbase hfew hline rfl (thn (ho pins s σ H _ I h) λ v s1 ⟨x, H1, I1, r1, ty, q1⟩ => ?_)
 obtain ⟨h1, h2⟩ := znO I1 r1 ty
 refine ⟨T, id, pa, slot, hty, h1, h2, ?_⟩
 have hA := ha cpos pins s1 σ H1 _ I1 q1
 rw [hs] at hA ⊢
 refine Calls.callWith_builtin (by show (false || (backTo cpos (starEach es X.env)).any (·.1)) = false; rw [hplain] <;> rfl) (Calls.evalArgs_plain ?_)
 exact thn hA λ us s2 ⟨vs, H2, I2, r2, q2⟩ => hm pins s2 σ H2 x vs v us Q I2 r1 r2 q2
end
end L2
namespace L2
open PySem PySem.Spec PyProof.Rows
noncomputable def MtM (X : Cx) (id : String) (r : V -> List V -> Hp -> VK -> Prop) : Prop :=
 ∀ (pins : List (Addr × Obj)) (s : Shared) (σ : St) (H : Hp) (x : V) (xs : List V) (v : Value) (us : List Value) (Q : VK), Inv X pins σ H s -> RelV x v -> Vals xs us -> r x xs H Q ->
  wpAny (model X.prog X.w) X.A (call (.builtin id) (v :: us)) (EP X pins σ Q) X.xe s
theorem Vals.one {x : V} {us : List Value} (h : Vals [x] us) : ∃ u, us = [u] /\ RelV x u := by
 cases h with
 | cons r t => cases t; exact ⟨_, rfl, r⟩
theorem Vals.two {x y : V} {us : List Value} (h : Vals [x, y] us) : ∃ u v, us = [u, v] /\ RelV x u /\ RelV y v := by
 cases h with
 | cons r t => exact (Vals.one t).elim λ v e => ⟨_, v, by rw [e.1], r, e.2⟩
theorem Vals.rep {xs : List V} {us : List Value} (h : Vals xs us) : ∀ k : Nat, Vals (List.replicate k xs).flatten (List.replicate k us).flatten
 | 0 => .nil
 | k + 1 => by
  rw [List.replicate_succ, List.replicate_succ, List.flatten_cons, List.flatten_cons]
  exact Vals.append h (Vals.rep h k)
theorem foldl_rep (its : List Value) : ∀ (k : Nat) (acc : List Value),
  List.foldl (λ x1 x2 => x1 ++ x2) acc.toArray (List.replicate k its.toArray) = (acc ++ (List.replicate k its).flatten).toArray
 | 0, acc => by simp
 | k + 1, acc => by
  have e : acc.toArray ++ its.toArray = (acc ++ its).toArray := by simp
  have e2 : (acc ++ its) ++ (List.replicate k its).flatten = acc ++ (List.replicate (k + 1) its).flatten := by
   rw [List.replicate_succ, List.flatten_cons, List.append_assoc]
  rw [<- e2, <- foldl_rep its k (acc ++ its), <- e, List.replicate_succ, List.foldl_cons]
section
variable {X : Cx} {pins : List (Addr × Obj)} {σ : St} {H : Hp} {s : Shared} {l b : Addr} {xs ys zs : List V}
theorem Inv.lset {its its' : List Value} {n : Nat} {f : Array Value -> Array Value} {t' : Nat} (I : Inv X pins σ H s) (hH : H l = some (.lst xs))
  (e : s.heap.get? l = some { cls := .type "list", data := .seq its.toArray n }) (hf : f its.toArray = its'.toArray) (hv : Vals ys its') (hz : ys.length <= sizeLine) :
  Inv X pins σ (upd H l (.lst ys)) { s with heap := s.heap.update l (Obj.mapSeq f), toks := t' } := by
 have q := PySem.IsL.update e f
 rw [hf] at q
 refine I.write (x := l) (e := l) (by rw [hH]; exact trivial) (.inl rfl) (λ b' u hb hu => (Heap.get?_update_other s.heap (Obj.mapSeq f) (Ne.symm hb)).trans hu) ⟨_, q⟩ ?_
 exact ⟨hz, its', _, hv, q⟩
theorem Inv.lnew {its : List Value} {t' : Nat} (I : Inv X pins σ H s) (hv : Vals ys its) (hz : ys.length <= sizeLine) :
  Inv X pins σ (upd H s.heap.objs.size (.lst ys)) { s with heap := s.heap.push { cls := .type "list", data := .seq its.toArray }, toks := t' } :=
 I.laid (λ _ _ q => Heap.get?_push_of_some _ q) (Nat.le_refl _) ⟨hz, its, 0, hv, Heap.get?_push_size _ rfl⟩
theorem Inv.fresh (I : Inv X pins σ H s) : H s.heap.objs.size = none := I.hok.fresh (Nat.le_refl _)
theorem Inv.lstM (I : Inv X pins σ H s) (hH : H l = some (.lst xs)) : xs.length <= sizeLine /\ ∃ (its : List Value) (n : Nat), Vals xs its /\ xs.length = its.length /\ s.heap.get? l = some { cls := .type "list", data := .seq its.toArray n } := by
 obtain ⟨z, its, n, r, e⟩ := I.hok l _ hH
 exact ⟨z, its, n, r, r.length, e⟩
theorem zkx {n : Nat} (h : n <= sizeLine) : Builtin.List.listTooLong n = false := by
 unfold Builtin.List.listTooLong
 exact decide_eq_false (by omega)
end
section
variable {X : Cx}
noncomputable def zmJ : V -> List V -> Hp -> VK -> Prop := λ x vs H Q => ∃ l xs y, x = .ref l /\ vs = [y] /\ H l = some (.lst xs) /\ xs.length < sizeLine /\ Q .non (upd H l (.lst (xs ++ [y])))
theorem zg7 : MtM X "list.append" zmJ := by
 intro pins s σ H x vs v us Q I rx rv h
 obtain ⟨l, xs, y, rfl, rfl, hH, hz, q⟩ := h
 cases rx
 obtain ⟨u, rfl, ru⟩ := rv.one
 obtain ⟨z, its, n, r, hl, e⟩ := I.lstM hH
 refine call_meets F.slot_list_append ⟨_, e, rfl⟩ F.entry_list_append (F.args_list_append_2 _ _) (PySem.list_append l its.toArray n u (by rw [List.size_toArray]; omega)) ⟨e, ?_⟩
 refine ⟨.non, _, I.lset (its' := its ++ [u]) hH e (by simp) (r.append (.cons ru .nil)) ?_, rfl, q⟩
 rw [List.length_append, List.length_singleton]
 omega
noncomputable def rCat : R2 := λ x y H Q => ∃ l b xs zs, x = .ref l /\ y = .ref b /\ H l = some (.lst xs) /\ H b = some (.lst zs) /\ xs.length + zs.length <= sizeLine /\ ∀ p, H p = none -> Q (.ref p) (upd H p (.lst (xs ++ zs)))
theorem znZ : OpR X (binaryOp .Add) rCat := by
 intro pins s σ H x y v u Q I rx ry h
 obtain ⟨l, b, xs, zs, rfl, rfl, hH, hB, hz, q⟩ := h
 cases rx
 cases ry
 obtain ⟨z, its, n, r, hl, e⟩ := I.lstM hH
 obtain ⟨z2, its2, n2, r2, hl2, e2⟩ := I.lstM hB
 refine PySem.P.add_list e e2 ?_ (by rw [List.size_toArray, List.size_toArray]; omega)
 have ea : its.toArray ++ its2.toArray = (its ++ its2).toArray := by simp
 rw [ea]
 exact ⟨.ref _, _, I.lnew (t' := s.toks) (r.append r2) (by rw [List.length_append]; omega), rfl, q _ I.fresh⟩
noncomputable def rRep : R2 := λ x y H Q => ∃ l k xs, x = .ref l /\ y = .int k /\ H l = some (.lst xs) /\ -(2 ^ 63) <= k /\ k < 2 ^ 63 /\ xs.length * k.toNat <= sizeLine /\
 ∀ p, H p = none -> Q (.ref p) (upd H p (.lst (List.replicate k.toNat xs).flatten))
theorem len_rep {α : Type} (xs : List α) (k : Nat) : (List.replicate k xs).flatten.length = k * xs.length := by
 induction k with
 | zero => simp
 | succ k ih => rw [List.replicate_succ, List.flatten_cons, List.length_append, ih, Nat.succ_mul, Nat.add_comm]
theorem zou : OpR X (binaryOp .Mult) rRep := by
 intro pins s σ H x y v u Q I rx ry h
 obtain ⟨l, k, xs, rfl, rfl, hH, h1, h2, hz, q⟩ := h
 cases rx
 obtain ⟨t, rfl⟩ := ry
 obtain ⟨z, its, n, r, hl, e⟩ := I.lstM hH
 have hlen : its.toArray.size * k.toNat <= sizeLine := by rw [List.size_toArray, <- hl]; exact hz
 have hcap : ¬ its.toArray.size * k.toNat > (2 ^ 63 - 1) / 8 := by
  have : (sizeLine : Nat) <= (2 ^ 63 - 1) / 8 := by decide
  omega
 have hfit : ¬ (!Builtin.List.listFitsIndex k) = true := by
  rw [fitsIndex_both h1 h2]
  exact Bool.false_ne_true
 have hlong : ¬ Builtin.List.listTooLong (its.toArray.size * k.toNat) = true := by
  rw [zkx hlen]
  exact Bool.false_ne_true
 have hnew : List.foldl (λ x1 x2 => x1 ++ x2) #[] (List.replicate (if its.toArray.isEmpty = true then 0 else k.toNat) its.toArray) = (List.replicate k.toNat its).flatten.toArray := by
  have f0 : ∀ m : Nat, List.foldl (λ x1 x2 => x1 ++ x2) #[] (List.replicate m its.toArray) = (List.replicate m its).flatten.toArray := λ m => by
   have := foldl_rep its m []
   rw [List.nil_append] at this
   exact this
  rw [f0]
  cases its with
  | nil => simp
  | cons a r' => rw [if_neg (by simp)]
 refine wpAny_binaryOp_repeat_ref (T := "list") (U := "int") (by decide) ⟨_, e, rfl⟩ (λ s' => typeIs_int s' k t) noFill_list_mul F.fills_int_mul F.slot_int_rmul repeat_list F.slot_int_index.lookup
  (call_meets F.slot_int_rmul (typeIs_int s k t) F.entry_int_rmul (F.args_int_rmul_2 _ _) (int___rmul___int_list k t l its.toArray n)
   ⟨e, rfl, ⟨_, e, rfl⟩, call_meets F.slot_list_mul ⟨_, e, rfl⟩ F.entry_list_mul (F.args_list_mul_2 _ _) (AutoListH.list___mul___list_int_3 l its.toArray n k t hfit hcap hlong) ⟨e, ?_⟩⟩)
 rw [hnew]
 exact ⟨.ref _, _, I.lnew (t' := s.toks) (r.rep k.toNat) (by rw [len_rep, Nat.mul_comm]; exact hz), rfl, q _ I.fresh⟩
end
section
variable {prog : Program} {w : World} {A : Around} {E : Value -> Shared -> Prop} {s : Shared}
set_option maxRecDepth 100000 in
end
section
variable {X : Cx}
end
end L2
namespace Att
open PySem PySem.W PySem.Calls PyProof.Rows
theorem zfd {P : Params} {h : Heap} : ∀ (ns : List Int) (vs : List Value), WellAll P h vs (ns.map WData.int) -> IntsAre vs ns := by
 intro ns
 induction ns with
 | nil =>
  intro vs w
  rw [List.map_nil] at w
  cases w
  exact .nil
 | cons n ns ih =>
  intro vs w
  rw [List.map_cons] at w
  cases w with
  | cons a b =>
   cases a
   exact .cons _ _ (ih _ b)
theorem zji {l : OpenLaw} {n : Nat} (hn : l.most = some n) {P : Params} {h : Heap} {args : List WData} {vals : List Value}
  (hpre : l.row.toRowW.claim.pre args = true) (hwl : WellAll P h vals args) :
  ∃ a vs ns, vals = [Value.ref a] /\ args = [WData.list (ns.map WData.int)] /\ h.get? a = some { cls := .type "list", data := .seq vs.toArray } /\ IntsAre vs ns /\ ns.length <= n := by
 have hsh : WShape.hasAll [] args [.list .int] = true := (pre_splitW hpre).1
 have hc : l.pre.holds [] { args := args } = true := (pre_splitW hpre).2
 obtain ⟨d, r, rfl, h1, h2⟩ := hasAllW_cons hsh
 obtain rfl := hasAllW_nil h2
 obtain ⟨xs, rfl, h3⟩ := hasW_list h1
 obtain ⟨ns, rfl⟩ := items_int h3
 have hlen : ns.length <= n := by
  unfold OpenLaw.pre at hc
  have h4 : (WTm.not (.lt (.lit (.int (n : Int))) (.len (.arg 0)))).holds [] { args := [.list (ns.map .int)] } = true := by
   have h4 := (holds_andW hc).1
   rw [hn] at h4
   exact h4
  have h5 := condW_of h4 (w_not (w_lt w_lit (w_len_list (w_arg rfl))))
  rw [List.length_map] at h5
  refine Nat.le_of_not_lt λ q => ?_
  have q' : (n : Int) < ((ns.length : Nat) : Int) := by omega
  first
   | (rw [decide_eq_true q'] at h5; exact absurd h5 (by decide))
   | (simp at h5; omega)
 cases hwl with
 | cons w1 w2 =>
  cases w2
  cases w1 with
  | list ho hall => exact ⟨_, _, ns, rfl, rfl, ho, zfd ns _ hall, hlen⟩
theorem zjK (l : OpenLaw) (args : List WData) : l.row.toRowW.claim.post args (.bool true) args = true :=
 postW_of (r := l.row.toRowW) (X := (true == true))
  (show WShape.has [] (.bool true) .bool = true by first | rfl | decide | simp [WShape.has, WShape.arms, WShape.armsAll])
  (show (WTm.eq .res (.lit (.bool true))).value [] { args := args, res := some (.bool true), after := args } = some (.bool (true == true)) from w_eq_bool (w_res rfl) w_lit) rfl
theorem zh6 {l : OpenLaw} {n : Nat} {q : Program} {loose : List Str} {XP : (Str -> Option Value) -> Heap -> Prop} {YP : World -> Heap -> Prop} {d : DefRec}
  (hn : l.most = some n) (hdf : d.params.defaults = [])
  (call : ∀ (w : World) (s₀ s₁ : Shared) (mg mb : Str -> Option Value) (fa : Addr) (o : Obj) (pm cd doc : Value) (a : Addr) (vs : List Value) (ns : List Int),
   Ground q loose [] XP w s₀ mg mb s₁.heap -> YP w s₁.heap ->
   s₁.heap.get? fa = some o -> o.data = .func (docDef d.name d.params d.body d.scope pm cd doc) -> s₁.heap.CodeRec cd d.name -> mg d.name = some (.ref fa) ->
   s₁.heap.get? a = some { cls := .type "list", data := .seq vs.toArray } -> IntsAre vs ns -> ns.length <= n -> s₁.gens = #[] ->
   codeAny (model l.prog w) callerA (.call (.ref fa) ⟨[.ref a], []⟩) (λ r s' => r = .ok (.ret (.bool true)) /\ OldK s₁.heap s'.heap /\ s'.os = s₁.os /\ AllBare s'.gens) s₁) :
  WalkO q loose XP YP l.row.toRowW d [] (λ f vs => PySem.call f vs) := by
 intro w s₀ s₁ mg mb G Y fa o pm cd doc dV kV ho hd hcd hD hmg hg args vals as hpre hlay hrd hwl hlo
 obtain rfl : dV = .none := Dflts.none hD hdf
 obtain rfl : kV = .none := Dflts.noKw hD
 obtain ⟨a, vs, ns, rfl, rfl, hobj, hints, hlen⟩ := zji hn hpre hwl
 refine enter_call (codeAny_mono (call w s₀ s₁ mg mb fa o pm cd doc a vs ns G Y ho (fd_plain hd) hcd hmg hobj hints hlen hg) λ r s' hq => ?_)
 obtain ⟨rfl, h2, h3, h4⟩ := hq
 exact ⟨.inl ⟨.bool true, .bool true, [], rfl, λ _ => rfl, .bool true, zjK l _, λ _ => ⟨List.Pairwise.nil, λ _ hm => (nomatch hm)⟩⟩, h2, h3, h4⟩
section
variable {prog : Program} {w : World} {A : Around} {E : Value -> Shared -> Prop} {s : Shared} {K : Frag}
end
end Att
namespace L2
open PySem PySem.Spec PyProof.Rows
theorem zhk : ∀ {vs : List Value} {ns : List Int}, IntsAre vs ns -> Vals (ns.map V.int) vs
 | _, _, .nil => .nil
 | _, _, .cons n t h => .cons ⟨t, rfl⟩ (zhk h)
end L2
namespace L2
open PySem PySem.Spec PyProof.Rows
noncomputable abbrev KOf {K : Frag} {h : Heap} (_ : K.In h) : Frag := K
end L2
namespace L2
open PySem PySem.Spec PyProof.Rows
noncomputable def zb5 (s : Stmt) : Arguments := match s with
 | .FunctionDef _ a _ _ _ _ _ _ _ _ => a
 | _ => { posonlyargs := [], args := [], vararg := none, kwonlyargs := [], kw_defaults := [], kwarg := none, defaults := [] }
noncomputable def zaG (s : Stmt) : List Stmt := match s with
 | .FunctionDef _ _ b _ _ _ _ _ _ _ => b
 | _ => []
noncomputable def zO (s : Stmt) : Scope := match s with
 | .FunctionDef _ _ _ _ _ _ sc _ _ _ => sc
 | _ => { kind := .function, names := [], isGenerator := false, isCoroutine := false }
noncomputable abbrev CX0 : CXT := λ _ _ _ _ _ _ => False
noncomputable abbrev E0 : XK := λ _ _ _ => False
theorem zpj {X : Cx} : Passes CX0 X E0 := λ _ _ _ _ _ _ _ h => h.elim
structure Fun (K : Frag) (x qual : Str) (st : Stmt) (f : Addr) (fd : FuncData) : Prop where
 ex : ∃ (oc : Value) (od : Option Addr) (kV doc pm : Value) (an : Option Addr) (cdv ct : Value) (osl : Array (Option Value)),
  fd = PySem.W.fnOf x qual (zb5 st) (zaG st) (zO st) .none kV doc pm an cdv ct /\ K.lookup f = some ⟨oc, od, .func fd, osl⟩ /\ PySem.W.codeIn K cdv qual = true
 kp : PySem.W.keepIn K (.ref f) = true
section
variable {P : Program} {w : World} {K : Frag} {mg : Str -> Option Value} {base : Heap}
theorem Fun.ok {x qual : Str} {st : Stmt} {f : Addr} {fd : FuncData} {N ps : List Str} {k : Nat} {sp : Sp} (F : Fun K x qual st f fd) (S : zai N ps (zO st)) (len : ∀ vs H Q E, sp vs H Q E -> vs.length = ps.length)
  (hbody : ∀ (cdv : Value) (A : Around) (outer : List Env) (s : Shared) (H : Hp) (vs : List V) (Q : VK) (E : XK), Room k (A.deeper (envOfC qual (zO st) s.heap.objs.size f cdv)) -> sp vs H Q E ->
   ∃ t, PSs (cxOf CX0 P w K mg base N qual (zO st) f cdv A outer s H E).nox (zaG st) t /\ t { nx := λ _ H' => Q .non H', rt := Q } (start N vs) H) : FnOk P w K mg base CX0 (k + 1) f fd ps sp := by
 obtain ⟨oc, od, kV, doc, pm, an, cdv, ct, osl, rfl, lk, hcd⟩ := F.ex
 refine zmL lk hcd S len λ A outer s H vs Q E hr hsp => ?_
 obtain ⟨t, h, q⟩ := hbody cdv A outer s H vs Q E hr hsp
 exact ⟨t, h.nox, q⟩
theorem Fun.binds {x qual : Str} {st : Stmt} {f : Addr} {fd : FuncData} {ps : List Str} (F : Fun K x qual st f fd)
  (h : ∀ (kV doc pm : Value) (an : Option Addr) (cdv ct : Value) (us : List Value), us.length = ps.length -> bindArgs (PySem.W.fnOf x qual (zb5 st) (zaG st) (zO st) .none kV doc pm an cdv ct) ⟨us, []⟩ = pure (ps.zip us)) : Binds K fd ps [] := by
 obtain ⟨oc, od, kV, doc, pm, an, cdv, ct, osl, rfl, lk, hcd⟩ := F.ex
 exact .all (h kV doc pm an cdv ct)
theorem zoy {x qual : Str} {st : Stmt} {f : Addr} {oc : Value} {od an : Option Addr} {osl : Array (Option Value)} {kV doc pm cdv ct : Value} (l : K.lookup f = some ⟨oc, od, .func (PySem.W.fnOf x qual (zb5 st) (zaG st) (zO st) .none kV doc pm an cdv ct), osl⟩)
  (c : PySem.W.codeIn K cdv qual = true) (k : PySem.W.keepIn K (.ref f) = true) : Fun K x qual st f (PySem.W.fnOf x qual (zb5 st) (zaG st) (zO st) .none kV doc pm an cdv ct) := ⟨⟨oc, od, kV, doc, pm, an, cdv, ct, osl, rfl, l, c⟩, k⟩
end
section
variable {X : Cx}
end
end L2
namespace L2
open PySem PySem.Spec PyProof.Rows
section
variable {κ : Type} [DecidableEq κ]
noncomputable def valV (kvs : List (κ × V)) (k : κ) : Option V := (kvs.find? λ kv => decide (kv.1 = k)).map (·.2)
noncomputable def putK (kvs : List (κ × V)) (k : κ) (v : V) : List (κ × V) :=
 if (kvs.any λ kv => decide (kv.1 = k)) = true then kvs.map (λ kv => if kv.1 = k then (kv.1, v) else kv) else kvs ++ [(k, v)]
theorem zgq {p : κ × V} {r : List (κ × V)} {k : κ} (e : p.1 = k) : valV (p :: r) k = some p.2 := by simp [valV, List.find?_cons, e]
theorem zgt {p : κ × V} {r : List (κ × V)} {k : κ} (e : ¬ p.1 = k) : valV (p :: r) k = valV r k := by simp [valV, List.find?_cons, e]
theorem ziq (k : κ) : ∀ kvs : List (κ × V), (kvs.any λ kv => decide (kv.1 = k)) = (valV kvs k).isSome
 | [] => rfl
 | p :: r => by
  rw [List.any_cons]
  by_cases e : p.1 = k
  ·simp only [zgq e, decide_eq_true e, Bool.true_or, Option.isSome_some]
  ·rw [zgt e, decide_eq_false e, Bool.false_or]; exact ziq k r
theorem zh9 (kvs : List (κ × V)) (k : κ) (v : V) : (putK kvs k v).length <= kvs.length + 1 := by
 unfold putK
 split
 ·rw [List.length_map]; omega
 ·rw [List.length_append, List.length_cons, List.length_nil]; omega
theorem zk6 {kvs : List (κ × V)} {k : κ} (v : V) (h : valV kvs k = none) : putK kvs k v = kvs ++ [(k, v)] := by
 unfold putK
 rw [ziq, h]
 exact if_neg (by decide)
theorem KV.val {kvs : List (κ × V)} {vs : List (κ × Value)} (r : KV kvs vs) (k : κ) : RelO (valV kvs k) (valueAt vs k) := by
 unfold KV at r
 induction r with
 | nil => exact True.intro
 | @cons p q ps qs h t ih =>
  obtain ⟨h1, h2⟩ := h
  by_cases e : p.1 = k
  ·have e' : q.1 = k := h1.symm.trans e
   have b : valueAt (q :: qs) k = some q.2 := by simp [valueAt, List.find?_cons, e']
   rw [zgq e, b]; exact h2
  ·have e' : ¬ q.1 = k := λ z => e (h1.trans z)
   have b : valueAt (q :: qs) k = valueAt qs k := by simp [valueAt, List.find?_cons, e']
   rw [zgt e, b]; exact ih
theorem KV.any {kvs : List (κ × V)} {vs : List (κ × Value)} (r : KV kvs vs) (k : κ) : (kvs.any λ kv => decide (kv.1 = k)) = vs.any λ kv => decide (kv.1 = k) := by
 unfold KV at r
 induction r with
 | nil => rfl
 | cons h t ih => rw [List.any_cons, List.any_cons, ih, h.1]
theorem KV.repl {kvs : List (κ × V)} {vs : List (κ × Value)} (r : KV kvs vs) (k : κ) {y : V} {u : Value} (ry : RelV y u) :
  KV (kvs.map λ kv => if kv.1 = k then (kv.1, y) else kv) (vs.map λ kv => if kv.1 = k then (kv.1, u) else kv) := by
 unfold KV at r ⊢
 induction r with
 | nil => exact .nil
 | @cons p q ps qs h t ih =>
  rw [List.map_cons, List.map_cons]
  refine .cons ?_ ih
  obtain ⟨h1, h2⟩ := h
  by_cases e : p.1 = k
  ·rw [if_pos e, if_pos (h1.symm.trans e)]; exact ⟨h1, ry⟩
  ·rw [if_neg e, if_neg (λ z => e (h1.trans z))]; exact ⟨h1, h2⟩
theorem KV.put {kvs : List (κ × V)} {vs : List (κ × Value)} (r : KV kvs vs) (k : κ) {y : V} {u : Value} (ry : RelV y u) : KV (putK kvs k y) (stored vs k u) := by
 unfold putK stored
 rw [r.any k]
 by_cases e : (vs.any λ kv => decide (kv.1 = k)) = true
 ·rw [if_pos e, if_pos e]; exact r.repl k ry
 ·rw [if_neg e, if_neg e]; exact Paired.snoc r ⟨rfl, ry⟩
theorem KV.length {kvs : List (κ × V)} {vs : List (κ × Value)} (r : KV kvs vs) : kvs.length = vs.length := Paired.length r
end
theorem zpF {P : Program} {w : World} {k : Key} {u : Value} (r : RelV (kV k) u) : (zcn P w).is k u = true := by
 cases k with
 | inl i => obtain ⟨t, e⟩ := (show ∃ t, u = Value.int i t from r); subst e; exact zhQ P w i t
 | inr x => obtain ⟨t, e⟩ := (show ∃ t, u = Value.str x t from r); subst e; exact zhX P w x t
section
variable {P : Program} {w : World} {H : Hp} {h : Heap} {a : Addr}
theorem zpL {u : HO} (ok : HOk P w H h) (e : Rd H a u) : zZ P w H h a u := e.ok ok
theorem zpp {kvs : List (Key × V)} (ok : HOk P w H h) (e : Rd H a (.dK kvs)) : kvs.length <= sizeLine /\ (a == sysModules) = false /\ ∃ vs, KV kvs vs /\ h.DictOf (zcn P w) a vs :=
 show zZ P w H h a (.dK kvs) from zpL ok e
theorem znP {kvs : List (Key × V)} (ok : HOk P w H h) (e : H a = some (.dK kvs)) : kvs.length <= sizeLine /\ (a == sysModules) = false /\ ∃ vs, KV kvs vs /\ h.DictOf (zcn P w) a vs := zpp ok (.inl e)
end
section
variable {X : Cx} {pins : List (Addr × Obj)} {σ : St} {H : Hp} {s : Shared} {a : Addr} {y v : V} {u r : Value} {o : Option V} {A : Around} {E : Value -> Shared -> Prop}
theorem Inv.big (I : Inv X pins σ H s) : sysModules < s.heap.objs.size := by
 have h : mainGlobals < s.heap.objs.size := (I.mod.glob.keeps I.bk).lt
 exact Nat.lt_trans (by decide) h
theorem znj {h' : Heap} {t' : Nat} {ob : HO} (I : Inv X pins σ H s) (mu : Mut (H a)) (hs : Heap.SameBut a s.heap h') (he : ∃ q, h'.get? a = some q) (new : zZ X.prog X.w (upd H a ob) h' a ob) :
  Inv X pins σ (upd H a ob) { s with heap := h', toks := t' } :=
 I.write (x := a) (e := a) mu (.inl rfl) (λ b q hb z => (hs.2 b hb).trans z) he new
theorem znT {P : Program} {w : World} {H' : Hp} {h' : Heap} {kvs : List (Key × V)} {vs : List (Key × Value)} (z : kvs.length <= sizeLine) (hd : (a == sysModules) = false) (rel : KV kvs vs) (dd : h'.DictOf (zcn P w) a vs) :
  zZ P w H' h' a (.dK kvs) := ⟨z, hd, vs, rel, dd⟩
end
section
variable {X : Cx} {pins : List (Addr × Obj)} {σ : St} {H : Hp} {s : Shared} {a : Addr} {kvs : List (Key × V)} {k : Key} {u : Value} {A : Around} {E : Value -> Shared -> Prop}
end
section
variable {X : Cx} {o i e value : Expr} {pos pos' tpos : Pos} {td ty tv : TE}
end
theorem zlw {P : Program} {w : World} {H : Hp} (h : Heap) (hb : sysModules < h.objs.size) : zZ P w H (h.push { cls := .type "dict", data := .dict #[] }) h.objs.size (.dK []) :=
 ⟨Nat.zero_le _, beq_eq_false_iff_ne.mpr (Ne.symm (Nat.ne_of_lt hb)), [], .nil, Heap.DictOf.new h⟩
noncomputable def znw : TE := λ _ H Q => ∀ p, H p = none -> Q (.ref p) (upd H p (.dK []))
section
variable {X : Cx} {pos : Pos}
theorem zkP : PE X (.Dict [] [] pos) znw := λ pins s σ H Q I h =>
 wpAny_Dict_empty ⟨.ref s.heap.objs.size, _, I.laid (a := s.heap.objs.size) (o := .dK []) (t' := s.toks) (λ _ _ q => Heap.get?_push_of_some _ q) (Nat.le_refl _) (zlw s.heap I.big), rfl, h _ (I.hok.fresh (Nat.le_refl _))⟩
end
section
variable {X : Cx} {pins : List (Addr × Obj)} {σ : St} {H : Hp} {s : Shared} {a : Addr} {y d : V} {u r : Value} {o : Option V} {A : Around} {E : Value -> Shared -> Prop}
end
section
variable {X : Cx} {o e f : Expr} {apos cpos : Pos} {td ty tx : TE}
end
section
variable {X : Cx} {pins : List (Addr × Obj)} {σ : St} {H : Hp} {s : Shared} {a : Addr} {kvs : List (Key × V)} {A : Around} {E : Value -> Shared -> Prop}
end
section
variable {X : Cx} {pins : List (Addr × Obj)} {σ : St} {H : Hp} {s : Shared} {a : Addr} {y : V} {u : Value} {A : Around} {E : Value -> Shared -> Prop}
end
end L2
namespace L2
open PySem PySem.Spec PyProof.Rows
noncomputable def zbB (env : Env) : List (Str × NameKind) -> List (Str × Addr) -> List (Str × Addr)
 | [], acc => acc
 | (n, k) :: r, acc => zbB env r (if k == .free then (n, (env.cells.lookup n).getD 0) :: acc else acc)
theorem zkN {env : Env} (f : Str × NameKind -> List (Str × Addr) -> Sem (ForInStep (List (Str × Addr))))
  (hf : ∀ n k r, f (n, k) r = if (k == NameKind.free) = true then (do let c <- cellOf env n; pure (ForInStep.yield ((n, c) :: r))) else pure (ForInStep.yield r)) :
  ∀ (names : List (Str × NameKind)) (acc : List (Str × Addr)), (∀ y ∈ names, y.2 = .free -> ∃ c, env.cells.lookup y.1 = some c) -> (forIn names acc f : Sem (List (Str × Addr))) = pure (zbB env names acc) := by
 intro names
 induction names with
 | nil => intro acc _; rfl
 | cons y r ih =>
  intro acc hh
  obtain ⟨n, k⟩ := y
  rw [List.forIn_cons, hf]
  unfold zbB
  have hr := ih (if k == .free then (n, (env.cells.lookup n).getD 0) :: acc else acc) (λ y hy => hh y (List.mem_cons_of_mem _ hy))
  by_cases hk : k = .free
  ·subst hk
   obtain ⟨c, hc⟩ := hh (n, .free) List.mem_cons_self rfl
   have e : cellOf env n = pure c := by unfold cellOf; rw [hc]
   have hc' : List.lookup n env.cells = some c := hc
   simp only [e, hc', Option.getD_some, beq_self_eq_true, if_true] at hr ⊢
   exact hr
  ·have hb : (k == NameKind.free) = false := by simpa using hk
   simp only [hb, Bool.false_eq_true, if_false] at hr ⊢
   exact hr
theorem zfH {scope : Scope} {env : Env} (h : ∀ y ∈ scope.names, y.2 = .free -> ∃ c, env.cells.lookup y.1 = some c) : closureFor scope env = pure (zbB env scope.names []) := by
 unfold closureFor
 dsimp only
 rw [zkN _ (λ n k r => rfl) scope.names [] h]
 rfl
theorem zbn {env : Env} {n : Str} {c : Addr} : ∀ (names : List (Str × NameKind)) (acc : List (Str × Addr)), (n, c) ∈ zbB env names acc -> (n, c) ∈ acc ∨ ((n, NameKind.free) ∈ names /\ c = (env.cells.lookup n).getD 0)
 | [], acc, h => .inl h
 | (x, k) :: r, acc, h => by
  unfold zbB at h
  rcases zbn r _ h with h | ⟨h1, h2⟩
  ·by_cases hk : k = .free
   ·subst hk
    simp only [beq_self_eq_true, if_true] at h
    rcases List.mem_cons.mp h with e | h
    ·cases e; exact .inr ⟨List.mem_cons_self, rfl⟩
    ·exact .inl h
   ·have hb : (k == NameKind.free) = false := by simpa using hk
    simp only [hb, Bool.false_eq_true, if_false] at h
    exact .inl h
  ·exact .inr ⟨List.mem_cons_of_mem _ h1, h2⟩
theorem zdc {env : Env} {n : Str} : ∀ (names : List (Str × NameKind)) (acc : List (Str × Addr)), ((n, NameKind.free) ∈ names ∨ (acc.lookup n).isSome = true) -> ((zbB env names acc).lookup n).isSome = true
 | [], acc, h => by
  rcases h with h | h
  ·cases h
  ·exact h
 | (x, k) :: r, acc, h => by
  unfold zbB
  refine zdc r _ ?_
  rcases h with h | h
  ·rcases List.mem_cons.mp h with e | h
   ·cases e
    right
    simp
   ·exact .inl h
  ·right
   by_cases hk : (k == NameKind.free) = true
   ·rw [if_pos hk, List.lookup_cons]
    cases hx : n == x
    ·exact h
    ·rfl
   ·rw [if_neg hk]; exact h
theorem zcm {n : Str} {c : Addr} : ∀ (names : List (Str × NameKind)) (k : Nat) (acc : List (Str × Addr)), (n, c) ∈ cellsFrom k names acc -> (n, c) ∈ acc ∨ (k <= c /\ (n, NameKind.cell) ∈ names)
 | [], _, _, h => .inl h
 | (x, q) :: r, k, acc, h => by
  unfold cellsFrom at h
  by_cases hq : (q == NameKind.cell) = true
  ·rw [if_pos hq] at h
   have hq' : q = .cell := by simpa using hq
   rcases zcm r _ _ h with h | ⟨h1, h2⟩
   ·rcases List.mem_cons.mp h with e | h
    ·cases e; subst hq'; exact .inr ⟨Nat.le_refl _, List.mem_cons_self⟩
    ·exact .inl h
   ·exact .inr ⟨by omega, List.mem_cons_of_mem _ h2⟩
  ·rw [if_neg hq] at h
   rcases zcm r _ _ h with h | ⟨h1, h2⟩
   ·exact .inl h
   ·exact .inr ⟨h1, List.mem_cons_of_mem _ h2⟩
theorem zcu : ∀ (names : List (Str × NameKind)) (k : Nat) (acc : List (Str × Addr)), (∀ n c, (n, c) ∈ acc -> c < k) -> (∀ n n' c, (n, c) ∈ acc -> (n', c) ∈ acc -> n = n') -> ∀ n n' c, (n, c) ∈ cellsFrom k names acc -> (n', c) ∈ cellsFrom k names acc -> n = n'
 | [], _, _, _, hi, n, n', c, h, h' => hi n n' c h h'
 | (x, q) :: r, k, acc, hl, hi, n, n', c, h, h' => by
  unfold cellsFrom at h h'
  by_cases hq : (q == NameKind.cell) = true
  ·rw [if_pos hq] at h h'
   refine zcu r (k + 1) ((x, k) :: acc) (λ m d hm => ?_) (λ m m' d hm hm' => ?_) n n' c h h'
   ·rcases List.mem_cons.mp hm with e | hm
    ·cases e; exact Nat.lt_succ_self _
    ·exact Nat.lt_succ_of_lt (hl m d hm)
   ·rcases List.mem_cons.mp hm with e | hm
    ·rcases List.mem_cons.mp hm' with e' | hm'
     ·cases e; cases e'; rfl
     ·cases e; exact absurd (hl m' _ hm') (Nat.lt_irrefl _)
    ·rcases List.mem_cons.mp hm' with e' | hm'
     ·cases e'; exact absurd (hl m _ hm) (Nat.lt_irrefl _)
     ·exact hi m m' d hm hm'
  ·rw [if_neg hq] at h h'
   exact zcu r k acc hl hi n n' c h h'
theorem zb8 {n : Str} {c : Addr} : ∀ (names : List (Str × NameKind)) (h : Heap) (acc : List (Str × Addr)), (n, c) ∈ cellsFrom h.objs.size names acc -> (n, c) ∈ acc ∨ (pushCells h names).IsCell c none
 | [], _, _, q => .inl q
 | (x, k) :: r, h, acc, q => by
  unfold cellsFrom at q
  unfold pushCells
  by_cases hk : (k == NameKind.cell) = true
  ·rw [if_pos hk] at q ⊢
   have := zb8 r (h.push { cls := .type "cell", data := .cell none }) ((x, h.objs.size) :: acc) (by rw [Heap.size_push]; exact q)
   rcases this with z | z
   ·rcases List.mem_cons.mp z with e | z
    ·cases e
     exact .inr ⟨_, pushCells_keeps r _ _ _ (Heap.get?_push_size _ rfl), rfl⟩
    ·exact .inl z
   ·exact .inr z
  ·rw [if_neg hk] at q ⊢
   exact zb8 r h acc q
theorem zeb {M : Model} {A : Around} {E : Value -> Shared -> Prop} {s : Shared} {scope : Scope} {globals : Addr} {cl : List (Str × Addr)} {qual : Str} {env : Env} {Q : Env -> Shared -> Prop}
  (h : Q { scope, locals := s.heap.objs.size, globals, cells := cellsFrom (s.heap.objs.size + 1) scope.names cl, qual, func := none, code := env.code, frame := env.frame, builtins := env.builtins }
   { s with heap := pushCells (s.heap.push { cls := .type "dict", data := .dict #[] }) scope.names }) :
  wpAny M A (newFunctionEnv scope globals cl [] qual none .none (some env)) Q E s := by
 simp only [newFunctionEnv, Option.isSome_some, if_true]
 refine wpAny_bind (wpAny_alloc ?_)
 refine wpAny_bind (wpAny_layCells _ (λ name kind cells => by cases hkc : kind == NameKind.cell <;> simp [hkc]) _ _ _ _ ?_)
 rw [show ({ s with heap := s.heap.push { cls := .type "dict", data := .dict #[] } } : Shared).heap.objs.size = s.heap.objs.size + 1 from Heap.size_push ..]
 rw [List.forIn_nil]
 exact wpAny_bind (wpAny_pure (wpAny_pure h))
noncomputable def cpCx (X : Cx) (N : List Str) (scope : Scope) (s : Shared) (H : Hp) (fp : List Addr) (xe : Value -> Shared -> Prop) : Cx where
 prog := X.prog
 w := X.w
 K := X.K
 mg := X.mg
 base := X.base
 A := X.A
 N := N
 s0 := s
 H0 := H
 env := { scope := relabel scope X.env, locals := s.heap.objs.size, globals := X.env.globals, cells := cellsFrom (s.heap.objs.size + 1) scope.names (zbB X.env scope.names []), qual := X.env.qual, func := none, code := X.env.code, frame := X.env.frame, builtins := X.env.builtins }
 outer := X.stack
 stack := X.stack
 ex := fp
 fn := λ x => scope.names.lookup x == some .local || scope.names.lookup x == some .cell
 calm := X.calm
 pn := []
 xe := xe
structure zbt (X : Cx) (scope : Scope) : Prop where
 kind : scope.kind = .function
 nd : (scope.names.map (·.1)).Nodup
 free : ∀ y ∈ scope.names, y.2 = .free -> X.env.kindOf y.1 = some .cell ∨ X.env.kindOf y.1 = some .free
theorem zaK {α : Type} {x : Str} {k : α} : ∀ {l : List (Str × α)}, (l.map (·.1)).Nodup -> (x, k) ∈ l -> l.lookup x = some k
 | (y, q) :: r, nd, h => by
  rw [List.map_cons, List.nodup_cons] at nd
  rw [List.lookup_cons]
  rcases List.mem_cons.mp h with e | h
  ·cases e; simp
  ·have ne : (x == y) = false := by
    rw [beq_eq_false_iff_ne]
    intro e
    apply nd.1
    rw [<- e]
    exact List.mem_map_of_mem (f := (·.1)) h
   rw [ne]
   exact zaK nd.2 h
theorem zb3 {scope : Scope} {env : Env} {x : Str} {k : NameKind} (h : (relabel scope env).names.lookup x = some k) : scope.names.lookup x = some k ∨ (k = .cell /\ scope.names.lookup x = some .free /\ env.kindOf x = some .cell) := by
 unfold relabel at h
 dsimp only at h
 generalize scope.names = names at h ⊢
 induction names with
 | nil => cases h
 | cons y r ih =>
  obtain ⟨n, q⟩ := y
  rw [List.map_cons] at h
  have split : (if (q == NameKind.free && env.scope.kind == .function && env.kindOf n == some .cell) = true then (n, NameKind.cell) else (n, q)).1 = n := by split <;> rfl
  rw [List.lookup_cons] at h ⊢
  dsimp only at h
  rw [split] at h
  cases hx : x == n with
  | false => rw [hx] at h; exact ih h
  | true =>
   rw [hx] at h
   have e : x = n := beq_iff_eq.mp hx
   subst e
   by_cases hc : (q == NameKind.free && env.scope.kind == .function && env.kindOf x == some .cell) = true
   ·rw [if_pos hc] at h
    simp only [Bool.and_eq_true, beq_iff_eq] at hc
    cases h
    right
    exact ⟨rfl, by rw [hc.1.1], hc.2⟩
   ·rw [if_neg hc] at h
    left
    exact h
section
variable {X : Cx} {pins : List (Addr × Obj)} {σ : St} {H : Hp} {s : Shared} {scope : Scope}
theorem Inv.capt (I : Inv X pins σ H s) (S : zbt X scope) {x : Str} (h : (x, NameKind.free) ∈ scope.names) : ∃ c, X.env.cells.lookup x = some c := I.ok.has x (S.free _ h rfl)
theorem zdK (I : Inv X pins σ H s) (S : zbt X scope) {x : Str} {c : Addr} (h : (x, c) ∈ cellsFrom (s.heap.objs.size + 1) scope.names (zbB X.env scope.names [])) :
  ((x, NameKind.free) ∈ scope.names /\ X.env.cells.lookup x = some c /\ c < s.heap.objs.size) ∨ ((x, NameKind.cell) ∈ scope.names /\ s.heap.objs.size < c /\ ∀ h0 : Heap, h0.objs.size = s.heap.objs.size + 1 -> (pushCells h0 scope.names).IsCell c none) := by
 rcases zcm _ _ _ h with h1 | ⟨h1, h2⟩
 ·left
  rcases zbn _ _ h1 with z | ⟨z, e⟩
  ·cases z
  ·obtain ⟨c', hc⟩ := I.capt S z
   rw [hc] at e
   have e' : c = c' := e
   subst e'
   obtain ⟨v, q⟩ := I.cell x c hc
   exact ⟨z, hc, q.lt⟩
 ·right
  refine ⟨h2, h1, λ h0 e0 => ?_⟩
  have h' := h
  rw [<- e0] at h'
  rcases zb8 _ h0 _ h' with z | z
  ·exfalso
   rcases zbn _ _ z with z | ⟨z, e⟩
   ·cases z
   ·obtain ⟨c', hc⟩ := I.capt S z
    rw [hc] at e
    have e' : c = c' := e
    subst e'
    obtain ⟨v, q⟩ := I.cell x c hc
    exact Nat.lt_irrefl _ (Nat.lt_of_lt_of_le (Nat.lt_succ_of_lt q.lt) h1)
  ·exact z
theorem zkD {N : List Str} {fp : List Addr} {xe : Value -> Shared -> Prop} {σ' : St} (I : Inv X pins σ H s) (S : zbt X scope) (hf : ∀ b ∈ fp, FpOk X pins H b) (hfl : ∀ b ∈ fp, b < s.heap.objs.size) (hl : σ'.length = N.length)
  (hs : ∀ (j : Nat) (x : Str) (v : V), N[j]? = some x -> σ'[j]? = some (some v) -> (x, NameKind.free) ∈ scope.names /\ ∃ i : Nat, X.N[i]? = some x /\ σ[i]? = some (some v)) :
  Inv (cpCx X N scope s H fp xe) [] σ' H { s with heap := pushCells (s.heap.push { cls := .type "dict", data := .dict #[] }) scope.names } := by
 have hk : ∀ b o, s.heap.get? b = some o -> (pushCells (s.heap.push { cls := .type "dict", data := .dict #[] }) scope.names).get? b = some o := λ b o e => pushCells_keeps _ _ _ _ (Heap.get?_push_of_some _ e)
 have hsz : (s.heap.push { cls := .type "dict", data := .dict #[] }).objs.size = s.heap.objs.size + 1 := Heap.size_push ..
 have lkm : ∀ {x : Str} {c : Addr}, (cpCx X N scope s H fp xe).env.cells.lookup x = some c -> (x, c) ∈ cellsFrom (s.heap.objs.size + 1) scope.names (zbB X.env scope.names []) := λ h => PySem.mem_of_lookup h
 have lkc : ∀ {x : Str}, ((cpCx X N scope s H fp xe).env.kindOf x = some .cell ∨ (cpCx X N scope s H fp xe).env.kindOf x = some .free) -> ∃ c, (cpCx X N scope s H fp xe).env.cells.lookup x = some c := λ {x} h => by
  refine Option.isSome_iff_exists.mp (PySem.W.cellsFrom_some _ _ _ ?_)
  have two : scope.names.lookup x = some .cell ∨ scope.names.lookup x = some .free := by
   rcases h with h | h
   ·rcases zb3 h with z | ⟨_, z, _⟩
    ·exact .inl z
    ·exact .inr z
   ·rcases zb3 h with z | ⟨z, _⟩
    ·exact .inr z
    ·cases z
  rcases two with z | z
  ·exact .inl z
  ·exact .inr (zdc _ _ (.inl (PySem.mem_of_lookup z)))
 have exP : ∀ b ∈ fp, ∀ x c, (cpCx X N scope s H fp xe).env.cells.lookup x = some c -> c ≠ b := λ b hb x c e => by
  rcases zdK I S (lkm e) with ⟨_, q, _⟩ | ⟨_, q, _⟩
  ·exact (hf b hb).2.2.2.2.1 x c q
  ·intro z; subst z; exact Nat.lt_irrefl _ (Nat.lt_trans q (hfl _ hb))
 refine ⟨⟨I.ok.mod, S.kind, I.ok.glob, I.ok.blt, Nat.le_refl _, λ x y c h1 h2 => ?_, λ x h => lkc h, λ x c hx h => ?_, I.ok.hd, I.ok.frames, .inl rfl, λ b hb => ⟨?_, exP b hb⟩, I.bs, Nat.le_trans I.ok.bsz I.sz, λ b o e hb => ?_, λ b hb z => ?_, I.stack, I.stkFree⟩,
  rfl, I.bare, Un.kept hk, ⟨λ _ => none, ?_, λ j x v h1 h2 h3 => ?_⟩, λ x c e => ?_, I.fresh, λ x c e => ?_, λ p hp => ?_, I.hok.kept hk, hl⟩
 ·refine zcu _ _ _ (λ n c h => ?_) (λ n n' c h h' => ?_) x y c (lkm h1) (lkm h2)
  ·rcases zbn _ _ h with z | ⟨z, e⟩
   ·cases z
   ·obtain ⟨c', hc⟩ := I.capt S z
    rw [hc] at e
    have e' : c = c' := e
    subst e'
    obtain ⟨v, q⟩ := I.cell n c hc
    exact Nat.lt_succ_of_lt q.lt
  ·rcases zbn _ _ h with z | ⟨z, e⟩
   ·cases z
   ·rcases zbn _ _ h' with z' | ⟨z', e'⟩
    ·cases z'
    ·obtain ⟨d, hd⟩ := I.capt S z
     obtain ⟨d', hd'⟩ := I.capt S z'
     rw [hd] at e
     rw [hd'] at e'
     have e1 : c = d := e
     have e2 : c = d' := e'
     subst e1
     subst e2
     exact I.ok.inj _ _ _ hd hd'
 ·rcases zdK I S (lkm h) with ⟨z, _, _⟩ | ⟨_, z, _⟩
  ·exfalso
   have e1 := zaK S.nd z
   have hx' : (scope.names.lookup x == some .local || scope.names.lookup x == some .cell) = true := hx
   rw [e1] at hx'
   cases hx'
  ·exact Nat.le_of_lt z
 ·exact Nat.ne_of_lt (hfl b hb)
 ·obtain ⟨_, _, _, h4, _⟩ := hf b hb
  rcases h4 with h4 | h4
  ·exact I.ok.noex b o e h4
  ·exact absurd (Nat.lt_of_lt_of_le (Heap.lt_size e) (Nat.le_trans I.ok.bsz h4)) (Nat.lt_irrefl _)
 ·obtain ⟨_, h2, h3, _⟩ := hf b hb
  rcases List.mem_cons.mp (I.stkSub b z) with e | e
  ·exact h2 e
  ·exact h3 e
 ·exact (Heap.Ns.new s.heap (.type "dict")).keeps (pushCells_keeps _ _)
 ·obtain ⟨hx, i, e1, e2⟩ := hs j x v h1 h2
  obtain ⟨m, hn, hl'⟩ := I.loc
  have vis : Vis X.env.scope x := .inr (S.free _ hx rfl)
  obtain ⟨u, r, lk⟩ := hl' i x v e1 e2 vis
  refine ⟨u, r, .inr ?_⟩
  have hkf : (cpCx X N scope s H fp xe).env.kindOf x = some .cell ∨ (cpCx X N scope s H fp xe).env.kindOf x = some .free := by
   rcases h3 with z | z | z
   ·exfalso
    rcases zb3 z with z' | ⟨z', _⟩
    ·rw [zaK S.nd hx] at z'; cases z'
    ·cases z'
   ·exact .inl z
   ·exact .inr z
  refine ⟨hkf, ?_⟩
  obtain ⟨c, hc⟩ := lkc hkf
  refine ⟨c, hc, ?_⟩
  rcases zdK I S (lkm hc) with ⟨_, q, _⟩ | ⟨q, _, _⟩
  ·rcases lk with ⟨z, _⟩ | ⟨_, c', hc', cell⟩
   ·exfalso
    rcases S.free _ hx rfl with k | k <;> (rw [k] at z; cases z)
   ·rw [q] at hc'; cases hc'
    exact cell.keeps hk
  ·exfalso
   have a1 := zaK S.nd hx
   have a2 := zaK S.nd q
   rw [a1] at a2; cases a2
 ·rcases zdK I S (lkm e) with ⟨_, q, _⟩ | ⟨_, _, q⟩
  ·obtain ⟨v, z⟩ := I.cell x c q
   exact ⟨v, z.keeps hk⟩
  ·exact ⟨_, q _ hsz⟩
 ·rcases zdK I S (lkm e) with ⟨_, q, _⟩ | ⟨_, q, _⟩
  ·exact I.freeC x c q
  ·exact I.hok.fresh (Nat.le_of_lt q)
 ·have hp' : p ∈ ([] : List (Addr × Obj)) := hp
  cases hp'
end
noncomputable abbrev TEm := Addr -> St -> Hp -> (St -> Hp -> Prop) -> Prop
noncomputable def cpIn (elt : Expr) (gens : List Comprehension) (sc : Scope) (pos : Pos) (d : Nat) (acc : Value) (env : Env) (k : Sem Fin) : Sem Fin :=
 match gens[d + 1]? with
 | some g' => do
  let x <- eval g'.iter env
  standAt g'.iter.pos
  let x <- foldedSetIterable g'.iter env x
  let _ <- runOwn (.compStart (.ListComp elt gens sc pos) (d + 1) (<- holding [x] (pyIter x)) acc env) env
  k
 | none => do
  (do let _ <- call (.builtin "list.append") [acc, <- eval elt env])
  k
theorem zl9 {elt tg iter : Expr} {ifs : List Expr} {gens : List Comprehension} {sc : Scope} {pos : Pos} {d : Nat} {it acc : Value} {env : Env} (hg : gens[d]? = some ⟨tg, iter, ifs, 0⟩) (ha : ∀ g', gens[d + 1]? = some g' -> g'.is_async = 0) :
  compTurn (.ListComp elt gens sc pos) d it acc env = (do
   standAt iter.pos
   match <- pyNext it with
   | none => pure (.done .next)
   | some v =>
    letOwnedTupleGo tg it v
    assign tg env v
    let mut ok := true
    for c in ifs do
     if ok then ok <- isTrue c env (eval c env)
    if ok then cpIn elt gens sc pos d acc env (again (.compLoop (.ListComp elt gens sc pos) d it acc env))
    else again (.compLoop (.ListComp elt gens sc pos) d it acc env)) := by
 unfold compTurn cpIn
 dsimp only
 rw [hg]
 cases hn : gens[d + 1]? with
 | none => rfl
 | some g' =>
  obtain ⟨t', i', f', a'⟩ := g'
  have e : a' = 0 := ha _ hn
  subst e
  rfl
noncomputable def PIfs (X : Cx) (ifs : List Expr) (t : TT) : Prop :=
 ∀ (pins : List (Addr × Obj)) (s : Shared) (σ : St) (H : Hp) (Q : Bool -> Hp -> Prop), Inv X pins σ H s -> t σ H Q ->
  wpAny (model X.prog X.w) X.A (forIn ifs true λ c r => if r = true then do let ok <- isTrue c X.env (eval c X.env); pure (ForInStep.yield ok) else pure (ForInStep.yield r)) (TP X pins σ Q) X.xe s
noncomputable def zpo : TT := λ _ H Q => Q true H
theorem zln {X : Cx} : PIfs X [] zpo := λ pins s σ H Q I h => wpAny_tests_nil ⟨H, I, h⟩
theorem zkY {X : Cx} {c : Expr} {t : TT} (h : PT X c t) : PIfs X [c] t := λ pins s σ H Q I hw => wpAny_tests_one (h pins s σ H Q I hw)
noncomputable def PEm (X : Cx) (elt : Expr) (gens : List Comprehension) (sc : Scope) (pos : Pos) (d : Nat) (t : TEm) : Prop :=
 ∀ (pins : List (Addr × Obj)) (s : Shared) (σ : St) (H : Hp) (D : Addr) (Q : St -> Hp -> Prop) (k : Sem Fin) (Q' : Fin -> Shared -> Prop) (E : Value -> Shared -> Prop), Inv X pins σ H s -> t D σ H Q ->
  (∀ s' σ' H', Inv X pins σ' H' s' -> Q σ' H' -> wpAny (model X.prog X.w) X.A k Q' E s') -> wpAny (model X.prog X.w) X.A (cpIn elt gens sc pos d (.ref D) X.env k) Q' E s
noncomputable def zpy (te : TE) : TEm := λ D σ H Q => te σ H λ y H1 => ∃ ys, H1 D = some (.lst ys) /\ ys.length < sizeLine /\ Q σ (upd H1 D (.lst (ys ++ [y])))
noncomputable def ziO (J : It) (g : TG) (ti : TT) (tm : TEm) : TEm := λ D σ H Q => ∃ W : Nat -> Nat -> St -> Hp -> Prop, (∃ m, W 0 m σ H) /\ ∀ i m σ H, W i m σ H ->
 (J.stop i H /\ Q σ H) ∨ (J.go i H /\ ∃ N : St -> Hp -> Prop, (∀ σ' H', N σ' H' -> ∃ m', m' < m /\ W (i + 1) m' σ' H') /\ ∀ x H', J.yld i H x H' -> g x σ H' λ σ1 H1 => ti σ1 H1 λ b Hb => if b = true then tm D σ1 Hb N else N σ1 Hb)
noncomputable def zpa (wi : TI) (g : TG) (ti : TT) (tm : TEm) : TEm := λ D σ H Q => wi σ H λ J H1 => ziO J g ti tm D σ H1 Q
section
variable {X : Cx} {elt tg iter : Expr} {ifs : List Expr} {gens : List Comprehension} {sc : Scope} {pos : Pos} {d : Nat}
theorem zfM (hx : ∀ e s, X.xe e s -> False) {α : Type} {t : Sem α} {Q' : α -> Shared -> Prop} {E : Value -> Shared -> Prop} {s' : Shared} (hh : wpAny (model X.prog X.w) X.A t Q' X.xe s') : wpAny (model X.prog X.w) X.A t Q' E s' :=
 wpAny_mono hh (λ _ _ z => z) λ e s' z => (hx e s' z).elim
theorem zih {te : TE} (hx : ∀ e s, X.xe e s -> False) (he : PE X elt te) (hg : gens[d + 1]? = none) : PEm X elt gens sc pos d (zpy te) := by
 intro pins s σ H D Q k Q' E I h hk
 unfold cpIn
 rw [hg]
 refine wpAny_bind (wpAny_bind (zfM hx (thn (he pins s σ H _ I h) λ u s1 ⟨y, H1, I1, r1, ys, e1, z1, q1⟩ => ?_)))
 refine wpAny_bind (zfM hx (thn (zg7 pins s1 σ H1 (.ref D) [y] (.ref D) [u] (λ _ H' => Q σ H') I1 rfl (.cons r1 .nil) ⟨D, ys, y, rfl, rfl, e1, z1, q1⟩) λ _ s2 ⟨_, H2, I2, _, q2⟩ => ?_))
 exact wpAny_pure (hk s2 σ H2 I2 q2)
theorem zml {g : TG} {ti : TT} {tm : TEm} (hx : ∀ e s, X.xe e s -> False) (hc : X.calm = true) (hg : gens[d]? = some ⟨tg, iter, ifs, 0⟩) (ha : ∀ g', gens[d + 1]? = some g' -> g'.is_async = 0) (hgt : PG X tg g) (hi : PIfs X ifs ti) (hm : PEm X elt gens sc pos d tm)
  {pins : List (Addr × Obj)} {σ : St} {H : Hp} {s : Shared} {D : Addr} {Q : St -> Hp -> Prop} {J : It} {it : Addr} {fp : List Addr} {tn : Nat -> Heap -> Prop} (T : Turn X.prog X.w X.K tg J fp it tn) (I : Inv X pins σ H s) (st : tn 0 s.heap) (hf : ∀ b ∈ fp, FpOk X pins H b)
  (h : ziO J g ti tm D σ H Q) {R : Result -> Shared -> Prop} (hR : ∀ s' σ' H', Inv X pins σ' H' s' -> Q σ' H' -> R (.ok .next) s') :
  codeAny (model X.prog X.w) X.A (.compLoop (.ListComp elt gens sc pos) d (.ref it) (.ref D) X.env) R s := by
 obtain ⟨W, ⟨m0, w0⟩, turn⟩ := h
 have stat : ∀ {H' : Hp}, (∀ b ∈ fp, H' b = none) -> ∀ b ∈ fp, FpOk X pins H' b := λ hn b hb => ⟨hn b hb, (hf b hb).2⟩
 refine codeAny_loop rfl (λ n s' => ∃ i σ' H', Inv X pins σ' H' s' /\ tn i s'.heap /\ (∀ b ∈ fp, H' b = none) /\ W i n σ' H') (λ n s3 hI => ?_) m0 ⟨0, σ, H, I, st, λ b hb => (hf b hb).1, w0⟩
 show wpAny _ X.A ((compTurn (.ListComp elt gens sc pos) d (.ref it) (.ref D) X.env).onRaise (λ x => do noteFrame x X.env; theTreesLotGoes x)) _ _ s3
 refine wpAny_noted ?_
 rw [zl9 hg ha]
 refine wpAny_bind (wpAny_standAt ?_)
 obtain ⟨i, σ3, H3, I3, st3, fr3, w3⟩ := hI
 rcases turn i n σ3 H3 w3 with ⟨stop, qn⟩ | ⟨go, N, hN, step⟩
 ·refine wpAny_bind (thn (T.done X rfl rfl rfl hc i pins s3 σ3 H3 _ I3 (stat fr3) st3 stop) λ r s4 ⟨hr, I4⟩ => ?_)
  subst hr
  exact wpAny_pure (hR s4 σ3 H3 I4 qn)
 ·refine wpAny_bind (thn (T.item X rfl rfl rfl hc i pins s3 σ3 H3 _ I3 (stat fr3) st3 go) λ r s4 ⟨u, hr, h4⟩ => ?_)
  subst hr
  refine wpAny_bind (thn h4 λ _ s5 ⟨x, H5, I5, r5, y5, st5, fr5⟩ => ?_)
  have I5' := I5.pinned (stat fr5) (T.obj _ _ st5)
  have back : ∀ {σ7 : St} {H7 : Hp} {s7 : Shared}, Inv X (pins ++ zhj fp s5.heap) σ7 H7 s7 -> N σ7 H7 -> ∃ m, m < n /\ ∃ i σ' H', Inv X pins σ' H' s7 /\ tn i s7.heap /\ (∀ b ∈ fp, H' b = none) /\ W i m σ' H' := λ {σ7 H7 s7} I7 n7 => by
   obtain ⟨m', hm, w7⟩ := hN σ7 H7 n7
   refine ⟨m', hm, i + 1, σ7, H7, I7.unpinned, T.keep _ _ _ st5 λ b hb o e => (I7.pin (b, o) (List.mem_append_right _ (List.mem_append_right _ (zde hb e)))).1, λ b hb => ?_, w7⟩
   obtain ⟨o, e, d⟩ := T.obj _ _ st5 b hb
   exact (I7.pin (b, o) (List.mem_append_right _ (List.mem_append_right _ (zde hb e)))).2.1
  refine wpAny_bind (zfM hx (thn (hgt _ s5 σ3 H5 x u _ I5' r5 (step x H5 y5)) λ _ s6 ⟨σ6, H6, I6, q6⟩ => ?_))
  refine wpAny_bind (zfM hx (thn (hi _ s6 σ6 H6 _ I6 q6) λ ok s7 ⟨H7, I7, q7⟩ => ?_))
  cases ok with
  | false => exact wpAny_pure ⟨rfl, back I7 q7⟩
  | true =>
   rw [if_pos rfl] at q7
   exact hm _ s7 σ6 H7 D _ _ _ _ I7 q7 λ s8 σ8 H8 I8 q8 => wpAny_pure ⟨rfl, back I8 q8⟩
theorem zns {g : TG} {ti : TT} {tm : TEm} (hx : ∀ e s, X.xe e s -> False) (hc : X.calm = true) (hg : gens[d]? = some ⟨tg, iter, ifs, 0⟩) (ha : ∀ g', gens[d + 1]? = some g' -> g'.is_async = 0) (hgt : PG X tg g) (hi : PIfs X ifs ti) (hm : PEm X elt gens sc pos d tm)
  {pins : List (Addr × Obj)} {σ : St} {H : Hp} {s : Shared} {D : Addr} {Q : St -> Hp -> Prop} {J : It} {it : Addr} {fp : List Addr} {tn : Nat -> Heap -> Prop} (T : Turn X.prog X.w X.K tg J fp it tn) (I : Inv X pins σ H s) (st : tn 0 s.heap) (hf : ∀ b ∈ fp, FpOk X pins H b)
  (h : ziO J g ti tm D σ H Q) {R : Result -> Shared -> Prop} (hR : ∀ s' σ' H', Inv X pins σ' H' s' -> Q σ' H' -> R (.ok .next) s') :
  codeAny (model X.prog X.w) X.A (.compStart (.ListComp elt gens sc pos) d (.ref it) (.ref D) X.env) R s := by
 have loop := zml hx hc hg ha hgt hi hm T I st hf h hR
 refine codeAny_of_tree ?_
 show wpAny _ _ ((compStart (.ListComp elt gens sc pos) d (.ref it) (.ref D) X.env).onRaise (λ x => do noteFrame x X.env; standAt theWindowsPlace)) _ _ s
 refine wpAny_notedAt ?_
 unfold compStart
 have hcl : (clausesOf (.ListComp elt gens sc pos))[d]? = some ⟨tg, iter, ifs, 0⟩ := hg
 rw [hcl]
 show wpAny _ _ (ask >>= _) _ _ s
 refine wpAny_bind (wpAny_askSetting (wpAny_ite ?_))
 split
 ·first
   | exact wpAny_bind (wpAny_pure (wpAny_pure (And.intro rfl loop)))
   | exact wpAny_pure (And.intro rfl loop)
 ·first
   | exact wpAny_bind (wpAny_rule (wpAny_bind (wpAny_standAt (wpAny_bind (T.self _ 0 s _ _ st (wpAny_pure (And.intro rfl loop)))))))
   | (refine wpAny_bind (wpAny_rule ?_); show wpAny _ _ (standAt iter.pos >>= _) _ _ s; exact wpAny_bind (wpAny_standAt (wpAny_bind (T.self _ 0 s _ _ st (wpAny_pure (And.intro rfl loop))))))
theorem zkT {wi : TI} {g : TG} {ti : TT} {tm : TEm} (hx : ∀ e s, X.xe e s -> False) (hc : X.calm = true) (hg : gens[d + 1]? = some ⟨tg, iter, ifs, 0⟩) (ha : ∀ g', gens[d + 2]? = some g' -> g'.is_async = 0) (hw : PI X tg iter wi) (hgt : PG X tg g) (hi : PIfs X ifs ti) (hm : PEm X elt gens sc pos (d + 1) tm)
  (hs : ∀ x, foldedSetIterable iter X.env x = pure x := by intro _; rfl) : PEm X elt gens sc pos d (zpa wi g ti tm) := by
 intro pins s σ H D Q k Q' E I h hk
 unfold cpIn
 rw [hg]
 refine wpAny_bind (zfM hx (thn (hw pins s σ H _ I h) λ v s1 h1 => ?_))
 refine wpAny_bind (wpAny_standAt (wpAny_bind (wpAny_of_eq (hs v) ?_)))
 refine wpAny_bind (wpAny_holding (zfM hx (thn h1 λ itv s2 h2 => ?_)))
 obtain ⟨it, fp, tn, J, H2, e, I2, T, st2, f2, q2⟩ := h2
 subst e
 refine wpAny_bind (wpAny_runOwn (zns hx hc hg ha hgt hi hm T I2 st2 f2 q2 λ s' σ' H' I' q' => ?_))
 exact hk s' σ' H' I' q'
end
noncomputable def ncap (nl : Nat) (cap : List Nat) (σ : St) : St := List.replicate nl none ++ cap.map λ i => (σ[i]?).join
noncomputable def zeZ (M N : List Str) (scope : Scope) (nl : Nat) (cap : List Nat) : Bool :=
 N.length == nl + cap.length && (List.range cap.length).all λ k => match N[nl + k]?, M[cap.getD k 0]? with
  | some x, some y => x == y && scope.names.any λ z => z.1 == x && z.2 == NameKind.free
  | _, _ => false
theorem zkX {M N : List Str} {scope : Scope} {nl : Nat} {cap : List Nat} (h : zeZ M N scope nl cap = true) {σ : St} : (ncap nl cap σ).length = N.length /\
  ∀ (j : Nat) (x : Str) (v : V), N[j]? = some x -> (ncap nl cap σ)[j]? = some (some v) -> (x, NameKind.free) ∈ scope.names /\ ∃ i : Nat, M[i]? = some x /\ σ[i]? = some (some v) := by
 unfold zeZ at h
 rw [Bool.and_eq_true, beq_iff_eq] at h
 obtain ⟨h1, h2⟩ := h
 refine ⟨by unfold ncap; simp [h1], λ j x v e1 e2 => ?_⟩
 unfold ncap at e2
 by_cases hj : j < nl
 ·rw [List.getElem?_append_left (by simpa using hj), List.getElem?_replicate] at e2
  split at e2 <;> cases e2
 ·rw [List.getElem?_append_right (by simpa using hj), List.length_replicate, List.getElem?_map] at e2
  cases hc : cap[j - nl]? with
  | none => rw [hc] at e2; cases e2
  | some i =>
   rw [hc] at e2
   have e2' : (σ[i]?).join = some v := Option.some.inj e2
   have hk : j - nl < cap.length := (List.getElem?_eq_some_iff.mp hc).1
   have h3 := List.all_eq_true.mp h2 (j - nl) (List.mem_range.mpr hk)
   have ej : nl + (j - nl) = j := by omega
   rw [ej, e1] at h3
   have ec : cap.getD (j - nl) 0 = i := by rw [List.getD_eq_getElem?_getD, hc]; rfl
   rw [ec] at h3
   cases hm : M[i]? with
   | none => rw [hm] at h3; cases h3
   | some y =>
    rw [hm] at h3
    rw [Bool.and_eq_true, beq_iff_eq] at h3
    obtain ⟨h4, h5⟩ := h3
    subst h4
    obtain ⟨z, hz, hz2⟩ := List.any_eq_true.mp h5
    rw [Bool.and_eq_true, beq_iff_eq, beq_iff_eq] at hz2
    refine ⟨?_, i, hm, ?_⟩
    ·obtain ⟨z1, z2⟩ := z
     obtain ⟨a1, a2⟩ := hz2
     cases a1; cases a2
     exact hz
    ·cases hs : σ[i]? with
     | none => rw [hs] at e2'; cases e2'
     | some o => rw [hs] at e2'; cases o with
      | none => cases e2'
      | some w => cases e2'; rfl
noncomputable abbrev noxe : Value -> Shared -> Prop := λ _ _ => False
noncomputable def zla (K : Frag) (wi : TI) (g : TG) (ti : TT) (tm : TEm) (nl : Nat) (cap : List Nat) : TE := λ σ H Q => wi σ H λ J H2 => ∀ D, H2 D = none -> K.lookup D = none -> ziO J g ti tm D (ncap nl cap σ) (upd H2 D (.lst [])) λ _ H' => Q (.ref D) H'
section
variable {X : Cx} {elt tg iter : Expr} {ifs : List Expr} {gs : List Comprehension} {sc : Scope} {pos p : Pos} {wi : TI} {g : TG} {ti : TT} {tm : TEm} {N : List Str} {nl : Nat} {cap : List Nat}
theorem zib (hc : X.calm = true) (S : zbt X sc) (hcap : zeZ X.N N sc nl cap = true) (ha : ∀ g', gs[0]? = some g' -> g'.is_async = 0) (hw : PI X tg iter wi)
  {pins : List (Addr × Obj)} {σ : St}
  (hin : ∀ s H fp, Inv X pins σ H s -> (∀ b ∈ fp, FpOk X pins H b) -> PG (cpCx X N sc s H fp noxe) tg g /\ PIfs (cpCx X N sc s H fp noxe) ifs ti /\ PEm (cpCx X N sc s H fp noxe) elt (⟨tg, iter, ifs, 0⟩ :: gs) sc pos 0 tm)
  {H : Hp} {s : Shared} {Q : VK} (I : Inv X pins σ H s) (h : zla X.K wi g ti tm nl cap σ H Q)
  {use : Option (Value -> Sem Unit)} {Q' : Value -> Shared -> Prop}
  (hend : ∀ (D C : Addr) (s' : Shared) (H' : Hp) (m : Str -> Option Value), Inv X pins σ H' s' -> Q (.ref D) H' -> s'.heap.Ns C m -> H' C = none -> C ≠ X.env.locals -> X.s0.heap.objs.size <= C -> (∀ x c, X.env.cells.lookup x = some c -> c ≠ C) -> (∀ q ∈ X.pn ++ pins, q.1 ≠ C) ->
   compPost (model X.prog X.w) X.A X.xe use Q' (.ref D) C (.ok .next) s')
  (hs : ∀ x, foldedSetIterable iter X.env x = pure x := by intro _; rfl) :
  wpAny (model X.prog X.w) X.A (comprehension (.ListComp elt (⟨tg, iter, ifs, 0⟩ :: gs) sc pos) sc X.env p (newList []) false (eval iter X.env) use) Q' X.xe s := by
 have hfree : ∀ y ∈ sc.names, y.2 = .free -> ∃ c, X.env.cells.lookup y.1 = some c := λ y hy e => I.ok.has _ (S.free y hy e)
 refine wpAny_comprehension_free (use := use) rfl hs (zfH hfree) S.kind (λ y hy e => by
  obtain ⟨y1, y2⟩ := y
  have e' : y2 = .local := e
  subst e'
  exact zaK S.nd hy) ?_
 refine thn (hw pins s σ H _ I h) λ v s1 h1 => thn h1 λ itv s2 h2 => ?_
 obtain ⟨it, fp, tn, J, H2, e, I2, T, st2, f2, q2⟩ := h2
 subst e
 refine wpAny_newObj_type ?_
 have hD : H2 s2.heap.objs.size = none := I2.fresh
 have hKD : X.K.lookup s2.heap.objs.size = none := by
  cases ek : X.K.lookup s2.heap.objs.size with
  | none => rfl
  | some o => exact absurd (Heap.lt_size (I2.kIn _ _ ek)) (Nat.lt_irrefl _)
 have q3 := q2 _ hD hKD
 generalize hs3 : ({ s2 with heap := s2.heap.push { cls := .type "list", data := .seq ([] : List Value).toArray } } : Shared) = s3
 have hs3' : s3 = { s2 with heap := s2.heap.push { cls := .type "list", data := .seq ([] : List Value).toArray } } := hs3.symm
 have I3 : Inv X pins σ (upd H2 s2.heap.objs.size (.lst [])) s3 := by
  rw [hs3']
  exact I2.laid (t' := s2.toks) (λ b u e => Heap.get?_push_of_some _ e) (Nat.le_refl _) ⟨by simp, [], 0, .nil, Heap.get?_push_size _ rfl⟩
 have fpo : ∀ b ∈ fp, ∃ o, s2.heap.get? b = some o := λ b hb => let ⟨o, e, _⟩ := T.obj 0 _ st2 b hb; ⟨o, e⟩
 have sz3 : s3.heap.objs.size = s2.heap.objs.size + 1 := by rw [hs3']; exact Heap.size_push ..
 have st3 : tn 0 s3.heap := T.keep _ _ _ st2 λ b hb o e => by rw [hs3']; exact Heap.get?_push_of_some _ e
 have fl3 : ∀ b ∈ fp, b < s3.heap.objs.size := λ b hb => by
  obtain ⟨o, e⟩ := fpo b hb
  rw [sz3]; exact Nat.lt_succ_of_lt (Heap.lt_size e)
 have f3 : ∀ b ∈ fp, FpOk X pins (upd H2 s2.heap.objs.size (.lst [])) b := λ b hb => by
  obtain ⟨o, e⟩ := fpo b hb
  refine ⟨?_, (f2 b hb).2⟩
  rw [zP (Nat.ne_of_lt (Heap.lt_size e))]
  exact (f2 b hb).1
 generalize upd H2 s2.heap.objs.size (.lst []) = H3 at I3 f3 q3
 generalize s2.heap.objs.size = D at q3 ⊢
 refine zeb ?_
 obtain ⟨cl, cs⟩ := zkX hcap (σ := σ)
 have I4 := zkD (xe := noxe) I3 S f3 fl3 cl cs
 obtain ⟨hgt, hi, hm⟩ := hin s3 H3 fp I3 f3
 refine zns (X := cpCx X N sc s3 H3 fp noxe) (gens := ⟨tg, iter, ifs, 0⟩ :: gs) (d := 0) (λ _ _ z => z) hc rfl ha hgt hi hm T I4 (T.keep _ _ _ st3 λ b hb o e => pushCells_keeps _ _ _ _ (Heap.get?_push_of_some _ e)) (λ b hb => ?_) q3 λ s' σ' H' I' q' => ?_
 ·obtain ⟨g1, g2, g3, g4, g5, g6⟩ := f3 b hb
  refine ⟨g1, Nat.ne_of_lt (fl3 b hb), λ z => ?_, .inl hb, (I4.ok.exf b hb).2, λ p hp => absurd (show p ∈ ([] : List (Addr × Obj)) from hp) (by simp)⟩
  rcases List.mem_cons.mp (I3.stkSub b z) with e | e
  ·exact g2 e
  ·exact g3 e
 ·have I5 : Inv X pins σ H' s' := I3.call' I'.os I'.base I'.hok I'.bare λ b hb => by
   obtain ⟨g1, g2, g3, g4, g5, g6⟩ := f3 b hb
   exact ⟨g4, g2, g5, g6⟩
  obtain ⟨m, hn, _⟩ := I'.loc
  refine hend D _ s' H' m I5 q' hn I'.free (Nat.ne_of_gt I3.lt) I3.sz (λ x c e z => ?_) λ q hq z => ?_
  ·obtain ⟨v, w⟩ := I3.cell x c e
   exact Nat.lt_irrefl _ (Nat.lt_of_lt_of_le w.lt (by rw [z]; exact Nat.le_refl _))
  ·exact Nat.lt_irrefl _ (Nat.lt_of_lt_of_le (Heap.lt_size (I3.pin q hq).1) (by rw [z]; exact Nat.le_refl _))
theorem zmt (hc : X.calm = true) (S : zbt X sc) (hcap : zeZ X.N N sc nl cap = true) (ha : ∀ g', gs[0]? = some g' -> g'.is_async = 0) (hw : PI X tg iter wi)
  (hin : ∀ s H fp, PG (cpCx X N sc s H fp noxe) tg g /\ PIfs (cpCx X N sc s H fp noxe) ifs ti /\ PEm (cpCx X N sc s H fp noxe) elt (⟨tg, iter, ifs, 0⟩ :: gs) sc pos 0 tm)
  (hs : ∀ x, foldedSetIterable iter X.env x = pure x := by intro _; rfl) : PE X (.ListComp elt (⟨tg, iter, ifs, 0⟩ :: gs) sc pos) (zla X.K wi g ti tm nl cap) := by
 intro pins s σ H Q I h
 rw [eval_ListComp]
 refine zib (use := none) hc S hcap ha hw (λ s H fp _ _ => hin s H fp) I h (λ D C s' H' m I' q hn h1 h2 h3 h4 h5 => ?_) hs
 exact ⟨m, hn, λ h' sb => ⟨.ref D, H', I'.turned (t' := s'.toks) (λ b o hb e => (sb.2 b hb).trans e) h1 h2 (.inr h3) h4 h5, rfl, q⟩⟩
theorem ziU {i : Nat} {x : Str} {px : Pos} {spos : Pos} (hN : X.N.Nodup) (hi' : X.N[i]? = some x) (hx : X.env.scope.names.lookup x = some .local)
  (hsw : swapsWith (.ListComp elt (⟨tg, iter, ifs, 0⟩ :: gs) sc pos) (some (.Name x px)) spos.line X.env = pure true)
  (hc : X.calm = true) (S : zbt X sc) (hcap : zeZ X.N N sc nl cap = true) (ha : ∀ g', gs[0]? = some g' -> g'.is_async = 0) (hw : PI X tg iter wi)
  (hin : ∀ s H fp, PG (cpCx X N sc s H fp noxe) tg g /\ PIfs (cpCx X N sc s H fp noxe) ifs ti /\ PEm (cpCx X N sc s H fp noxe) elt (⟨tg, iter, ifs, 0⟩ :: gs) sc pos 0 tm)
  (hs : ∀ x, foldedSetIterable iter X.env x = pure x := by intro _; rfl) : PS X (.Assign [.Name x px] (.ListComp elt (⟨tg, iter, ifs, 0⟩ :: gs) sc pos) spos) (tAsg (zla X.K wi g ti tm nl cap) (zle i)) := by
 intro pins s σ H D I h
 rw [exec_Assign_Name_used _ _ _ _ hsw]
 refine wpAny_bind (wpAny_standAt (wpAny_bind ?_))
 show wpAny _ X.A (do let _ <- comprehension (.ListComp elt (⟨tg, iter, ifs, 0⟩ :: gs) sc pos) sc X.env _ (newList []) false (eval iter X.env) (some (assign (.Name x px) X.env))) _ _ s
 refine wpAny_bind (wpAny_mono (zib (use := some (assign (.Name x px) X.env)) (Q' := λ _ s' => SP X pins D .next s') hc S hcap ha hw (λ s H fp _ _ => hin s H fp) I h (λ D' C s' H' m I' q hn h1 h2 h3 h4 h5 => ?_) hs) (λ _ s' hq => wpAny_pure (wpAny_pure hq)) λ _ _ e => e)
 show wpAny _ X.A (assign (.Name x px) X.env (.ref D')) _ _ _
 refine wpAny_assign_Name (zht I' hN hi' (.inl hx) (v := .ref D') rfl (λ s2 I2 ⟨a, sb, ea⟩ => ?_) (.inr hx))
 have hCa : C ≠ a := by
  rcases ea with e | e
  ·rw [e]; exact h2
  ·exact λ z => h4 x a e z.symm
 refine ⟨m, hn.sameBut sb hCa, λ h' sb' => ⟨_, H', I2.turned (t' := s2.toks) (λ b o hb e => (sb'.2 b hb).trans e) h1 h2 (.inr h3) h4 h5, q⟩⟩
end
end L2
namespace Mi
open PySem PySem.Spec PyProof.Rows L2
inductive W where
 | non | bl (b : Bool) | int (i : Int) | str (x : Str) | tup (xs : List W) | ref (n : Nat)
 | clo (k : Nat) (xs : List W) (P : Obj -> Addr -> Obj -> List V -> Prop)
 | xc (x : Str)
inductive O where
 | lst (xs : List W) | ro (xs : List W) | dct (kvs : List (Key × W))
 | tab (q : Str) (P : Addr)
noncomputable def O.mut : O -> Bool
 | .ro _ => false
 | _ => true
noncomputable abbrev Hx := List O
noncomputable abbrev En := List (Option W)
inductive R (α : Type) where
 | ok (a : α) (A : Hx) | exc (x : Str) (A : Hx) | bad
noncomputable def R.bind {α β : Type} (r : R α) (f : α -> Hx -> R β) : R β := match r with
 | .ok a A => f a A
 | .exc x A => .exc x A
 | .bad => .bad
noncomputable def R.post {α : Type} (r : R α) (P : α -> Hx -> Prop) (E : Str -> Hx -> Prop) : Prop := match r with
 | .ok a A => P a A
 | .exc x A => E x A
 | .bad => False
noncomputable def R.nox {α : Type} (r : R α) : R α := match r with
 | .ok a A => .ok a A
 | .exc _ _ => .bad
 | .bad => .bad
section
variable {α β : Type} {r : R α} {f : α -> Hx -> R β} {P Q : α -> Hx -> Prop} {P' : β -> Hx -> Prop} {E F : Str -> Hx -> Prop}
theorem zr {a : α} {A : Hx} : (R.ok a A).bind f = f a A := rfl
theorem zim {x : Str} {A : Hx} : (R.exc x A : R α).bind f = .exc x A := rfl
theorem zM : (r.bind f).post P' E ↔ r.post (λ a A => (f a A).post P' E) E := by cases r <;> exact Iff.rfl
theorem zS (h : r.post P E) (hP : ∀ a A, P a A -> Q a A) (hE : ∀ x A, E x A -> F x A) : r.post Q F := by
 cases r with
 | ok a A => exact hP _ _ h
 | exc x A => exact hE _ _ h
 | bad => exact h
end
noncomputable abbrev Ev := En -> Hx -> R W
inductive TupR (K : Frag) (H : Hp) (R : List V -> Prop) (v : V) : Prop
 | mk (a : Addr) (vs : List V) (e : v = .ref a) (h : SqT K H a vs) (r : R vs)
inductive CloR (H : Hp) (P : Obj -> Addr -> Obj -> List V -> Prop) (R : List V -> Prop) (v : V) : Prop
 | mk (a : Addr) (ob : Obj) (u : HO) (c : Addr) (oc : Obj) (uc : HO) (vs : List V) (e : v = .ref a) (h1 : H a = some (.frz ob u)) (h2 : H c = some (.frz oc uc)) (p : P ob c oc vs) (r : R vs)
inductive ConR (R : V -> Prop) (Rs : List V -> Prop) (vs : List V) : Prop
 | mk (v : V) (r : List V) (e : vs = v :: r) (h : R v) (t : Rs r)
mutual
noncomputable def RV (K : Frag) (φ : List Addr) (H : Hp) : W -> V -> Prop
 | .non, v => v = .non
 | .bl b, v => v = .bl b
 | .int i, v => v = .int i
 | .str x, v => v = .str x
 | .tup ws, v => TupR K H (RVs K φ H ws) v
 | .ref n, v => ∃ a, v = .ref a /\ φ[n]? = some a
 | .clo _ ws P, v => CloR H P (RVs K φ H ws) v
 | .xc x, v => ∃ a oe u C, v = .ref a /\ H a = some (.frz oe u) /\ oe.cls = .ref C /\ PySem.W.nsIn K mainGlobals x = some (some (.ref C))
noncomputable def RVs (K : Frag) (φ : List Addr) (H : Hp) : List W -> List V -> Prop
 | [], vs => vs = []
 | w :: ws, vs => ConR (RV K φ H w) (RVs K φ H ws) vs
end
structure Le (K : Frag) (φ : List Addr) (H : Hp) (φ' : List Addr) (H' : Hp) : Prop where
 ex : ∀ (n : Nat) (a : Addr), φ[n]? = some a -> φ'[n]? = some a
 tp : ∀ a vs, SqT K H a vs -> SqT K H' a vs
 fr : ∀ a o, H a = some o -> (∀ n : Nat, φ[n]? ≠ some a) -> H' a = some o
 nw : ∀ (n : Nat) (a : Addr), φ'[n]? = some a -> φ[n]? = some a ∨ H a = none
 st : ∀ a, H' a = none -> H a = none
 fz : ∀ a o u, H a = some (.frz o u) -> H' a = some (.frz o u)
theorem Le.refl {K φ H} : Le K φ H φ H := ⟨λ _ _ h => h, λ _ _ h => h, λ _ _ h _ => h, λ _ _ h => .inl h, λ _ h => h, λ _ _ _ h => h⟩
theorem Le.trans {K φ H φ1 H1 φ2 H2} (a : Le K φ H φ1 H1) (b : Le K φ1 H1 φ2 H2) : Le K φ H φ2 H2 where
 ex := λ n x h => b.ex n x (a.ex n x h)
 tp := λ n x h => b.tp n x (a.tp n x h)
 fr := λ c o h n => b.fr c o (a.fr c o h n) λ k e => by
  rcases a.nw k c e with e | e
  ·exact n k e
  ·rw [h] at e; cases e
 nw := λ n c e => by
  rcases b.nw n c e with e | e
  ·exact a.nw n c e
  ·exact .inr (a.st c e)
 st := λ c e => a.st c (b.st c e)
 fz := λ c o u h => b.fz c o u (a.fz c o u h)
theorem Le.off {K φ H φ' H'} (l : Le K φ H φ' H') {D : Addr} {o : HO} (h : H D = some o) (n : ∀ k : Nat, φ[k]? ≠ some D) : H' D = some o /\ ∀ k : Nat, φ'[k]? ≠ some D :=
 ⟨l.fr D o h n, λ k e => by
  rcases l.nw k D e with e | e
  ·exact n k e
  ·rw [h] at e; cases e⟩
section
variable {K : Frag} {φ φ' : List Addr} {H H' : Hp}
structure LeW (K : Frag) (φ : List Addr) (H : Hp) (φ' : List Addr) (H' : Hp) : Prop where
 ex : ∀ (n : Nat) (a : Addr), φ[n]? = some a -> φ'[n]? = some a
 tp : ∀ a vs, SqT K H a vs -> SqT K H' a vs
 fz : ∀ a o u, H a = some (.frz o u) -> H' a = some (.frz o u)
mutual
theorem RV.monoW (l : LeW K φ H φ' H') : ∀ {w : W} {v : V}, RV K φ H w v -> RV K φ' H' w v
 | .non, _, h => h
 | .bl _, _, h => h
 | .int _, _, h => h
 | .str _, _, h => h
 | .tup ws, _, ⟨a, vs, e, t, r⟩ => ⟨a, vs, e, l.tp _ _ t, RVs.monoW l r⟩
 | .ref n, _, ⟨a, e, f⟩ => ⟨a, e, l.ex _ _ f⟩
 | .clo _ ws P, _, ⟨a, ob, u, c, oc, uc, vs, e, h1, h2, h3, r⟩ => ⟨a, ob, u, c, oc, uc, vs, e, l.fz _ _ _ h1, l.fz _ _ _ h2, h3, RVs.monoW l r⟩
 | .xc x, _, ⟨a, oe, u, C, e, h1, h2⟩ => ⟨a, oe, u, C, e, l.fz _ _ _ h1, h2⟩
theorem RVs.monoW (l : LeW K φ H φ' H') : ∀ {ws : List W} {vs : List V}, RVs K φ H ws vs -> RVs K φ' H' ws vs
 | [], _, h => h
 | w :: ws, _, ⟨v, r, e, h, t⟩ => ⟨v, r, e, RV.monoW l h, RVs.monoW l t⟩
end
theorem RV.mono {w : W} {v : V} (h : RV K φ H w v) (l : Le K φ H φ' H') : RV K φ' H' w v := RV.monoW ⟨l.ex, l.tp, l.fz⟩ h
theorem RVs.mono {w : List W} {v : List V} (h : RVs K φ H w v) (l : Le K φ H φ' H') : RVs K φ' H' w v := RVs.monoW ⟨l.ex, l.tp, l.fz⟩ h
structure LeD (K : Frag) (D : Addr) (φ : List Addr) (H : Hp) (φ' : List Addr) (H' : Hp) : Prop where
 ex : ∀ (n : Nat) (a : Addr), φ[n]? = some a -> φ'[n]? = some a
 tp : ∀ a vs, SqT K H a vs -> SqT K H' a vs
 fr : ∀ a o, a ≠ D -> H a = some o -> (∀ n : Nat, φ[n]? ≠ some a) -> H' a = some o
 nw : ∀ (n : Nat) (a : Addr), φ'[n]? = some a -> φ[n]? = some a ∨ H a = none
 st : ∀ a, H' a = none -> H a = none
 fz : ∀ a o u, H a = some (.frz o u) -> H' a = some (.frz o u)
theorem LeD.refl {D} : LeD K D φ H φ H := ⟨λ _ _ h => h, λ _ _ h => h, λ _ _ _ h _ => h, λ _ _ h => .inl h, λ _ h => h, λ _ _ _ h => h⟩
theorem Le.toD {D} (l : Le K φ H φ' H') : LeD K D φ H φ' H' := ⟨l.ex, l.tp, λ a o _ h n => l.fr a o h n, l.nw, l.st, l.fz⟩
theorem LeD.trans {D φ1 H1 φ2 H2} (a : LeD K D φ H φ1 H1) (b : LeD K D φ1 H1 φ2 H2) : LeD K D φ H φ2 H2 where
 ex := λ n x h => b.ex n x (a.ex n x h)
 tp := λ n x h => b.tp n x (a.tp n x h)
 fr := λ c o ne h n => b.fr c o ne (a.fr c o ne h n) λ k e => by
  rcases a.nw k c e with e | e
  ·exact n k e
  ·rw [h] at e; cases e
 nw := λ n c e => by
  rcases b.nw n c e with e | e
  ·exact a.nw n c e
  ·exact .inr (a.st c e)
 st := λ c e => a.st c (b.st c e)
 fz := λ c o u h => b.fz c o u (a.fz c o u h)
theorem RV.monoD {D} {w : W} {v : V} (h : RV K φ H w v) (l : LeD K D φ H φ' H') : RV K φ' H' w v := RV.monoW ⟨l.ex, l.tp, l.fz⟩ h
theorem RVs.monoD {D} {w : List W} {v : List V} (h : RVs K φ H w v) (l : LeD K D φ H φ' H') : RVs K φ' H' w v := RVs.monoW ⟨l.ex, l.tp, l.fz⟩ h
theorem RVs.length : ∀ {ws : List W} {vs : List V}, RVs K φ H ws vs -> ws.length = vs.length
 | [], _, h => by cases h; rfl
 | w :: ws, _, ⟨v, r, e, _, t⟩ => by subst e; simp [RVs.length t]
theorem RVs.get : ∀ {ws : List W} {vs : List V} {i : Nat} {w : W}, RVs K φ H ws vs -> ws[i]? = some w -> ∃ v, vs[i]? = some v /\ RV K φ H w v
 | [], _, _, _, _, e => by simp at e
 | w :: ws, _, 0, _, ⟨v, r, e, h, t⟩, q => by subst e; simp at q; subst q; exact ⟨v, by simp, h⟩
 | w :: ws, _, i + 1, x, ⟨v, r, e, h, t⟩, q => by
  subst e
  obtain ⟨y, h1, h2⟩ := RVs.get (i := i) (w := x) t (by simpa using q)
  exact ⟨y, by simpa using h1, h2⟩
theorem RVs.append : ∀ {ws us : List W} {vs xs : List V}, RVs K φ H ws vs -> RVs K φ H us xs -> RVs K φ H (ws ++ us) (vs ++ xs)
 | [], _, _, _, h, t => by cases h; exact t
 | w :: ws, _, _, _, ⟨v, r, e, h, t⟩, t2 => by subst e; exact ⟨v, r ++ _, rfl, h, RVs.append t t2⟩
theorem RVs.one {w : W} {v : V} (h : RV K φ H w v) : RVs K φ H [w] [v] := ⟨v, [], rfl, h, rfl⟩
theorem RVs.nil : RVs K φ H [] [] := rfl
theorem RVs.cons {w : W} {v : V} {ws : List W} {vs : List V} (h : RV K φ H w v) (t : RVs K φ H ws vs) : RVs K φ H (w :: ws) (v :: vs) := ⟨v, vs, rfl, h, t⟩
theorem RVs.set {w : W} {v : V} (q : RV K φ H w v) : ∀ {ws : List W} {vs : List V} (i : Nat), RVs K φ H ws vs -> RVs K φ H (ws.set i w) (vs.set i v)
 | [], _, _, h => by cases h; exact rfl
 | _ :: _, _, 0, ⟨v', r, e, h, t⟩ => by subst e; exact ⟨v, r, rfl, q, t⟩
 | _ :: _, _, i + 1, ⟨v', r, e, h, t⟩ => by subst e; exact ⟨v', _, rfl, h, RVs.set q i t⟩
theorem RVs.ints : ∀ {ns : List Int} {vs : List V}, RVs K φ H (ns.map W.int) vs ↔ vs = ns.map V.int
 | [], vs => Iff.rfl
 | n :: ns, vs => by
  constructor
  ·rintro ⟨v, r, e, h, t⟩
   rw [e, (show v = V.int n from h), RVs.ints.mp t]; rfl
  ·intro e
   exact ⟨V.int n, ns.map V.int, e, rfl, RVs.ints.mpr rfl⟩
noncomputable def SqR (K : Frag) (H : Hp) (a : Addr) (xs : List V) : Prop :=
 (∃ ob, H a = some (.frz ob (.lst xs))) ∨
  ∃ (o : Obj) (its : Array Value) (n : Nat), K.lookup a = some o /\ o.cls = .type "list" /\ o.dict = none /\ o.data = .seq its n /\ its.size <= sizeLine /\ Vals xs its.toList
theorem SqR.sq {a : Addr} {xs : List V} (h : SqR K H a xs) : SqL K H a xs := by
 rcases h with h | h
 ·exact .inl (.inr h)
 ·exact .inr h
inductive TabAt (H : Hp) (q : Str) (cv : Value) : Prop
 | mk (c : Addr) (oc : Obj) (u : HO) (vs : Array Value) (t : Tok) (e : cv = .ref c) (h : H c = some (.frz oc u)) (d : oc.data = .fields vs /\ vs[1]? = some (.str q t))
noncomputable def TabG (H : Hp) (q : Str) (ps : Array Value) : Prop := TriplesOk ps.toList /\ ∀ pos cv, codeAmong pos ps.toList = some cv -> TabAt H q cv
theorem TabG.mono {q : Str} {ps : Array Value} (h : TabG H q ps) (l : ∀ a o u, H a = some (.frz o u) -> H' a = some (.frz o u)) : TabG H' q ps :=
 ⟨h.1, λ pos cv e => by obtain ⟨c, oc, u, vs, t, h1, h2, h3⟩ := h.2 pos cv e; exact ⟨c, oc, u, vs, t, h1, l _ _ _ h2, h3⟩⟩
noncomputable def OR (K : Frag) (φ : List Addr) (H : Hp) (a : Addr) : O -> Prop
 | .lst ws => ∃ vs, H a = some (.lst vs) /\ RVs K φ H ws vs
 | .ro ws => ∃ vs, SqR K H a vs /\ RVs K φ H ws vs
 | .dct kvs => ∃ us, H a = some (.dK us) /\ us.map (·.1) = kvs.map (·.1) /\ RVs K φ H (kvs.map (·.2)) (us.map (·.2))
 | .tab q P => a = P /\ ∃ ps, H a = some (.tbl ps) /\ TabG H q ps
structure Sim (K : Frag) (φ : List Addr) (A : Hx) (H : Hp) : Prop where
 len : φ.length = A.length
 inj : ∀ (i j : Nat) (a : Addr) (o o' : O), φ[i]? = some a -> φ[j]? = some a -> A[i]? = some o -> A[j]? = some o' -> o.mut = true -> o'.mut = true -> i = j
 ob : ∀ (n : Nat) (o : O), A[n]? = some o -> ∃ a, φ[n]? = some a /\ OR K φ H a o
variable {A A' : Hx}
theorem OR.there {a : Addr} {o : O} (h : OR K φ H a o) (m : o.mut = true) : ∃ u, H a = some u /\ (∀ xs, u ≠ .tup xs) /\ (∀ ob v, u ≠ .frz ob v) := by
 cases o with
 | lst ws => obtain ⟨vs, e, _⟩ := h; exact ⟨_, e, λ _ z => (by cases z), λ _ _ z => (by cases z)⟩
 | ro ws => cases m
 | dct kvs => obtain ⟨vs, e, _⟩ := h; exact ⟨_, e, λ _ z => (by cases z), λ _ _ z => (by cases z)⟩
 | tab q P => obtain ⟨_, vs, e, _⟩ := h; exact ⟨_, e, λ _ z => (by cases z), λ _ _ z => (by cases z)⟩
theorem zhY {a b : Addr} {o : HO} {vs : List V} (h : SqT K H a vs) (n : ∀ xs, H b ≠ some (.tup xs)) (nf : ∀ ob u, H b ≠ some (.frz ob u)) : SqT K (upd H b o) a vs := by
 rcases h with (h | ⟨ob, h⟩) | h
 ·exact .inl (.inl (by rw [zP]; exact h; intro e; subst e; exact n _ h))
 ·exact .inl (.inr ⟨ob, by rw [zP]; exact h; intro e; subst e; exact nf _ _ h⟩)
 ·exact .inr h
theorem Le.upd {b : Addr} {o : HO} {k : Nat} (hb : φ[k]? = some b) (n : ∀ xs, H b ≠ some (.tup xs)) (nf : ∀ ob u, H b ≠ some (.frz ob u)) : Le K φ H φ (upd H b o) where
 ex := λ _ _ h => h
 tp := λ _ _ h => zhY h n nf
 fr := λ a u h z => by
  rw [zP]; exact h
  intro e; subst e; exact z k hb
 nw := λ _ _ h => .inl h
 st := λ a h => by
  by_cases e : a = b
  ·subst e; rw [zal] at h; cases h
  ·rw [zP e] at h; exact h
 fz := λ a ob u h => by
  rw [zP]; exact h
  intro e; subst e; exact nf _ _ h
theorem Le.new {p : Addr} {o : HO} (hp : H p = none) : Le K φ H φ (L2.upd H p o) where
 ex := λ _ _ h => h
 tp := λ _ _ h => zhY h (λ xs z => by rw [hp] at z; cases z) (λ _ _ z => by rw [hp] at z; cases z)
 fr := λ a u h z => by
  rw [zP]; exact h
  intro e; subst e; rw [hp] at h; cases h
 nw := λ _ _ h => .inl h
 st := λ a h => by
  by_cases e : a = p
  ·subst e; rw [zal] at h; cases h
  ·rw [zP e] at h; exact h
 fz := λ a ob u h => by
  rw [zP]; exact h
  intro e; subst e; rw [hp] at h; cases h
theorem Le.alloc {p : Addr} {o : HO} (hp : H p = none) : Le K φ H (φ ++ [p]) (L2.upd H p o) where
 ex := λ n a h => by
  have := (List.getElem?_eq_some_iff.mp h).1
  rw [List.getElem?_append_left this]; exact h
 tp := (Le.new (φ := φ) hp).tp
 fr := (Le.new (K := K) (φ := φ) hp).fr
 nw := λ n a h => by
  by_cases hn : n < φ.length
  ·rw [List.getElem?_append_left hn] at h; exact .inl h
  ·rw [List.getElem?_append_right (by omega)] at h
   have e : a = p := by
    have := List.mem_of_getElem? h
    simpa using this
   subst e; exact .inr hp
 st := (Le.new (K := K) (φ := φ) hp).st
 fz := (Le.new (K := K) (φ := φ) hp).fz
theorem Le.ofD {D : Addr} {o : HO} (hD : H D = none) (l : LeD K D φ (L2.upd H D o) φ' H') : Le K φ H φ' H' where
 ex := l.ex
 tp := λ a vs h => l.tp a vs ((Le.new (K := K) (φ := φ) hD).tp a vs h)
 fr := λ a u h n => by
  have ne : a ≠ D := by rintro rfl; rw [hD] at h; cases h
  exact l.fr a u ne (by rw [zP ne]; exact h) n
 nw := λ n a e => by
  rcases l.nw n a e with e | e
  ·exact .inl e
  ·by_cases h : a = D
   ·subst h; rw [zal] at e; cases e
   ·rw [zP h] at e; exact .inr e
 st := λ a e => by
  have e' := l.st a e
  by_cases h : a = D
  ·subst h; rw [zal] at e'; cases e'
  ·rw [zP h] at e'; exact e'
 fz := λ a ob u h => l.fz a ob u (by rw [zP]; exact h; rintro rfl; rw [hD] at h; cases h)
theorem LeD.upd {D : Addr} {o : HO} {xs : List V} (hD : H D = some (.lst xs)) : LeD K D φ H φ (L2.upd H D o) where
 ex := λ _ _ h => h
 tp := λ a vs h => zhY h (λ xs z => by rw [hD] at z; cases z) (λ _ _ z => by rw [hD] at z; cases z)
 fr := λ a u ne h n => by rw [zP ne]; exact h
 nw := λ _ _ h => .inl h
 st := λ a e => by
  by_cases h : a = D
  ·subst h; rw [zal] at e; cases e
  ·rw [zP h] at e; exact e
 fz := λ a ob u h => by
  rw [zP]; exact h
  intro e; subst e; rw [hD] at h; cases h
theorem OR.keep {a : Addr} {o : O} (h : OR K φ H a o) (l : Le K φ H φ' H') (e : ∀ u, H a = some u -> H' a = some u) : OR K φ' H' a o := by
 cases o with
 | lst ws => obtain ⟨vs, q, r⟩ := h; exact ⟨vs, e _ q, r.mono l⟩
 | dct kvs => obtain ⟨vs, q, k, r⟩ := h; exact ⟨vs, e _ q, k, r.mono l⟩
 | tab q P => obtain ⟨k, ps, q, r⟩ := h; exact ⟨k, ps, e _ q, r.mono l.fz⟩
 | ro ws =>
  obtain ⟨vs, q, r⟩ := h
  refine ⟨vs, ?_, r.mono l⟩
  rcases q with ⟨ob, q⟩ | q
  ·exact .inl ⟨ob, e _ q⟩
  ·exact .inr q
theorem Sim.alloc {p : Addr} {u : HO} {o : O} (S : Sim K φ A H) (hp : H p = none) (new : OR K (φ ++ [p]) (L2.upd H p u) p o) : Le K φ H (φ ++ [p]) (L2.upd H p u) /\ Sim K (φ ++ [p]) (A ++ [o]) (L2.upd H p u) := by
 have l : Le K φ H (φ ++ [p]) (L2.upd H p u) := Le.alloc hp
 have old : ∀ (i : Nat) a, (φ ++ [p])[i]? = some a -> i < A.length -> φ[i]? = some a := λ i a e hi => by
  rw [List.getElem?_append_left (by rw [S.len]; exact hi)] at e; exact e
 refine ⟨l, by simp [S.len], λ i j a o1 o2 h1 h2 h3 h4 m1 m2 => ?_, λ n o' e => ?_⟩
 ·by_cases hi : i < A.length
  ·by_cases hj : j < A.length
   ·rw [List.getElem?_append_left hi] at h3
    rw [List.getElem?_append_left hj] at h4
    exact S.inj i j a o1 o2 (old i a h1 hi) (old j a h2 hj) h3 h4 m1 m2
   ·exfalso
    rw [List.getElem?_append_left hi] at h3
    have hj' : j = A.length := by have := (List.getElem?_eq_some_iff.mp h4).1; simp at this; omega
    subst hj'
    rw [List.getElem?_append_right (by rw [S.len]; exact Nat.le_refl _), S.len] at h2
    simp at h2
    obtain ⟨a', e1, q⟩ := S.ob i o1 h3
    rw [old i a h1 hi] at e1; cases e1
    obtain ⟨z, hz, _⟩ := q.there m1
    rw [<- h2, hp] at hz; cases hz
  ·have hi' : i = A.length := by have := (List.getElem?_eq_some_iff.mp h3).1; simp at this; omega
   by_cases hj : j < A.length
   ·exfalso
    rw [List.getElem?_append_left hj] at h4
    subst hi'
    rw [List.getElem?_append_right (by rw [S.len]; exact Nat.le_refl _), S.len] at h1
    simp at h1
    obtain ⟨a', e1, q⟩ := S.ob j o2 h4
    rw [old j a h2 hj] at e1; cases e1
    obtain ⟨z, hz, _⟩ := q.there m2
    rw [<- h1, hp] at hz; cases hz
   ·have := (List.getElem?_eq_some_iff.mp h4).1; simp at this; omega
 ·by_cases hn : n < A.length
  ·rw [List.getElem?_append_left hn] at e
   obtain ⟨a, e1, q⟩ := S.ob n o' e
   refine ⟨a, l.ex _ _ e1, q.keep l λ z hz => ?_⟩
   rw [zP]; exact hz
   intro e2; subst e2; rw [hp] at hz; cases hz
  ·have hn' : n = A.length := by have := (List.getElem?_eq_some_iff.mp e).1; simp at this; omega
   subst hn'
   rw [List.getElem?_append_right (Nat.le_refl _)] at e
   simp at e
   subst e
   exact ⟨p, by rw [List.getElem?_append_right (by rw [S.len]; exact Nat.le_refl _), S.len]; simp, new⟩
theorem Sim.write {n : Nat} {p : Addr} {u : HO} {o o' : O} (S : Sim K φ A H) (hn : A[n]? = some o) (m : o.mut = true) (m' : o'.mut = true) (hp : φ[n]? = some p) (new : OR K φ (L2.upd H p u) p o') :
  Le K φ H φ (L2.upd H p u) /\ Sim K φ (A.set n o') (L2.upd H p u) := by
 obtain ⟨p', e, q⟩ := S.ob n o hn
 rw [hp] at e; cases e
 obtain ⟨z, hz, nt, nf⟩ := q.there m
 have l : Le K φ H φ (L2.upd H p u) := Le.upd hp (λ xs e => by rw [hz] at e; exact nt xs (Option.some.inj e)) λ ob v e => by rw [hz] at e; exact nf ob v (Option.some.inj e)
 have mt : ∀ (i : Nat) (w : O), (A.set n o')[i]? = some w -> w.mut = true -> ∃ w', A[i]? = some w' /\ w'.mut = true := λ i w e mw => by
  by_cases hi : i = n
  ·subst hi; exact ⟨o, hn, m⟩
  ·rw [List.getElem?_set_ne (Ne.symm hi)] at e; exact ⟨w, e, mw⟩
 refine ⟨l, by simp [S.len], λ i j a o1 o2 h1 h2 h3 h4 m1 m2 => ?_, λ i w e => ?_⟩
 ·obtain ⟨w1, e1, k1⟩ := mt i o1 h3 m1
  obtain ⟨w2, e2, k2⟩ := mt j o2 h4 m2
  exact S.inj i j a w1 w2 h1 h2 e1 e2 k1 k2
 ·by_cases hi : i = n
  ·subst hi
   have : i < A.length := (List.getElem?_eq_some_iff.mp hn).1
   rw [List.getElem?_set_self this] at e; cases e
   exact ⟨p, hp, new⟩
  ·rw [List.getElem?_set_ne (Ne.symm hi)] at e
   obtain ⟨a, e1, r⟩ := S.ob i w e
   refine ⟨a, e1, ?_⟩
   by_cases hm : w.mut = true
   ·have ne : a ≠ p := λ z => hi (S.inj i n a w o e1 (by rw [z]; exact hp) e hn hm m)
    exact r.keep l λ z hz => by rw [zP ne]; exact hz
   ·cases w with
    | lst _ => exact absurd rfl hm
    | dct _ => exact absurd rfl hm
    | tab _ _ => exact absurd rfl hm
    | ro ws =>
     obtain ⟨vs, r1, r2⟩ := r
     refine ⟨vs, ?_, r2.mono l⟩
     rcases r1 with ⟨ob, r1⟩ | r1
     ·refine .inl ⟨ob, ?_⟩
      rw [zP]; exact r1
      intro z; subst z; rw [hz] at r1; exact nf _ _ (Option.some.inj r1)
     ·exact .inr r1
theorem Sim.lay {p : Addr} {u : HO} (S : Sim K φ A H) (hp : H p = none) : Sim K φ A (L2.upd H p u) :=
 ⟨S.len, S.inj, λ n o e => by
  obtain ⟨a, e1, q⟩ := S.ob n o e
  refine ⟨a, e1, q.keep (Le.new hp) λ z hz => ?_⟩
  rw [zP]; exact hz
  intro e2; subst e2; rw [hp] at hz; cases hz⟩
theorem Sim.off {D : Addr} {o : HO} {xs : List V} (S : Sim K φ A H) (hD : H D = some (.lst xs)) (n : ∀ k : Nat, φ[k]? ≠ some D) : Sim K φ A (L2.upd H D o) :=
 ⟨S.len, S.inj, λ k u e => by
  obtain ⟨a, e1, q⟩ := S.ob k u e
  have ne : a ≠ D := λ z => n k (by rw [<- z]; exact e1)
  have l : LeD K D φ H φ (L2.upd H D o) := LeD.upd hD
  refine ⟨a, e1, ?_⟩
  cases u with
  | lst ws => obtain ⟨vs, q, r⟩ := q; exact ⟨vs, by rw [zP ne]; exact q, r.monoD l⟩
  | dct kvs => obtain ⟨vs, q, k, r⟩ := q; exact ⟨vs, by rw [zP ne]; exact q, k, r.monoD l⟩
  | tab _ _ => obtain ⟨k, vs, q, r⟩ := q; exact ⟨k, vs, by rw [zP ne]; exact q, r.mono l.fz⟩
  | ro ws =>
   obtain ⟨vs, q, r⟩ := q
   refine ⟨vs, ?_, r.monoD l⟩
   rcases q with ⟨ob, q⟩ | q
   ·exact .inl ⟨ob, by rw [zP ne]; exact q⟩
   ·exact .inr q⟩
theorem Sim.notin {D : Addr} (S : Sim K φ A H) (hD : H D = none) (hK : K.lookup D = none) : ∀ k : Nat, φ[k]? ≠ some D := λ k e => by
 have hk : k < A.length := by rw [<- S.len]; exact (List.getElem?_eq_some_iff.mp e).1
 obtain ⟨a, e1, q⟩ := S.ob k A[k] (by simp [hk])
 rw [e] at e1; cases e1
 cases ho : A[k] with
 | lst ws => rw [ho] at q; obtain ⟨vs, z, _⟩ := q; rw [hD] at z; cases z
 | dct ws => rw [ho] at q; obtain ⟨vs, z, _⟩ := q; rw [hD] at z; cases z
 | tab _ _ => rw [ho] at q; obtain ⟨_, vs, z, _⟩ := q; rw [hD] at z; cases z
 | ro ws =>
  rw [ho] at q
  obtain ⟨vs, z, _⟩ := q
  rcases z with ⟨ob, z⟩ | ⟨o, its, n, z, _⟩
  ·rw [hD] at z; cases z
  ·rw [hK] at z; cases z
theorem Sim.zi0 {D : Addr} {u : HO} {o : O} (S : Sim K φ A H) (hD : H D = some u) (n : ∀ k : Nat, φ[k]? ≠ some D) (new : OR K (φ ++ [D]) H D o) : Sim K (φ ++ [D]) (A ++ [o]) H := by
 have l : LeW K φ H (φ ++ [D]) H := ⟨λ n a h => by
  have := (List.getElem?_eq_some_iff.mp h).1
  rw [List.getElem?_append_left this]; exact h, λ _ _ h => h, λ _ _ _ h => h⟩
 have old : ∀ (i : Nat) a, (φ ++ [D])[i]? = some a -> i < A.length -> φ[i]? = some a := λ i a e hi => by
  rw [List.getElem?_append_left (by rw [S.len]; exact hi)] at e; exact e
 have last : ∀ a, (φ ++ [D])[A.length]? = some a -> a = D := λ a e => by
  rw [List.getElem?_append_right (by rw [S.len]; exact Nat.le_refl _), S.len] at e
  simpa using e.symm
 refine ⟨by simp [S.len], λ i j a o1 o2 h1 h2 h3 h4 m1 m2 => ?_, λ k o' e => ?_⟩
 ·by_cases hi : i < A.length
  ·by_cases hj : j < A.length
   ·rw [List.getElem?_append_left hi] at h3
    rw [List.getElem?_append_left hj] at h4
    exact S.inj i j a o1 o2 (old i a h1 hi) (old j a h2 hj) h3 h4 m1 m2
   ·exfalso
    have hj' : j = A.length := by have := (List.getElem?_eq_some_iff.mp h4).1; simp at this; omega
    subst hj'
    exact n i (by rw [<- last a h2]; exact old i a h1 hi)
  ·have hi' : i = A.length := by have := (List.getElem?_eq_some_iff.mp h3).1; simp at this; omega
   by_cases hj : j < A.length
   ·exfalso
    subst hi'
    exact n j (by rw [<- last a h1]; exact old j a h2 hj)
   ·have := (List.getElem?_eq_some_iff.mp h4).1; simp at this; omega
 ·by_cases hn : k < A.length
  ·rw [List.getElem?_append_left hn] at e
   obtain ⟨a, e1, q⟩ := S.ob k o' e
   refine ⟨a, l.ex _ _ e1, ?_⟩
   cases o' with
   | lst ws => obtain ⟨vs, z, r⟩ := q; exact ⟨vs, z, r.monoW l⟩
   | dct ws => obtain ⟨vs, z, z2, r⟩ := q; exact ⟨vs, z, z2, r.monoW l⟩
   | tab _ _ => exact q
   | ro ws => obtain ⟨vs, z, r⟩ := q; exact ⟨vs, z, r.monoW l⟩
  ·have hn' : k = A.length := by have := (List.getElem?_eq_some_iff.mp e).1; simp at this; omega
   subst hn'
   rw [List.getElem?_append_right (Nat.le_refl _)] at e
   simp at e
   subst e
   exact ⟨D, by rw [List.getElem?_append_right (by rw [S.len]; exact Nat.le_refl _), S.len]; simp, new⟩
theorem Le.zi0 {D : Addr} {φ0 : List Addr} {H0 : Hp} (l : Le K φ0 H0 φ H) (h0 : H0 D = none) : Le K φ0 H0 (φ ++ [D]) H where
 ex := λ n a h => by
  have h' := l.ex n a h
  have := (List.getElem?_eq_some_iff.mp h').1
  rw [List.getElem?_append_left this]; exact h'
 tp := l.tp
 fr := l.fr
 nw := λ n a e => by
  by_cases hn : n < φ.length
  ·rw [List.getElem?_append_left hn] at e; exact l.nw n a e
  ·rw [List.getElem?_append_right (by omega)] at e
   have e' : a = D := by
    have := List.mem_of_getElem? e
    simpa using this
   subst e'; exact .inr h0
 st := l.st
 fz := l.fz
end
end Mi
namespace Mi
open PySem PySem.Spec PyProof.Rows L2
noncomputable abbrev St := L2.St
noncomputable abbrev XR := Str -> Hp -> Prop
noncomputable def PB (K : Frag) (φ : List Addr) (H : Hp) (Q : VK) : W -> Hx -> Prop := λ w A => ∀ φ' H' v, Le K φ H φ' H' -> Sim K φ' A H' -> RV K φ' H' w v -> Q v H'
noncomputable def PBs (K : Frag) (φ : List Addr) (H : Hp) (Q : List V -> Hp -> Prop) : List W -> Hx -> Prop := λ w A => ∀ φ' H' v, Le K φ H φ' H' -> Sim K φ' A H' -> RVs K φ' H' w v -> Q v H'
noncomputable def EB (K : Frag) (φ : List Addr) (H : Hp) (xr : XR) : Str -> Hx -> Prop := λ x A => ∀ φ' H', Le K φ H φ' H' -> Sim K φ' A H' -> xr x H'
structure RE (K : Frag) (φ : List Addr) (H : Hp) (ρ : En) (σ : St) : Prop where
 len : σ.length = ρ.length
 get : ∀ (i : Nat) (w : W), ρ[i]? = some (some w) -> ∃ v, σ[i]? = some (some v) /\ RV K φ H w v
section
variable {K : Frag} {φ φ1 φ' : List Addr} {H H1 H' : Hp} {A A1 : Hx} {ρ : En} {σ : St} {xr : XR}
theorem RE.mono (r : RE K φ H ρ σ) (l : Le K φ H φ' H') : RE K φ' H' ρ σ := ⟨r.len, λ i w e => let ⟨v, h1, h2⟩ := r.get i w e; ⟨v, h1, h2.mono l⟩⟩
theorem PB.mono {Q : VK} {w : W} (h : PB K φ H Q w A) (l : Le K φ H φ1 H1) : PB K φ1 H1 Q w A := λ φ' H' v l' => h φ' H' v (l.trans l')
theorem EB.mono {x : Str} (h : EB K φ H xr x A) (l : Le K φ H φ1 H1) : EB K φ1 H1 xr x A := λ φ' H' l' => h φ' H' (l.trans l')
theorem RE.set {i : Nat} {w : W} {v : V} (r : RE K φ H ρ σ) (q : RV K φ H w v) : RE K φ H (ρ.set i (some w)) (σ.set i (some v)) :=
 ⟨by simp [r.len], λ j u e => by
  by_cases h : i = j
  ·subst h
   have hi : i < ρ.length := by
    have := (List.getElem?_eq_some_iff.mp e).1
    simpa using this
   rw [List.getElem?_set_self hi] at e
   cases e
   exact ⟨v, by rw [List.getElem?_set_self (by rw [r.len]; exact hi)], q⟩
  ·rw [List.getElem?_set_ne h] at e
   obtain ⟨x, h1, h2⟩ := r.get j u e
   exact ⟨x, by rw [List.getElem?_set_ne h]; exact h1, h2⟩⟩
end
inductive MM (K : Frag) (xr : XR) (m : Ev) (σ : St) (H : Hp) (Q : VK) : Prop
 | mk (φ : List Addr) (A : Hx) (ρ : En) (S : Sim K φ A H) (re : RE K φ H ρ σ) (h : (m ρ A).post (PB K φ H Q) (EB K φ H xr))
noncomputable def tM (K : Frag) (xr : XR) (m : Ev) : TE := λ σ H Q => MM K xr m σ H Q
inductive MT (K : Frag) (xr : XR) (m : Ev) (σ : St) (H : Hp) (Q : Bool -> Hp -> Prop) : Prop
 | mk (φ : List Addr) (A : Hx) (ρ : En) (S : Sim K φ A H) (re : RE K φ H ρ σ) (h : (m ρ A).post (λ w A' => ∃ b, w = .bl b /\ ∀ φ' H', Le K φ H φ' H' -> Sim K φ' A' H' -> Q b H') (EB K φ H xr))
noncomputable def tT (K : Frag) (xr : XR) (m : Ev) : TT := λ σ H Q => MT K xr m σ H Q
noncomputable abbrev Ea := En -> Hx -> R (List W)
inductive MA (K : Frag) (xr : XR) (m : Ea) (σ : St) (H : Hp) (Q : List V -> Hp -> Prop) : Prop
 | mk (φ : List Addr) (A : Hx) (ρ : En) (S : Sim K φ A H) (re : RE K φ H ρ σ) (h : (m ρ A).post (PBs K φ H Q) (EB K φ H xr))
noncomputable def tAr (K : Frag) (xr : XR) (m : Ea) : TA := λ σ H Q => MA K xr m σ H Q
noncomputable def SE (X : Cx) (xr : XR) (e : Expr) (m : Ev) : Prop := PE X e (tM X.K xr m)
noncomputable def ST (X : Cx) (xr : XR) (e : Expr) (m : Ev) : Prop := PT X e (tT X.K xr m)
noncomputable def SW (X : Cx) (xr : XR) (e : Expr) (m : Ev) : Prop := PW X e (tT X.K xr m)
noncomputable def SA (X : Cx) (xr : XR) (es : List Expr) (m : Ea) : Prop := PA X es (tAr X.K xr m)
section
variable {X : Cx} {xr : XR} {e a b : Expr} {es : List Expr} {m ma mb mc : Ev} {pos : Pos}
theorem PE.imp {t t' : TE} (h : PE X e t) (i : ∀ σ H Q, t' σ H Q -> t σ H Q) : PE X e t' := λ pins s σ H Q I hw => h pins s σ H Q I (i σ H Q hw)
theorem PT.imp {t t' : TT} (h : PT X e t) (i : ∀ σ H Q, t' σ H Q -> t σ H Q) : PT X e t' := λ pins s σ H Q I hw => h pins s σ H Q I (i σ H Q hw)
theorem PW.imp {t t' : TT} (h : PW X e t) (i : ∀ σ H Q, t' σ H Q -> t σ H Q) : PW X e t' := λ wh pins s σ H Q I hw => h wh pins s σ H Q I (i σ H Q hw)
theorem PA.imp {t t' : TA} (h : PA X es t) (i : ∀ σ H Q, t' σ H Q -> t σ H Q) : PA X es t' := λ p pins s σ H Q I hw => h p pins s σ H Q I (i σ H Q hw)
theorem tM.go {K : Frag} {φ : List Addr} {A : Hx} {H : Hp} {ρ : En} {σ : St} {Q : VK} {G : W -> Hx -> Prop} (S : Sim K φ A H) (r : RE K φ H ρ σ) (h : (m ρ A).post G (EB K φ H xr))
  (k : ∀ w A1 φ1 H1 v, G w A1 -> Le K φ H φ1 H1 -> Sim K φ1 A1 H1 -> RV K φ1 H1 w v -> Q v H1) : tM K xr m σ H Q :=
 ⟨φ, A, ρ, S, r, zS h (λ w A1 g φ1 H1 v l s q => k w A1 φ1 H1 v g l s q) λ _ _ z => z⟩
theorem tAr.go {K : Frag} {φ : List Addr} {A : Hx} {H : Hp} {ρ : En} {σ : St} {m : Ea} {Q : List V -> Hp -> Prop} {G : List W -> Hx -> Prop} (S : Sim K φ A H) (r : RE K φ H ρ σ) (h : (m ρ A).post G (EB K φ H xr))
  (k : ∀ w A1 φ1 H1 v, G w A1 -> Le K φ H φ1 H1 -> Sim K φ1 A1 H1 -> RVs K φ1 H1 w v -> Q v H1) : tAr K xr m σ H Q :=
 ⟨φ, A, ρ, S, r, zS h (λ w A1 g φ1 H1 v l s q => k w A1 φ1 H1 v g l s q) λ _ _ z => z⟩
theorem tT.go {K : Frag} {φ : List Addr} {A : Hx} {H : Hp} {ρ : En} {σ : St} {Q : Bool -> Hp -> Prop} {G : W -> Hx -> Prop} (S : Sim K φ A H) (r : RE K φ H ρ σ) (h : (m ρ A).post G (EB K φ H xr))
  (k : ∀ w A1, G w A1 -> ∃ b, w = .bl b /\ ∀ φ1 H1, Le K φ H φ1 H1 -> Sim K φ1 A1 H1 -> Q b H1) : tT K xr m σ H Q :=
 ⟨φ, A, ρ, S, r, zS h (λ w A1 g => k w A1 g) λ _ _ z => z⟩
noncomputable def mVar (i : Nat) : Ev := λ ρ A => match ρ[i]? with
 | some (some w) => .ok w A
 | _ => .bad
noncomputable def mLit (w : W) : Ev := λ _ A => .ok w A
theorem zh (i : Nat) {x : Str} (hN : X.N[i]? = some x := by rfl) (hv : Vis X.env.scope x := by first | exact Or.inl rfl | exact Or.inr (Or.inl rfl) | exact Or.inr (Or.inr rfl)) (hd : (x == ("__debug__" : Str)) = false := by decide)
  (hcd : (x == ("__classdict__" : Str)) = false := by decide) : SE X xr (.Name x pos) (mVar i) := PE.imp (zlS hN hv hd hcd) λ σ H Q ⟨φ, A, ρ, S, r, h⟩ => by
 unfold mVar at h
 cases e : ρ[i]? with
 | none => rw [e] at h; cases h
 | some o => cases o with
  | none => rw [e] at h; cases h
  | some w =>
   rw [e] at h
   obtain ⟨v, h1, h2⟩ := r.get i w e
   exact ⟨v, h1, h φ H v .refl S h2⟩
theorem zq {i j} : SE X xr (.Constant (.int i) j pos) (mLit (.int i)) := PE.imp zoV λ σ H Q ⟨φ, A, ρ, S, r, h⟩ => h φ H _ .refl S rfl
theorem zdk {i j} : SE X xr (.Constant (.bool i) j pos) (mLit (.bl i)) := PE.imp zo5 λ σ H Q ⟨φ, A, ρ, S, r, h⟩ => h φ H _ .refl S rfl
theorem zeq {j} : SE X xr (.Constant .none j pos) (mLit .non) := PE.imp znY λ σ H Q ⟨φ, A, ρ, S, r, h⟩ => h φ H _ .refl S rfl
theorem zgW {x j} : SE X xr (.Constant (.str x) j pos) (mLit (.str x)) := PE.imp zov λ σ H Q ⟨φ, A, ρ, S, r, h⟩ => h φ H _ .refl S rfl
theorem zgp {x : Str} {i : Int} {t : Tok} (hg : Gl X x) (hm : X.mg x = some (.int i t)) (hd : (x == ("__debug__" : Str)) = false := by decide) : SE X xr (.Name x pos) (mLit (.int i)) :=
 PE.imp (zmw hg hm (v := .int i) ⟨t, rfl⟩ hd) λ σ H Q ⟨φ, A, ρ, S, r, h⟩ => h φ H _ .refl S rfl
noncomputable def mBin (g : W -> W -> Hx -> R W) (a b : Ev) : Ev := λ ρ A => (a ρ A).bind λ x A1 => (b ρ A1).bind λ y A2 => g x y A2
noncomputable def mUn (g : W -> Hx -> R W) (a : Ev) : Ev := λ ρ A => (a ρ A).bind λ x A1 => g x A1
noncomputable abbrev noX : Str -> Hx -> Prop := λ _ _ => False
noncomputable def Op2 (K : Frag) (r : R2) (g : W -> W -> Hx -> R W) : Prop := ∀ φ A H x y u v Q, Sim K φ A H -> RV K φ H u x -> RV K φ H v y -> (g u v A).post (PB K φ H Q) noX -> r x y H Q
noncomputable def Op1 (K : Frag) (r : V -> Hp -> VK -> Prop) (g : W -> Hx -> R W) : Prop := ∀ φ A H x u Q, Sim K φ A H -> RV K φ H u x -> (g u A).post (PB K φ H Q) noX -> r x H Q
noncomputable def zY {α : Type} (r : R α) : Prop := ∀ x A, r ≠ .exc x A
theorem zdb {α : Type} {r : R α} {P : α -> Hx -> Prop} {E : Str -> Hx -> Prop} (n : zY r) (h : r.post P E) : r.post P noX := by
 cases r with
 | ok a A => exact h
 | exc x A => exact absurd rfl (n x A)
 | bad => exact h
theorem mBin.read {g : W -> W -> Hx -> R W} {r : R2} (hn : ∀ x y A, zY (g x y A)) (hg : Op2 X.K r g) : ∀ σ H Q, tM X.K xr (mBin g ma mb) σ H Q -> tOp r (tM X.K xr ma) (tM X.K xr mb) σ H Q := by
 rintro σ H Q ⟨φ, A, ρ, S, re, h⟩
 refine tM.go S re (zM.mp h) λ w A1 φ1 H1 v h1 l1 S1 q1 => ?_
 refine tM.go S1 (re.mono l1) (zS (zM.mp h1) (λ _ _ z => z) λ _ _ z => z.mono l1) λ w2 A2 φ2 H2 v2 h2 l2 S2 q2 => ?_
 exact hg φ2 A2 H2 v v2 w w2 Q S2 (q1.mono l2) q2 (zS (zdb (hn _ _ _) h2) (λ _ _ z => z.mono (l1.trans l2)) λ _ _ z => z)
theorem mUn.read {g : W -> Hx -> R W} {r : V -> Hp -> VK -> Prop} (hn : ∀ x A, zY (g x A)) (hg : Op1 X.K r g) : ∀ σ H Q, tM X.K xr (mUn g ma) σ H Q -> tUn r (tM X.K xr ma) σ H Q := by
 rintro σ H Q ⟨φ, A, ρ, S, re, h⟩
 refine tM.go S re (zM.mp h) λ w A1 φ1 H1 v h1 l1 S1 q1 => ?_
 exact hg φ1 A1 H1 v w Q S1 q1 (zS (zdb (hn _ _) h1) (λ _ _ z => z.mono l1) λ _ _ z => z)
theorem zdT {op : Operator} {r : R2} {g : W -> W -> Hx -> R W} (ho : OpR X (binaryOp op) r) (hn : ∀ x y A, zY (g x y A)) (hg : Op2 X.K r g) (ha : SE X xr a ma) (hb : SE X xr b mb) : SE X xr (.BinOp a op b pos) (mBin g ma mb) :=
 PE.imp (zpm ho ha hb) (mBin.read hn hg)
theorem zlP {op : CmpOp} {r : R2} {g : W -> W -> Hx -> R W} (ho : OpR X (compareOp op) r) (hn : ∀ x y A, zY (g x y A)) (hg : Op2 X.K r g) (ha : SE X xr a ma) (hb : SE X xr b mb) (hm : behindInMarks op b = false) : SE X xr (.Compare a [op] [b] pos) (mBin g ma mb) :=
 PE.imp (zm5 ho ha hb hm) (mBin.read hn hg)
theorem tT.toM {K : Frag} {σ : St} {H : Hp} {Q : Bool -> Hp -> Prop} (h : tT K xr m σ H Q) : tM K xr m σ H λ x H' => ∃ k, x = .bl k /\ Q k H' := by
 obtain ⟨φ, A, ρ, S, re, h⟩ := h
 refine tM.go S re h λ w A1 φ1 H1 v ⟨b, e, q⟩ l1 S1 q1 => ?_
 subst e
 exact ⟨b, q1, q φ1 H1 l1 S1⟩
theorem znD {op : CmpOp} {r : R2} {g : W -> W -> Hx -> R W} (ho : OpR X (compareOp op) r) (hn : ∀ x y A, zY (g x y A)) (hg : Op2 X.K r g) (ha : SE X xr a ma) (hb : SE X xr b mb) (hm : behindInMarks op b = false) : ST X xr (.Compare a [op] [b] pos) (mBin g ma mb) :=
 PT.imp (zmr ho ha hb hm) λ σ H Q h => mBin.read hn hg σ H _ h.toM
noncomputable def zbG (g g' : W -> W -> Hx -> R W) (a b c : Ev) : Ev := λ ρ A => (a ρ A).bind λ x A1 => (b ρ A1).bind λ y A2 => (g x y A2).bind λ z A3 => match z with
 | .bl true => (c ρ A3).bind λ w A4 => g' y w A4
 | .bl false => .ok (.bl false) A3
 | _ => .bad
theorem zbG.read {g g' : W -> W -> Hx -> R W} {r r' : R2} (hn : ∀ x y A, zY (g x y A)) (hg : Op2 X.K r g) (hn' : ∀ x y A, zY (g' x y A)) (hg' : Op2 X.K r' g') :
  ∀ σ H Q, tM X.K xr (zbG g g' ma mb mc) σ H Q -> zjB r r' (tM X.K xr ma) (tM X.K xr mb) (tM X.K xr mc) σ H Q := by
 rintro σ H Q ⟨φ, A, ρ, S, re, h⟩
 refine tM.go S re (zM.mp h) λ w A1 φ1 H1 v h1 l1 S1 q1 => ?_
 refine tM.go S1 (re.mono l1) (zS (zM.mp h1) (λ _ _ z => z) λ _ _ z => z.mono l1) λ w2 A2 φ2 H2 v2 h2 l2 S2 q2 => ?_
 have l02 := l1.trans l2
 have h2' := zM.mp h2
 have h3 : (g w w2 A2).post (PB X.K φ2 H2 λ z H3 => ∃ k, z = .bl k /\ if k = true then tM X.K xr mc σ H3 λ w' H4 => r' v2 w' H4 Q else Q (.bl false) H3) noX := by
  refine zS (zdb (hn _ _ _) h2') (λ z A3 h3 φ3 H3 zv l3 S3 q3 => ?_) λ _ _ z => z
  have l03 := l02.trans l3
  cases z with
  | bl k =>
   refine ⟨k, q3, ?_⟩
   cases k with
   | true =>
    rw [if_pos rfl]
    refine tM.go S3 (re.mono l03) (zS (zM.mp h3) (λ _ _ z => z) λ _ _ z => z.mono l03) λ w4 A4 φ4 H4 v4 h4 l4 S4 q4 => ?_
    exact hg' φ4 A4 H4 v2 v4 w2 w4 Q S4 ((q2.mono l3).mono l4) q4 (zS (zdb (hn' _ _ _) h4) (λ _ _ z => z.mono (l03.trans l4)) λ _ _ z => z)
   | false =>
    rw [if_neg Bool.false_ne_true]
    exact h3 φ3 H3 _ l03 S3 rfl
  | non => cases h3
  | int _ => cases h3
  | str _ => cases h3
  | tup _ => cases h3
  | ref _ => cases h3
  | clo _ _ _ => cases h3
  | xc _ => cases h3
 exact hg φ2 A2 H2 v v2 w w2 _ S2 (q1.mono l2) q2 h3
theorem zkG {c : Expr} {op op' : CmpOp} {r r' : R2} {g g' : W -> W -> Hx -> R W} (ho : OpR X (compareOp op) r) (hn : ∀ x y A, zY (g x y A)) (hg : Op2 X.K r g) (ho' : OpR X (compareOp op') r') (hn' : ∀ x y A, zY (g' x y A)) (hg' : Op2 X.K r' g')
  (ha : SE X xr a ma) (hb : SE X xr b mb) (hc : SE X xr c mc) (hm : lastMarks [op, op'] [b, c] = false := by with_unfolding_all rfl) : SE X xr (.Compare a [op, op'] [b, c] pos) (zbG g g' ma mb mc) :=
 PE.imp (zkA ho ho' ha hb hc hm) (zbG.read hn hg hn' hg')
theorem zk1 {c : Expr} {op op' : CmpOp} {r r' : R2} {g g' : W -> W -> Hx -> R W} (ho : OpR X (compareOp op) r) (hn : ∀ x y A, zY (g x y A)) (hg : Op2 X.K r g) (ho' : OpR X (compareOp op') r') (hn' : ∀ x y A, zY (g' x y A)) (hg' : Op2 X.K r' g')
  (ha : SE X xr a ma) (hb : SE X xr b mb) (hc : SE X xr c mc) (hm : lastMarks [op, op'] [b, c] = false := by with_unfolding_all rfl) : ST X xr (.Compare a [op, op'] [b, c] pos) (zbG g g' ma mb mc) :=
 PT.imp (zlc ho ho' ha hb hc hm) λ σ H Q h => zbG.read hn hg hn' hg' σ H _ h.toM
noncomputable def mAnd (a b : Ev) : Ev := λ ρ A => (a ρ A).bind λ x A1 => match x with
 | .bl true => b ρ A1
 | .bl false => .ok (.bl false) A1
 | _ => .bad
noncomputable def mOr (a b : Ev) : Ev := λ ρ A => (a ρ A).bind λ x A1 => match x with
 | .bl true => .ok (.bl true) A1
 | .bl false => b ρ A1
 | _ => .bad
noncomputable def mNot (a : Ev) : Ev := λ ρ A => (a ρ A).bind λ x A1 => match x with
 | .bl k => .ok (.bl (!k)) A1
 | _ => .bad
noncomputable def mIf (c a b : Ev) : Ev := λ ρ A => (c ρ A).bind λ x A1 => match x with
 | .bl true => a ρ A1
 | .bl false => b ρ A1
 | _ => .bad
theorem zer {op} (h : SE X xr a ma) : SE X xr (.BoolOp op [a] pos) ma := zn7 h
theorem zdQ {rest : List Expr} (ha : SE X xr a ma) (hb : SE X xr (.BoolOp .And (b :: rest) pos) mb) : SE X xr (.BoolOp .And (a :: b :: rest) pos) (mAnd ma mb) :=
 PE.imp (zoE ha hb) λ σ H Q ⟨φ, A, ρ, S, re, h⟩ => by
  refine tM.go S re (zM.mp h) λ w A1 φ1 H1 v h1 l1 S1 q1 => ?_
  cases w with
  | bl k =>
   refine ⟨k, q1, ?_⟩
   cases k with
   | true => rw [if_pos rfl]; exact ⟨φ1, A1, ρ, S1, re.mono l1, zS h1 (λ _ _ z => z.mono l1) λ _ _ z => z.mono l1⟩
   | false => rw [if_neg Bool.false_ne_true]; exact h1 φ1 H1 _ l1 S1 rfl
  | non => cases h1
  | int _ => cases h1
  | str _ => cases h1
  | tup _ => cases h1
  | ref _ => cases h1
  | clo _ _ _ => cases h1
  | xc _ => cases h1
theorem zjW (ha : SE X xr a ma) : SE X xr (.UnaryOp .Not a pos) (mNot ma) :=
 PE.imp (zoc ha) λ σ H Q ⟨φ, A, ρ, S, re, h⟩ => by
  refine tM.go S re (zM.mp h) λ w A1 φ1 H1 v h1 l1 S1 q1 => ?_
  cases w with
  | bl k => exact ⟨k, q1, h1 φ1 H1 _ l1 S1 rfl⟩
  | non => cases h1
  | int _ => cases h1
  | str _ => cases h1
  | tup _ => cases h1
  | ref _ => cases h1
  | clo _ _ _ => cases h1
  | xc _ => cases h1
theorem zcf (h : SE X xr e m) (he : ∀ whole, isTrue e X.env whole = (do let v <- whole; standAt e.pos; holding [v] (truthy v)) := by intro _; rfl) : ST X xr e m :=
 PT.imp (zoi h he) λ σ H Q h => h.toM
theorem tT.mono {K : Frag} {φ φ1 : List Addr} {H H1 : Hp} {A1 : Hx} {ρ : En} {σ : St} {Q : Bool -> Hp -> Prop} (S1 : Sim K φ1 A1 H1) (l1 : Le K φ H φ1 H1) (re : RE K φ H ρ σ)
  (h : (m ρ A1).post (λ w A' => ∃ b, w = .bl b /\ ∀ φ' H', Le K φ H φ' H' -> Sim K φ' A' H' -> Q b H') (EB K φ H xr)) : tT K xr m σ H1 Q :=
 ⟨φ1, A1, ρ, S1, re.mono l1, zS h (λ w A' ⟨b, e, q⟩ => ⟨b, e, λ φ' H' l s => q φ' H' (l1.trans l) s⟩) λ _ _ z => z.mono l1⟩
theorem zgy (ha : ST X xr a ma) : SW X xr (.BoolOp .Or [a] pos) ma := zoO ha
theorem zkf {rest : List Expr} (ha : ST X xr a ma) (hb : SW X xr (.BoolOp .Or (b :: rest) pos) mb) : SW X xr (.BoolOp .Or (a :: b :: rest) pos) (mOr ma mb) :=
 PW.imp (zpg ha hb) λ σ H Q ⟨φ, A, ρ, S, re, h⟩ => by
  refine tT.go S re (zM.mp h) λ w A1 h1 => ?_
  cases w with
  | bl k =>
   refine ⟨k, rfl, λ φ1 H1 l1 S1 => ?_⟩
   cases k with
   | false => rw [if_neg Bool.false_ne_true]; exact tT.mono S1 l1 re h1
   | true => rw [if_pos rfl]; obtain ⟨b, e, q⟩ := h1; cases e; exact q φ1 H1 l1 S1
  | non => cases h1
  | int _ => cases h1
  | str _ => cases h1
  | tup _ => cases h1
  | ref _ => cases h1
  | clo _ _ _ => cases h1
  | xc _ => cases h1
theorem zeT (h : SW X xr e m) : ST X xr e m := PW.pt h
theorem zdS (ha : ST X xr a ma) : ST X xr (.UnaryOp .Not a pos) (mNot ma) :=
 PT.imp (zoK ha) λ σ H Q ⟨φ, A, ρ, S, re, h⟩ => by
  refine tT.go S re (zM.mp h) λ w A1 h1 => ?_
  cases w with
  | bl k => obtain ⟨b, e, q⟩ := h1; cases e; exact ⟨k, rfl, λ φ1 H1 l1 S1 => q φ1 H1 l1 S1⟩
  | non => cases h1
  | int _ => cases h1
  | str _ => cases h1
  | tup _ => cases h1
  | ref _ => cases h1
  | clo _ _ _ => cases h1
  | xc _ => cases h1
theorem ziT {c : Expr} (hc : ST X xr c mc) (ha : SE X xr a ma) (hb : SE X xr b mb) : SE X xr (.IfExp c a b pos) (mIf mc ma mb) :=
 PE.imp (zlj hc ha hb) λ σ H Q ⟨φ, A, ρ, S, re, h⟩ => by
  refine tT.go S re (zM.mp h) λ w A1 h1 => ?_
  cases w with
  | bl k =>
   refine ⟨k, rfl, λ φ1 H1 l1 S1 => ?_⟩
   cases k with
   | true => rw [if_pos rfl]; exact ⟨φ1, A1, ρ, S1, re.mono l1, zS h1 (λ _ _ z => z.mono l1) λ _ _ z => z.mono l1⟩
   | false => rw [if_neg Bool.false_ne_true]; exact ⟨φ1, A1, ρ, S1, re.mono l1, zS h1 (λ _ _ z => z.mono l1) λ _ _ z => z.mono l1⟩
  | non => cases h1
  | int _ => cases h1
  | str _ => cases h1
  | tup _ => cases h1
  | ref _ => cases h1
  | clo _ _ _ => cases h1
  | xc _ => cases h1
noncomputable def aNil : Ea := λ _ A => .ok [] A
noncomputable def zc (a : Ev) (r : Ea) : Ea := λ ρ A => (a ρ A).bind λ x A1 => (r ρ A1).bind λ xs A2 => .ok (x :: xs) A2
theorem zm : SA X xr [] aNil := PA.imp zbh λ σ H Q ⟨φ, A, ρ, S, re, h⟩ => h φ H [] .refl S .nil
theorem zi {mr : Ea} (ha : SE X xr e ma) (hr : SA X xr es mr) (hs : starEach (e :: es) X.env = (false, eval e X.env) :: starEach es X.env := by rfl) : SA X xr (e :: es) (zc ma mr) :=
 PA.imp (zar ha hr hs) λ σ H Q ⟨φ, A, ρ, S, re, h⟩ => by
  refine tM.go S re (zM.mp h) λ w A1 φ1 H1 v h1 l1 S1 q1 => ?_
  refine tAr.go S1 (re.mono l1) (zS (zM.mp h1) (λ _ _ z => z) λ _ _ z => z.mono l1) λ w2 A2 φ2 H2 v2 h2 l2 S2 q2 => ?_
  exact h2 φ2 H2 _ (l1.trans l2) S2 (.cons (q1.mono l2) q2)
noncomputable def mTup (a : Ea) : Ev := λ ρ A => (a ρ A).bind λ xs A1 => .ok (.tup xs) A1
noncomputable def mLst (a : Ea) : Ev := λ ρ A => (a ρ A).bind λ xs A1 => .ok (.ref A1.length) (A1 ++ [.lst xs])
theorem zfx {K : Frag} {φ : List Addr} {A : Hx} {H : Hp} {p : Addr} {ws : List W} {vs : List V} (S : Sim K φ A H) (hp : H p = none) (r : RVs K φ H ws vs) :
  Le K φ H φ (upd H p (.tup vs)) /\ Sim K φ A (upd H p (.tup vs)) /\ RV K φ (upd H p (.tup vs)) (.tup ws) (.ref p) :=
 ⟨Le.new hp, S.lay hp, p, vs, rfl, SqT.of zal, r.mono (Le.new hp)⟩
theorem zjh {K : Frag} {φ : List Addr} {A : Hx} {H : Hp} {p : Addr} {ws : List W} {vs : List V} (S : Sim K φ A H) (hp : H p = none) (r : RVs K φ H ws vs) :
  Le K φ H (φ ++ [p]) (upd H p (.lst vs)) /\ Sim K (φ ++ [p]) (A ++ [.lst ws]) (upd H p (.lst vs)) /\ RV K (φ ++ [p]) (upd H p (.lst vs)) (.ref A.length) (.ref p) := by
 have l : Le K φ H (φ ++ [p]) (upd H p (.lst vs)) := Le.alloc hp
 obtain ⟨h1, h2⟩ := S.alloc (o := .lst ws) hp ⟨vs, zal, r.mono l⟩
 exact ⟨h1, h2, p, rfl, by rw [<- S.len]; simp⟩
theorem zoS {mr : Ea} (h : SA X xr es mr) (hl : ∀ ρ A ws A', mr ρ A = .ok ws A' -> ws.length <= sizeLine) : SE X xr (.List es pos) (mLst mr) :=
 PE.imp (zn2 h) λ σ H Q ⟨φ, A, ρ, S, re, h⟩ => by
  have h' := zM.mp h
  cases e : mr ρ A with
  | ok ws A' =>
   rw [e] at h'
   refine ⟨φ, A, ρ, S, re, ?_⟩
   rw [e]
   intro φ1 H1 vs l1 S1 q1
   refine ⟨by rw [<- q1.length]; exact hl ρ A ws A' e, λ p hp => ?_⟩
   obtain ⟨a1, a2, a3⟩ := zjh S1 hp q1
   exact h' _ _ _ (l1.trans a1) a2 a3
  | exc x A' => rw [e] at h'; refine ⟨φ, A, ρ, S, re, ?_⟩; rw [e]; exact h'
  | bad => rw [e] at h'; exact h'.elim
end
end Mi
namespace Mi
open PySem PySem.Spec PyProof.Rows L2
inductive Fl where
 | nx (ρ : En) | rt (w : W) | bk (ρ : En) | ct (ρ : En)
noncomputable abbrev Ex := En -> Hx -> R Fl
noncomputable def FB (K : Frag) (φ : List Addr) (H : Hp) (D : Ends) : Fl -> Hx -> Prop
 | .nx ρ, A => ∀ φ' H' σ', Le K φ H φ' H' -> Sim K φ' A H' -> RE K φ' H' ρ σ' -> D.nx σ' H'
 | .rt w, A => ∀ φ' H' v, Le K φ H φ' H' -> Sim K φ' A H' -> RV K φ' H' w v -> D.rt v H'
 | .bk ρ, A => ∀ φ' H' σ', Le K φ H φ' H' -> Sim K φ' A H' -> RE K φ' H' ρ σ' -> D.bk σ' H'
 | .ct ρ, A => ∀ φ' H' σ', Le K φ H φ' H' -> Sim K φ' A H' -> RE K φ' H' ρ σ' -> D.ct σ' H'
theorem FB.mono {K : Frag} {φ φ1 : List Addr} {H H1 : Hp} {D : Ends} {fl : Fl} {A : Hx} (h : FB K φ H D fl A) (l : Le K φ H φ1 H1) : FB K φ1 H1 D fl A := by
 cases fl with
 | nx ρ => exact λ φ' H' v l' => h φ' H' v (l.trans l')
 | rt ρ => exact λ φ' H' v l' => h φ' H' v (l.trans l')
 | bk ρ => exact λ φ' H' v l' => h φ' H' v (l.trans l')
 | ct ρ => exact λ φ' H' v l' => h φ' H' v (l.trans l')
inductive MS (K : Frag) (xr : XR) (m : Ex) (D : Ends) (σ : St) (H : Hp) : Prop
 | mk (φ : List Addr) (A : Hx) (ρ : En) (S : Sim K φ A H) (re : RE K φ H ρ σ) (h : (m ρ A).post (FB K φ H D) (EB K φ H xr))
noncomputable def tS (K : Frag) (xr : XR) (m : Ex) : TS := λ D σ H => MS K xr m D σ H
noncomputable def SS (X : Cx) (xr : XR) (st : Stmt) (m : Ex) : Prop := PS X st (tS X.K xr m)
noncomputable def SSs (X : Cx) (xr : XR) (st : List Stmt) (m : Ex) : Prop := PSs X st (tS X.K xr m)
section
variable {X : Cx} {xr : XR} {e a b c : Expr} {st : Stmt} {rest : List Stmt} {m ma mb mc : Ev} {m1 m2 : Ex} {pos : Pos}
theorem PS.imp {t t' : TS} (h : PS X st t) (i : ∀ D σ H, t' D σ H -> t D σ H) : PS X st t' := λ pins s σ H D I hw => h pins s σ H D I (i D σ H hw)
theorem PSs.imp {t t' : TS} (h : PSs X rest t) (i : ∀ D σ H, t' D σ H -> t D σ H) : PSs X rest t' := λ pins s σ H D I hw => h pins s σ H D I (i D σ H hw)
noncomputable def xNil : Ex := λ ρ A => .ok (.nx ρ) A
noncomputable def xSeq (m1 m2 : Ex) : Ex := λ ρ A => (m1 ρ A).bind λ fl A1 => match fl with
 | .nx ρ1 => m2 ρ1 A1
 | f => .ok f A1
theorem zJ : SSs X xr [] xNil := PSs.imp zl8 λ D σ H ⟨φ, A, ρ, S, re, h⟩ => h φ H σ .refl S re
theorem zl (h1 : SS X xr st m1) (h2 : SSs X xr rest m2) : SSs X xr (st :: rest) (xSeq m1 m2) :=
 PSs.imp (zku h1 h2) λ D σ H ⟨φ, A, ρ, S, re, h⟩ => by
  refine ⟨φ, A, ρ, S, re, zS (zM.mp h) (λ fl A1 h1 => ?_) λ _ _ z => z⟩
  cases fl with
  | nx ρ1 => exact λ φ' H' σ' l S' r' => ⟨φ', A1, ρ1, S', r', zS h1 (λ _ _ z => z.mono l) λ _ _ z => z.mono l⟩
  | rt w => exact h1
  | bk ρ1 => exact h1
  | ct ρ1 => exact h1
noncomputable def xDo (m : Ev) : Ex := λ ρ A => (m ρ A).bind λ _ A1 => .ok (.nx ρ) A1
theorem zbl (he : SE X xr e m) (hs : swapsWith e none pos.line X.env = pure false := by rfl) : SS X xr (.Expr e pos) (xDo m) :=
 PS.imp (zne he hs) λ D σ H ⟨φ, A, ρ, S, re, h⟩ => tM.go S re (zM.mp h) λ w A1 φ1 H1 v h1 l1 S1 q1 => h1 φ1 H1 σ l1 S1 (re.mono l1)
noncomputable def xRet (m : Ev) : Ex := λ ρ A => (m ρ A).bind λ w A1 => .ok (.rt w) A1
theorem zU (he : SE X xr e m) : SS X xr (.Return (some e) pos) (xRet m) :=
 PS.imp (znN he) λ D σ H ⟨φ, A, ρ, S, re, h⟩ => tM.go S re (zM.mp h) λ w A1 φ1 H1 v h1 l1 S1 q1 => h1 φ1 H1 v l1 S1 q1
noncomputable def xIf (c : Ev) (a b : Ex) : Ex := λ ρ A => (c ρ A).bind λ x A1 => match x with
 | .bl true => a ρ A1
 | .bl false => b ρ A1
 | _ => .bad
theorem zci {sa sb : List Stmt} (hc : ST X xr c mc) (ha : SSs X xr sa m1) (hb : SSs X xr sb m2) : SS X xr (.If c sa sb pos) (xIf mc m1 m2) :=
 PS.imp (zo9 hc ha hb) λ D σ H ⟨φ, A, ρ, S, re, h⟩ => by
  refine tT.go S re (zM.mp h) λ w A1 h1 => ?_
  cases w with
  | bl k =>
   refine ⟨k, rfl, λ φ1 H1 l1 S1 => ?_⟩
   cases k with
   | true => rw [if_pos rfl]; exact ⟨φ1, A1, ρ, S1, re.mono l1, zS h1 (λ _ _ z => z.mono l1) λ _ _ z => z.mono l1⟩
   | false => rw [if_neg Bool.false_ne_true]; exact ⟨φ1, A1, ρ, S1, re.mono l1, zS h1 (λ _ _ z => z.mono l1) λ _ _ z => z.mono l1⟩
  | non => cases h1
  | int _ => cases h1
  | str _ => cases h1
  | tup _ => cases h1
  | ref _ => cases h1
  | clo _ _ _ => cases h1
  | xc _ => cases h1
noncomputable def xSet (i : Nat) (m : Ev) : Ex := λ ρ A => (m ρ A).bind λ w A1 => .ok (.nx (ρ.set i (some w))) A1
theorem xSet.read {i : Nat} : ∀ D σ H, tS X.K xr (xSet i m) D σ H -> tAsg (tM X.K xr m) (zle i) D σ H := by
 rintro D σ H ⟨φ, A, ρ, S, re, h⟩
 exact tM.go S re (zM.mp h) λ w A1 φ1 H1 v h1 l1 S1 q1 => h1 φ1 H1 _ l1 S1 ((re.mono l1).set q1)
theorem zat (i : Nat) {x : Str} {pos' : Pos} (hN : X.N.Nodup) (he : SE X xr e m) (hi : X.N[i]? = some x := by rfl) (hx : Loc X.env.scope x := by first | exact Or.inl rfl | exact Or.inr rfl) (hs : swapsWith e (some (.Name x pos')) pos.line X.env = pure false := by rfl)
  (hf : X.fn x = true ∨ X.env.scope.names.lookup x = some .local := by first | exact .inl rfl | exact .inr rfl) : SS X xr (.Assign [.Name x pos'] e pos) (xSet i m) :=
 PS.imp (zoN hN hi hx he hs hf) xSet.read
noncomputable def zce (g : W -> W -> W -> Hx -> R Unit) (me mo mi : Ev) : Ex := λ ρ A => (me ρ A).bind λ v A1 => (mo ρ A1).bind λ o A2 => (mi ρ A2).bind λ i A3 => (g o i v A3).bind λ _ A4 => .ok (.nx ρ) A4
noncomputable def zos (K : Frag) (t : TSet) (g : W -> W -> W -> Hx -> R Unit) : Prop := ∀ φ A H o i v wo wi wv Q, Sim K φ A H -> RV K φ H wo o -> RV K φ H wi i -> RV K φ H wv v ->
 (g wo wi wv A).post (λ _ A' => ∀ φ' H', Le K φ H φ' H' -> Sim K φ' A' H' -> Q H') noX -> t o i v H Q
theorem zlg {o i : Expr} {mo mi : Ev} {t : TSet} {g : W -> W -> W -> Hx -> R Unit} {tpos : Pos} (ht : PSet X t) (hn : ∀ o i v A, zY (g o i v A)) (hg : zos X.K t g) (he : SE X xr e m) (ho : SE X xr o mo) (hi : SE X xr i mi)
  (hs : swapsWithSole [.Subscript o i tpos] e pos.line X.env = pure false := by rfl) (hw : swappedStores [.Subscript o i tpos] e X.env = pure none := by rfl)
  (h1 : (assignEach [.Subscript o i tpos] X.env).map (·.2) = [assign (.Subscript o i tpos) X.env] := by rfl)
  (ha : ∀ v, assign (.Subscript o i tpos) X.env v = (do
   let ov <- holding [v] (eval o X.env)
   let iv <- holding [v, ov] (eval i X.env)
   standAt tpos
   holding [v, ov, iv] (setItem ov iv v)
   release [v, ov, iv] []) := by intro _; rfl) : SS X xr (.Assign [.Subscript o i tpos] e pos) (zce g m mo mi) :=
 PS.imp (zlI he (zo1 ho hi ht ha) hs hw h1) λ D σ H ⟨φ, A, ρ, S, re, h⟩ => by
  refine tM.go S re (zM.mp h) λ w1 A1 φ1 H1 v1 h1 l1 S1 q1 => ?_
  refine tM.go S1 (re.mono l1) (zS (zM.mp h1) (λ _ _ z => z) λ _ _ z => z.mono l1) λ w2 A2 φ2 H2 v2 h2 l2 S2 q2 => ?_
  have l02 := l1.trans l2
  refine tM.go S2 (re.mono l02) (zS (zM.mp h2) (λ _ _ z => z) λ _ _ z => z.mono l02) λ w3 A3 φ3 H3 v3 h3 l3 S3 q3 => ?_
  have l03 := l02.trans l3
  refine hg φ3 A3 H3 v2 v3 v1 w2 w3 w1 _ S3 (q2.mono l3) q3 (q1.mono (l2.trans l3)) ?_
  cases hr : g w2 w3 w1 A3 with
  | ok u A4 =>
   rw [hr] at h3
   exact λ φ4 H4 l4 S4 => h3 φ4 H4 σ (l03.trans l4) S4 (re.mono (l03.trans l4))
  | exc x A4 => exact absurd hr (hn _ _ _ _ x A4)
  | bad => rw [hr] at h3; exact h3.elim
structure Itx where
 at_ : Hx -> Nat -> Option (Option W)
 len : Nat
noncomputable def ItR (K : Frag) (φ : List Addr) (H : Hp) (j : Itx) (J : It) : Prop := ∀ i φ' H' A', LeW K φ H φ' H' -> Sim K φ' A' H' ->
 (∀ w, j.at_ A' i = some (some w) -> J.go i H' /\ ∀ x H1, J.yld i H' x H1 -> Le K φ' H' φ' H1 /\ Sim K φ' A' H1 /\ RV K φ' H1 w x) /\ (j.at_ A' i = some none -> J.stop i H')
noncomputable abbrev Ei := En -> Hx -> R Itx
inductive MI (K : Frag) (xr : XR) (mi : Ei) (σ : St) (H : Hp) (Rr : It -> Hp -> Prop) : Prop
 | mk (φ : List Addr) (A : Hx) (ρ : En) (S : Sim K φ A H) (re : RE K φ H ρ σ) (h : (mi ρ A).post (λ j A1 => ∀ φ1 H1 J, Le K φ H φ1 H1 -> Sim K φ1 A1 H1 -> ItR K φ1 H1 j J -> Rr J H1) (EB K φ H xr))
noncomputable def tI (K : Frag) (xr : XR) (mi : Ei) : TI := λ σ H Rr => MI K xr mi σ H Rr
noncomputable def SI (X : Cx) (xr : XR) (tg iter : Expr) (mi : Ei) : Prop := PI X tg iter (tI X.K xr mi)
theorem PI.imp {tg : Expr} {t t' : TI} (h : PI X tg e t) (i : ∀ σ H Q, t' σ H Q -> t σ H Q) : PI X tg e t' := λ pins s σ H Q I hw => h pins s σ H Q I (i σ H Q hw)
noncomputable abbrev Tg := W -> En -> Option En
inductive MG (K : Frag) (tw : Tg) (v : V) (σ : St) (H : Hp) (Q : St -> Hp -> Prop) : Prop
 | mk (φ : List Addr) (A : Hx) (ρ : En) (w : W) (ρ' : En) (S : Sim K φ A H) (re : RE K φ H ρ σ) (rv : RV K φ H w v) (t : tw w ρ = some ρ') (q : ∀ σ', RE K φ H ρ' σ' -> Q σ' H)
noncomputable def tG (K : Frag) (tw : Tg) : TG := λ v σ H Q => MG K tw v σ H Q
noncomputable def SG (X : Cx) (tg : Expr) (tw : Tg) : Prop := PG X tg (tG X.K tw)
theorem PG.imp {tg : Expr} {t t' : TG} (h : PG X tg t) (i : ∀ v σ H Q, t' v σ H Q -> t v σ H Q) : PG X tg t' := λ pins s σ H v u Q I r hw => h pins s σ H v u Q I r (i v σ H Q hw)
noncomputable def gVar (i : Nat) : Tg := λ w ρ => some (ρ.set i (some w))
theorem zaL (i : Nat) {x : Str} (hN : X.N.Nodup) (hi : X.N[i]? = some x := by rfl) (hx : Loc X.env.scope x := by first | exact Or.inl rfl | exact Or.inr rfl) (hf : X.fn x = true ∨ X.env.scope.names.lookup x = some .local := by first | exact .inl rfl | exact .inr rfl) : SG X (.Name x pos) (gVar i) :=
 PG.imp (zhK hN hi hx hf) λ v σ H Q ⟨φ, A, ρ, w, ρ', S, re, q, e, k⟩ => by
  have e' : ρ.set i (some w) = ρ' := Option.some.inj e
  subst e'
  exact k _ (re.set q)
noncomputable def zbE (i j : Nat) : Tg := λ w ρ => match w with
 | .tup [x, y] => some ((ρ.set i (some x)).set j (some y))
 | _ => none
theorem zbP (i j : Nat) {x y : Str} {p q : Pos} {k : Nat} (hc : X.calm = true) (hN : X.N.Nodup) (hi : X.N[i]? = some x := by rfl) (hx : Loc X.env.scope x := by first | exact Or.inl rfl | exact Or.inr rfl) (hf : X.fn x = true ∨ X.env.scope.names.lookup x = some .local := by first | exact .inl rfl | exact .inr rfl)
  (hj : X.N[j]? = some y := by rfl) (hy : Loc X.env.scope y := by first | exact Or.inl rfl | exact Or.inr rfl) (hg : X.fn y = true ∨ X.env.scope.names.lookup y = some .local := by first | exact .inl rfl | exact .inr rfl) : SG X (.Tuple [.Name x p, .Name y q] k pos) (zbE i j) :=
 PG.imp (zoL hc (zin (zhK hN hi hx hf) (zin (zhK hN hj hy hg) zmm))) λ v σ H Q ⟨φ, A, ρ, w, ρ', S, re, qq, e, kk⟩ => by
  unfold zbE at e
  split at e
  ·rename_i x1 y1
   have e' := Option.some.inj e
   subst e'
   obtain ⟨a, vs, rfl, hs, rs⟩ := qq
   obtain ⟨v1, r1, rfl, h1, v2, r2, rfl, h2, rfl⟩ := rs
   exact ⟨a, [v1, v2], rfl, hs, rfl, v1, [v2], rfl, v2, [], rfl, rfl, kk _ ((re.set h1).set h2)⟩
  ·cases e
noncomputable def zbJ (j : Itx) (st : W -> Ex) : Nat -> Nat -> Ex
 | 0, i, ρ, A => match j.at_ A i with
  | some none => .ok (.nx ρ) A
  | _ => .bad
 | f + 1, i, ρ, A => match j.at_ A i with
  | some none => .ok (.nx ρ) A
  | some (some w) => (st w ρ A).bind λ fl A1 => match fl with
   | .nx ρ1 => zbJ j st f (i + 1) ρ1 A1
   | .ct ρ1 => zbJ j st f (i + 1) ρ1 A1
   | .bk ρ1 => .ok (.nx ρ1) A1
   | .rt w => .ok (.rt w) A1
  | none => .bad
noncomputable def turn (tw : Tg) (body : Ex) (w : W) : Ex := λ ρ A => match tw w ρ with
 | some ρ1 => body ρ1 A
 | none => .bad
noncomputable def xFor (mi : Ei) (tw : Tg) (body : Ex) : Ex := λ ρ A => (mi ρ A).bind λ j A1 => zbJ j (turn tw body) j.len 0 ρ A1
inductive FoW (K : Frag) (xr : XR) (j : Itx) (t : W -> Ex) (D : Ends) (φ1 : List Addr) (H1 : Hp) (f i : Nat) (σ' : St) (H' : Hp) : Prop
 | mk (φ2 : List Addr) (A2 : Hx) (ρ2 : En) (l : Le K φ1 H1 φ2 H') (S : Sim K φ2 A2 H') (re : RE K φ2 H' ρ2 σ') (h : (zbJ j t f i ρ2 A2).post (FB K φ2 H' D) (EB K φ2 H' xr))
theorem zcK {tg iter : Expr} {body : List Stmt} {mi : Ei} {tw : Tg} (hp : PassesOwn (model X.prog X.w) X.A X.env X.xe) (hc : X.calm = true) (hi : SI X xr tg iter mi) (hg : SG X tg tw) (hb : SSs X xr body m1)
  (hs : ∀ x, foldedSetIterable iter X.env x = pure x := by intro _; rfl) : SS X xr (.For tg iter body [] pos) (xFor mi tw m1) :=
 PS.imp (znX hp hc hi hg hb hs) λ D σ H ⟨φ, A, ρ, S, re, h⟩ => by
  refine ⟨φ, A, ρ, S, re, zS (zM.mp h) (λ j A1 h1 φ1 H1 J l1 S1 jr => ?_) λ _ _ z => z⟩
  refine ⟨λ i f σ' H' => FoW X.K xr j (turn tw m1) D φ1 H1 f i σ' H',
   ⟨j.len, φ1, A1, ρ, .refl, S1, re.mono l1, zS h1 (λ _ _ z => z.mono l1) λ _ _ z => z.mono l1⟩, ?_⟩
  rintro i f σ2 H2 ⟨φ2, A2, ρ2, l2, S2, re2, h2⟩
  obtain ⟨j1, j2⟩ := jr i φ2 H2 A2 ⟨l2.ex, l2.tp, l2.fz⟩ S2
  cases ej : j.at_ A2 i with
  | none => cases f <;> (unfold zbJ at h2; rw [ej] at h2; exact h2.elim)
  | some o =>
   cases o with
   | none =>
    left
    refine ⟨j2 ej, ?_⟩
    cases f <;> (unfold zbJ at h2; rw [ej] at h2; exact h2 φ2 H2 σ2 .refl S2 re2)
   | some w =>
    right
    obtain ⟨go, yl⟩ := j1 w ej
    cases f with
    | zero => unfold zbJ at h2; rw [ej] at h2; exact h2.elim
    | succ f =>
     unfold zbJ at h2
     rw [ej] at h2
     refine ⟨go, λ σ' H' => FoW X.K xr j (turn tw m1) D φ1 H1 f (i + 1) σ' H', λ σ' H' z => ⟨f, Nat.lt_succ_self _, z⟩, λ x H3 y => ?_⟩
     obtain ⟨l3, S3, q3⟩ := yl x H3 y
     have h3 := zM.mp h2
     unfold turn at h3
     cases et : tw w ρ2 with
     | none => rw [et] at h3; exact h3.elim
     | some ρ3 =>
      rw [et] at h3
      refine ⟨φ2, A2, ρ2, w, ρ3, S3, re2.mono l3, q3, et, λ σ3 re3 => ?_⟩
      refine ⟨φ2, A2, ρ3, S3, re3, zS h3 (λ fl A4 h4 => ?_) λ _ _ z => z.mono l3⟩
      cases fl with
      | nx ρ4 => exact λ φ4 H4 σ4 l4 S4 re4 => ⟨φ4, A4, ρ4, (l2.trans l3).trans l4, S4, re4, zS h4 (λ _ _ z => z.mono (l3.trans l4)) λ _ _ z => z.mono (l3.trans l4)⟩
      | ct ρ4 => exact λ φ4 H4 σ4 l4 S4 re4 => ⟨φ4, A4, ρ4, (l2.trans l3).trans l4, S4, re4, zS h4 (λ _ _ z => z.mono (l3.trans l4)) λ _ _ z => z.mono (l3.trans l4)⟩
      | bk ρ4 => exact λ φ4 H4 σ4 l4 S4 re4 => h4 φ4 H4 σ4 (l3.trans l4) S4 re4
      | rt w4 => exact λ φ4 H4 v4 l4 S4 q4 => h4 φ4 H4 v4 (l3.trans l4) S4 q4
noncomputable def zf3 (nl : Nat) (cap : List Nat) (ρ : En) : En := List.replicate nl none ++ cap.map λ i => (ρ[i]?).join
theorem RE.ncap {K : Frag} {φ : List Addr} {H : Hp} {ρ : En} {σ : St} {nl : Nat} {cap : List Nat} (r : RE K φ H ρ σ) : RE K φ H (zf3 nl cap ρ) (L2.ncap nl cap σ) := by
 refine ⟨by simp [zf3, L2.ncap], λ i w e => ?_⟩
 unfold zf3 at e
 unfold L2.ncap
 by_cases hi : i < nl
 ·rw [List.getElem?_append_left (by simpa using hi), List.getElem?_replicate] at e
  split at e <;> cases e
 ·rw [List.getElem?_append_right (by simpa using hi), List.length_replicate, List.getElem?_map] at e
  rw [List.getElem?_append_right (by simpa using hi), List.length_replicate, List.getElem?_map]
  cases hc : cap[i - nl]? with
  | none => rw [hc] at e; cases e
  | some k =>
   rw [hc] at e
   have e2 : (ρ[k]?).join = some w := Option.some.inj e
   cases hk : ρ[k]? with
   | none => rw [hk] at e2; cases e2
   | some o => cases o with
    | none => rw [hk] at e2; cases e2
    | some w' =>
     rw [hk] at e2
     cases e2
     obtain ⟨v, h1, h2⟩ := r.get k w hk
     exact ⟨v, by simp [h1], h2⟩
noncomputable abbrev Em := En -> List W -> Hx -> R (En × List W)
noncomputable def zR : Nat := 100000
noncomputable def zN (elt : Ev) : Em := λ ρ acc A => (elt ρ A).bind λ y A1 => if acc.length < zR then .ok (ρ, acc ++ [y]) A1 else .bad
noncomputable def emGo (j : Itx) (tw : Tg) (ifs : Ev) (em : Em) : Nat -> Nat -> Em
 | 0, i, ρ, acc, A => match j.at_ A i with
  | some none => .ok (ρ, acc) A
  | _ => .bad
 | f + 1, i, ρ, acc, A => match j.at_ A i with
  | some none => .ok (ρ, acc) A
  | some (some w) => match tw w ρ with
   | some ρ1 => (ifs ρ1 A).bind λ c A1 => match c with
    | .bl true => (em ρ1 acc A1).bind λ p A2 => emGo j tw ifs em f (i + 1) p.1 p.2 A2
    | .bl false => emGo j tw ifs em f (i + 1) ρ1 acc A1
    | _ => .bad
   | none => .bad
  | none => .bad
noncomputable def zeB (mi : Ei) (tw : Tg) (ifs : Ev) (em : Em) : Em := λ ρ acc A => (mi ρ A).bind λ j A1 => emGo j tw ifs em j.len 0 ρ acc A1
noncomputable abbrev Eq' := En -> Hx -> R (List W)
noncomputable def zT (nl : Nat) (cap : List Nat) (mi : Ei) (tw : Tg) (ifs : Ev) (em : Em) : Eq' := λ ρ A => (mi ρ A).bind λ j A1 => (emGo j tw ifs em j.len 0 (zf3 nl cap ρ) [] A1).nox.bind λ p A2 => .ok p.2 A2
noncomputable def EmP (K : Frag) (D : Addr) (φ : List Addr) (H : Hp) (Q : St -> Hp -> Prop) (p : En × List W) (A1 : Hx) : Prop := ∀ φ1 H1 σ1 zs, LeD K D φ H φ1 H1 -> (∀ k : Nat, φ1[k]? ≠ some D) -> Sim K φ1 A1 H1 -> RE K φ1 H1 p.1 σ1 -> H1 D = some (.lst zs) -> RVs K φ1 H1 p.2 zs -> Q σ1 H1
inductive ME (K : Frag) (em : Em) (D : Addr) (σ : St) (H : Hp) (Q : St -> Hp -> Prop) : Prop
 | mk (φ : List Addr) (A : Hx) (ρ : En) (acc : List W) (ys : List V) (S : Sim K φ A H) (re : RE K φ H ρ σ) (hD : H D = some (.lst ys)) (nD : ∀ k : Nat, φ[k]? ≠ some D) (rv : RVs K φ H acc ys)
  (h : (em ρ acc A).post (EmP K D φ H Q) noX)
noncomputable def tE (K : Frag) (em : Em) : TEm := λ D σ H Q => ME K em D σ H Q
noncomputable abbrev xr0 : XR := λ _ _ => False
noncomputable def SM (X : Cx) (elt : Expr) (gens : List Comprehension) (sc : Scope) (cpos : Pos) (d : Nat) (em : Em) : Prop := PEm X elt gens sc cpos d (tE X.K em)
theorem PEm.imp {elt : Expr} {gens : List Comprehension} {sc : Scope} {d : Nat} {t t' : TEm} (h : PEm X elt gens sc pos d t) (i : ∀ D σ H Q, t' D σ H Q -> t D σ H Q) : PEm X elt gens sc pos d t' :=
 λ pins s σ H D Q k Q' E I hw hk => h pins s σ H D Q k Q' E I (i D σ H Q hw) hk
theorem zdO {α : Type} {K : Frag} {φ : List Addr} {H : Hp} {r : R α} {P : α -> Hx -> Prop} (h : r.post P noX) : r.post P (EB K φ H xr0) := zS h (λ _ _ z => z) λ _ _ z => z.elim
theorem za1 {elt : Expr} {gens : List Comprehension} {sc : Scope} {d : Nat} {me : Ev} (hx : ∀ e s, X.xe e s -> False) (he : SE X xr0 elt me) (hg : gens[d + 1]? = none) : SM X elt gens sc pos d (zN me) :=
 PEm.imp (zih hx he hg) λ D σ H Q ⟨φ, A, ρ, acc, ys, S, re, hD, nD, ra, h⟩ => by
  refine tM.go S re (zdO (zM.mp h)) λ w A1 φ1 H1 v h1 l1 S1 q1 => ?_
  obtain ⟨d1, n1⟩ := l1.off hD nD
  by_cases hz : acc.length < zR
  ·rw [if_pos hz] at h1
   have hl := ra.length
   refine ⟨ys, d1, ?_, ?_⟩
   ·rw [<- hl]
    have : sizeLine = 16777216 := sizeLine_eq
    unfold zR at hz
    omega
   ·exact h1 φ1 _ σ _ (l1.toD.trans (LeD.upd d1)) n1 (S1.off d1 n1) ⟨re.len, λ i w e => let ⟨v, a, b⟩ := re.get i w e; ⟨v, a, (b.mono l1).monoD (LeD.upd d1)⟩⟩ zal
     (((ra.mono l1).monoD (LeD.upd d1)).append (.one (q1.monoD (LeD.upd d1))))
  ·rw [if_neg hz] at h1; exact h1.elim
noncomputable def STs (X : Cx) (ifs : List Expr) (m : Ev) : Prop := PIfs X ifs (tT X.K xr0 m)
theorem zav : STs X [] (mLit (.bl true)) := λ pins s σ H Q I ⟨φ, A, ρ, S, re, h⟩ => zln pins s σ H Q I (by
 obtain ⟨b, e, q⟩ := h
 cases e
 exact q φ H .refl S)
theorem zhI (h : ST X xr0 c mc) : STs X [c] mc := zkY h
inductive EmW (tw : Tg) (ifs : Ev) (em : Em) (j : Itx) (K : Frag) (D : Addr) (φ : List Addr) (H : Hp) (Q : St -> Hp -> Prop) (f i : Nat) (σ' : St) (H' : Hp) : Prop
 | mk (φ2 : List Addr) (A2 : Hx) (ρ2 : En) (acc2 : List W) (ys2 : List V) (l : LeD K D φ H φ2 H') (S : Sim K φ2 A2 H') (re : RE K φ2 H' ρ2 σ') (hD : H' D = some (.lst ys2)) (nD : ∀ k : Nat, φ2[k]? ≠ some D) (ra : RVs K φ2 H' acc2 ys2) (h : (emGo j tw ifs em f i ρ2 acc2 A2).post (EmP K D φ H Q) noX)
theorem emGo.read {tw : Tg} {ifs : Ev} {em : Em} {j : Itx} {J : It} {K : Frag} {D : Addr} {φ : List Addr} {A : Hx} {H : Hp} {ρ : En} {σ : St} {acc : List W} {ys : List V} {Q : St -> Hp -> Prop} {f : Nat}
  (jr : ItR K φ H j J)
  (S : Sim K φ A H) (re : RE K φ H ρ σ) (hD : H D = some (.lst ys)) (nD : ∀ k : Nat, φ[k]? ≠ some D) (ra : RVs K φ H acc ys)
  (h : (emGo j tw ifs em f 0 ρ acc A).post (EmP K D φ H Q) noX) :
  ziO J (tG K tw) (tT K xr0 ifs) (tE K em) D σ H Q := by
 refine ⟨λ i f σ' H' => EmW tw ifs em j K D φ H Q f i σ' H',
  ⟨f, φ, A, ρ, acc, ys, .refl, S, re, hD, nD, ra, h⟩, ?_⟩
 rintro i f σ2 H2 ⟨φ2, A2, ρ2, acc2, ys2, l2, S2, re2, hD2, nD2, ra2, h2⟩
 obtain ⟨j1, j2⟩ := jr i φ2 H2 A2 ⟨l2.ex, l2.tp, l2.fz⟩ S2
 cases ej : j.at_ A2 i with
 | none => cases f <;> (unfold emGo at h2; rw [ej] at h2; exact h2.elim)
 | some o =>
  cases o with
  | none =>
   left
   refine ⟨j2 ej, ?_⟩
   cases f <;> (unfold emGo at h2; rw [ej] at h2; exact h2 φ2 H2 σ2 ys2 l2 nD2 S2 re2 hD2 ra2)
  | some w =>
   right
   obtain ⟨go, yl⟩ := j1 w ej
   cases f with
   | zero => unfold emGo at h2; rw [ej] at h2; exact h2.elim
   | succ f =>
    unfold emGo at h2
    rw [ej] at h2
    refine ⟨go, λ σ' H' => EmW tw ifs em j K D φ H Q f (i + 1) σ' H', λ σ' H' z => ⟨f, Nat.lt_succ_self _, z⟩, λ x H3 y => ?_⟩
    obtain ⟨l3, S3, q3⟩ := yl x H3 y
    obtain ⟨hD3, nD3⟩ := l3.off hD2 nD2
    dsimp only at h2
    cases et : tw w ρ2 with
    | none => rw [et] at h2; exact h2.elim
    | some ρ3 =>
     rw [et] at h2
     refine ⟨φ2, A2, ρ2, w, ρ3, S3, re2.mono l3, q3, et, λ σ3 re3 => ?_⟩
     refine tT.go S3 re3 (zdO (zM.mp h2)) λ c A4 h4 => ?_
     cases c with
     | bl k =>
      refine ⟨k, rfl, λ φ4 H4 l4 S4 => ?_⟩
      obtain ⟨hD4, nD4⟩ := l4.off hD3 nD3
      have l04 := (l2.trans (l3.trans l4).toD)
      cases k with
      | true =>
       rw [if_pos rfl]
       refine ⟨φ4, A4, ρ3, acc2, ys2, S4, re3.mono l4, hD4, nD4, ra2.mono (l3.trans l4), zS (zM.mp h4) (λ p A5 h5 φ5 H5 σ5 zs l5 n5 S5 re5 d5 r5 => ?_) λ _ _ z => z⟩
       exact ⟨φ5, A5, p.1, p.2, zs, l04.trans l5, S5, re5, d5, n5, r5, h5⟩
      | false =>
       rw [if_neg Bool.false_ne_true]
       exact ⟨φ4, A4, ρ3, acc2, ys2, l04, S4, re3.mono l4, hD4, nD4, ra2.mono (l3.trans l4), h4⟩
     | non => cases h4
     | int _ => cases h4
     | str _ => cases h4
     | tup _ => cases h4
     | ref _ => cases h4
     | clo _ _ _ => cases h4
     | xc _ => cases h4
theorem ItR.mono {K : Frag} {φ φ1 : List Addr} {H H1 : Hp} {j : Itx} {J : It} (h : ItR K φ H j J) (l : LeW K φ H φ1 H1) : ItR K φ1 H1 j J :=
 λ i φ' H' A' l' => h i φ' H' A' ⟨λ n a e => l'.ex n a (l.ex n a e), λ a vs e => l'.tp a vs (l.tp a vs e), λ a o u e => l'.fz a o u (l.fz a o u e)⟩
theorem zik {elt tg iter : Expr} {ifs : List Expr} {gens : List Comprehension} {sc : Scope} {d : Nat} {mi : Ei} {tw : Tg} {mf : Ev} {em : Em} (hx : ∀ e s, X.xe e s -> False) (hc : X.calm = true) (hg : gens[d + 1]? = some ⟨tg, iter, ifs, 0⟩) (ha : ∀ g', gens[d + 2]? = some g' -> g'.is_async = 0)
  (hw : SI X xr0 tg iter mi) (hgt : SG X tg tw) (hi : STs X ifs mf) (hm : SM X elt gens sc pos (d + 1) em) (hs : ∀ x, foldedSetIterable iter X.env x = pure x := by intro _; rfl) : SM X elt gens sc pos d (zeB mi tw mf em) :=
 PEm.imp (zkT hx hc hg ha hw hgt hi hm hs) λ D σ H Q ⟨φ, A, ρ, acc, ys, S, re, hD, nD, ra, h⟩ => by
  refine ⟨φ, A, ρ, S, re, zS (zdO (zM.mp h)) (λ j A1 h1 φ1 H1 J l1 S1 jr => ?_) λ _ _ z => z⟩
  obtain ⟨d1, n1⟩ := l1.off hD nD
  exact emGo.read jr S1 (re.mono l1) d1 n1 (ra.mono l1) (zS h1 (λ p A2 h2 φ2 H2 σ2 zs l2 n2 S2 re2 d2 r2 => h2 φ2 H2 σ2 zs (l1.toD.trans l2) n2 S2 re2 d2 r2) λ _ _ z => z)
inductive MF (K : Frag) (xr : XR) (mq : Eq') (σ : St) (H : Hp) (Q : VK) : Prop
 | mk (φ : List Addr) (A : Hx) (ρ : En) (S : Sim K φ A H) (re : RE K φ H ρ σ) (h : (mq ρ A).post (λ ws A1 => ∀ φ1 H1 D ys, Le K φ H φ1 H1 -> Sim K φ1 A1 H1 -> H D = none -> H1 D = some (.lst ys) -> (∀ k : Nat, φ1[k]? ≠ some D) -> RVs K φ1 H1 ws ys -> Q (.ref D) H1) (EB K φ H xr))
noncomputable def tF (K : Frag) (xr : XR) (mq : Eq') : TE := λ σ H Q => MF K xr mq σ H Q
noncomputable def SF (X : Cx) (xr : XR) (e : Expr) (mq : Eq') : Prop := PE X e (tF X.K xr mq)
theorem zT.read {mi : Ei} {tw : Tg} {mf : Ev} {em : Em} {nl : Nat} {cap : List Nat} : ∀ σ H Q, tF X.K xr (zT nl cap mi tw mf em) σ H Q -> zla X.K (tI X.K xr mi) (tG X.K tw) (tT X.K xr0 mf) (tE X.K em) nl cap σ H Q := by
 rintro σ H Q ⟨φ, A, ρ, S, re, h⟩
 refine ⟨φ, A, ρ, S, re, zS (zM.mp h) (λ j A1 h1 φ1 H1 J l1 S1 jr D hD hK => ?_) λ _ _ z => z⟩
 have ln : Le X.K φ1 H1 φ1 (upd H1 D (.lst [])) := Le.new hD
 have h1' := zM.mp h1
 refine emGo.read (jr.mono ⟨ln.ex, ln.tp, ln.fz⟩) (S1.lay hD) ((re.mono (l1.trans ln)).ncap) zal (S1.notin hD hK) .nil ?_ (f := j.len) (acc := [])
 cases er : emGo j tw mf em j.len 0 (zf3 nl cap ρ) [] A1 with
 | ok p A2 =>
  rw [er] at h1'
  intro φ2 H2 σ2 zs l2 n2 S2 re2 d2 r2
  have l02 := l1.trans (Le.ofD hD l2)
  exact h1' φ2 H2 D zs l02 S2 (l1.st D hD) d2 n2 r2
 | exc x A2 => rw [er] at h1'; exact h1'.elim
 | bad => rw [er] at h1'; exact h1'.elim
theorem zaH {elt tg iter : Expr} {ifs : List Expr} {gs : List Comprehension} {sc : Scope} {mi : Ei} {tw : Tg} {mf : Ev} {em : Em} {N : List Str} (nl : Nat) (cap : List Nat) (hc : X.calm = true) (S : zbt X sc) (hcap : zeZ X.N N sc nl cap = true) (hw : SI X xr tg iter mi)
  (hin : ∀ s H fp, SG (cpCx X N sc s H fp noxe) tg tw /\ STs (cpCx X N sc s H fp noxe) ifs mf /\ SM (cpCx X N sc s H fp noxe) elt (⟨tg, iter, ifs, 0⟩ :: gs) sc pos 0 em)
  (ha : ∀ g', gs[0]? = some g' -> g'.is_async = 0 := by intro _ h; cases h <;> rfl)
  (hs : ∀ x, foldedSetIterable iter X.env x = pure x := by intro _; rfl) : SF X xr (.ListComp elt (⟨tg, iter, ifs, 0⟩ :: gs) sc pos) (zT nl cap mi tw mf em) :=
 PE.imp (zmt (g := tG X.K tw) (ti := tT X.K xr0 mf) (tm := tE X.K em) hc S hcap ha hw hin hs) zT.read
noncomputable def zb7 (q : Eq') : Ev := λ ρ A => (q ρ A).bind λ ws A1 => .ok (.ref A1.length) (A1 ++ [.lst ws])
theorem zb7.read {q : Eq'} {K : Frag} : ∀ σ H Q, tM K xr (zb7 q) σ H Q -> tF K xr q σ H Q := by
 rintro σ H Q ⟨φ, A, ρ, S, re, h⟩
 refine ⟨φ, A, ρ, S, re, zS (zM.mp h) (λ ws A1 h1 φ1 H1 D ys l1 S1 h0 hD nD r => ?_) λ _ _ z => z⟩
 have ll : Le K φ H (φ1 ++ [D]) H1 := l1.zi0 h0
 have lw : LeW K φ1 H1 (φ1 ++ [D]) H1 := ⟨λ n a h => by
  have := (List.getElem?_eq_some_iff.mp h).1
  rw [List.getElem?_append_left this]; exact h, λ _ _ h => h, λ _ _ _ h => h⟩
 refine h1 _ _ _ ll (S1.zi0 (o := .lst ws) hD nD ⟨ys, hD, r.monoW lw⟩) ⟨D, rfl, ?_⟩
 rw [<- S1.len]; simp
theorem ze4 {q : Eq'} (h : SF X xr e q) : SE X xr e (zb7 q) := PE.imp h zb7.read
theorem zdW (i : Nat) {x : Str} {elt tg iter : Expr} {ifs : List Expr} {gs : List Comprehension} {sc : Scope} {mi : Ei} {tw : Tg} {mf : Ev} {em : Em} {N : List Str} {px spos : Pos} (nl : Nat) (cap : List Nat) (hN : X.N.Nodup)
  (hc : X.calm = true) (S : zbt X sc) (hcap : zeZ X.N N sc nl cap = true) (hw : SI X xr tg iter mi)
  (hin : ∀ s H fp, SG (cpCx X N sc s H fp noxe) tg tw /\ STs (cpCx X N sc s H fp noxe) ifs mf /\ SM (cpCx X N sc s H fp noxe) elt (⟨tg, iter, ifs, 0⟩ :: gs) sc pos 0 em)
  (hi' : X.N[i]? = some x := by rfl) (hx : X.env.scope.names.lookup x = some .local := by rfl)
  (hsw : swapsWith (.ListComp elt (⟨tg, iter, ifs, 0⟩ :: gs) sc pos) (some (.Name x px)) spos.line X.env = pure true := by rfl)
  (ha : ∀ g', gs[0]? = some g' -> g'.is_async = 0 := by intro _ h; cases h <;> rfl)
  (hs : ∀ x, foldedSetIterable iter X.env x = pure x := by intro _; rfl) : SS X xr (.Assign [.Name x px] (.ListComp elt (⟨tg, iter, ifs, 0⟩ :: gs) sc pos) spos) (xSet i (zb7 (zT nl cap mi tw mf em))) :=
 PS.imp (L2.ziU (g := tG X.K tw) (ti := tT X.K xr0 mf) (tm := tE X.K em) hN hi' hx hsw hc S hcap ha hw hin hs) λ D σ H h => zT.read σ H _ (zb7.read σ H _ (xSet.read D σ H h))
inductive MQ (K : Frag) (xr : XR) (mq : Eq') (σ : St) (H : Hp) (Q : VK) : Prop
 | mk (φ : List Addr) (A : Hx) (ρ : En) (S : Sim K φ A H) (re : RE K φ H ρ σ) (h : (mq ρ A).post (λ ws A1 => ∀ φ1 H1 a ys, Le K φ H φ1 H1 -> Sim K φ1 A1 H1 -> (SqL K H1 a ys ∨ SqT K H1 a ys) -> RVs K φ1 H1 ws ys -> Q (.ref a) H1) (EB K φ H xr))
noncomputable def tQ (K : Frag) (xr : XR) (mq : Eq') : TE := λ σ H Q => MQ K xr mq σ H Q
noncomputable def SQ (X : Cx) (xr : XR) (e : Expr) (mq : Eq') : Prop := PE X e (tQ X.K xr mq)
theorem sq_F {q : Eq'} (h : SF X xr e q) : SQ X xr e q := PE.imp h λ σ H Q ⟨φ, A, ρ, S, re, h⟩ =>
 ⟨φ, A, ρ, S, re, zS h (λ ws A1 h1 φ1 H1 D ys l1 S1 h0 hD nD r => h1 φ1 H1 D ys l1 S1 (.inl (SqL.of hD)) r) λ _ _ z => z⟩
noncomputable def zK (w : W) (A : Hx) : Option (List W) := match w with
 | .tup ws => some ws
 | .ref n => match A[n]? with
  | some (.lst ws) => some ws
  | some (.ro ws) => some ws
  | _ => none
 | _ => none
theorem zc9 {K : Frag} {φ : List Addr} {A : Hx} {H : Hp} {w : W} {ws : List W} {v : V} (S : Sim K φ A H) (q : RV K φ H w v) (e : zK w A = some ws) : ∃ a ys, v = .ref a /\ (SqL K H a ys ∨ SqT K H a ys) /\ RVs K φ H ws ys := by
 unfold zK at e
 cases w with
 | tup xs => cases e; obtain ⟨a, ys, e1, e2, e3⟩ := q; exact ⟨a, ys, e1, .inr e2, e3⟩
 | ref n =>
  obtain ⟨a, e1, e2⟩ := q
  dsimp only at e
  cases ea : A[n]? with
  | none => rw [ea] at e; cases e
  | some o =>
   rw [ea] at e
   obtain ⟨a', e3, r⟩ := S.ob n o ea
   rw [e2] at e3; cases e3
   cases o with
   | lst xs => cases e; obtain ⟨ys, h1, h2⟩ := r; exact ⟨a, ys, e1, .inl (SqL.of h1), h2⟩
   | ro xs => cases e; obtain ⟨ys, h1, h2⟩ := r; exact ⟨a, ys, e1, .inl h1.sq, h2⟩
   | dct xs => cases e
   | tab _ _ => cases e
 | non => cases e
 | bl _ => cases e
 | clo _ _ _ => cases e
 | xc _ => cases e
 | int _ => cases e
 | str _ => cases e
noncomputable def mSeq (m : Ev) : Eq' := λ ρ A => (m ρ A).bind λ w A1 => match zK w A1 with
 | some ws => .ok ws A1
 | none => .bad
theorem sq_E (h : SE X xr e m) : SQ X xr e (mSeq m) := PE.imp h λ σ H Q ⟨φ, A, ρ, S, re, h⟩ => by
 refine tM.go S re (zM.mp h) λ w A1 φ1 H1 v h1 l1 S1 q1 => ?_
 cases e : zK w A1 with
 | none => rw [e] at h1; exact h1.elim
 | some ws =>
  rw [e] at h1
  obtain ⟨a, ys, rfl, e2, e3⟩ := zc9 S1 q1 e
  exact h1 φ1 H1 a ys l1 S1 e2 e3
noncomputable def itOf (w : W) (A : Hx) : Option Itx := match zK w A with
 | some ws => some ⟨λ A i => (zK w A).map λ ws => ws[i]?, ws.length⟩
 | none => none
noncomputable def mIt (m : Ev) : Ei := λ ρ A => (m ρ A).bind λ w A1 => match itOf w A1 with
 | some j => .ok j A1
 | none => .bad
noncomputable def iSeq (K : Frag) (tl : TE) : TI := λ σ H Rr => tl σ H λ x H1 => ∃ a, x = .ref a /\ (((∃ xs, SqL K H1 a xs) /\ Rr (Itl K a) H1) ∨ ((∃ xs, SqT K H1 a xs) /\ Rr (Itt K a) H1))
theorem znv {tg l : Expr} {tl : TE} (hl : PE X l tl) : PI X tg l (iSeq X.K tl) := by
 intro pins s σ H Rr I h
 refine thn (hl pins s σ H _ I h) λ v s1 ⟨x, H1, I1, r1, q1⟩ => ?_
 obtain ⟨a, e, q⟩ := q1
 subst e
 cases r1
 have fpo : ∀ b ∈ [s1.heap.objs.size], FpOk X pins H1 b := λ b hb => by
  have e : b = s1.heap.objs.size := by simpa using hb
  subst e
  exact I1.fpOk (Nat.le_refl _) (I1.hok.fresh (Nat.le_refl _))
 rcases q with ⟨⟨xs, hq⟩, q⟩ | ⟨⟨xs, hq⟩, q⟩
 ·obtain ⟨its, rv, p, hz⟩ := I1.list hq
  refine wpAny_pyIter_list p.isList ?_
  exact ⟨s1.heap.objs.size, [s1.heap.objs.size], _, _, H1, rfl, I1.kept (t' := s1.toks) λ b o e => Heap.get?_push_of_some _ e, zjN a _, ⟨_, Heap.get?_push_size _ rfl, rfl, rfl⟩, fpo, q⟩
 ·obtain ⟨its, rv, p, hz⟩ := I1.tuple hq
  refine wpAny_pyIter_tuple (show s1.heap.IsTuple a its.toArray from p) ?_
  exact ⟨s1.heap.objs.size, [s1.heap.objs.size], _, _, H1, rfl, I1.kept (t' := s1.toks) λ b o e => Heap.get?_push_of_some _ e, ziV a _, ⟨_, Heap.get?_push_size _ rfl, rfl, rfl⟩, fpo, q⟩
theorem si_E {tg : Expr} (h : SE X xr e m) : SI X xr tg e (mIt m) := PI.imp (znv h) λ σ H Rr ⟨φ, A, ρ, S, re, h⟩ => by
 refine tM.go S re (zM.mp h) λ w A1 φ1 H1 v h1 l1 S1 q1 => ?_
 unfold itOf at h1
 cases e : zK w A1 with
 | none => rw [e] at h1; exact h1.elim
 | some ws =>
  rw [e] at h1
  dsimp only at h1
  cases w with
  | tup us =>
   obtain ⟨a, ys, rfl, e2, e3⟩ := q1
   refine ⟨a, rfl, .inr ⟨⟨ys, e2⟩, h1 φ1 H1 _ l1 S1 λ i φ' H' A' lw S' => ⟨λ w' ew => ?_, λ ew => ?_⟩⟩⟩
   ·have ew' : us[i]? = some w' := Option.some.inj ew
    obtain ⟨y, h3, h4⟩ := (e3.monoW lw).get ew'
    refine ⟨⟨ys, y, lw.tp _ _ e2, h3⟩, λ x H3 yl => ?_⟩
    obtain ⟨e5, e6⟩ := yl
    subst e5
    have e7 := e6 ys (lw.tp _ _ e2)
    rw [h3] at e7; cases e7
    exact ⟨.refl, S', h4⟩
   ·have ew' : us[i]? = none := Option.some.inj ew
    refine ⟨ys, lw.tp _ _ e2, ?_⟩
    rw [<- e3.length]
    exact List.getElem?_eq_none_iff.mp ew'
  | ref n =>
   obtain ⟨a, rfl, e2⟩ := q1
   have read : ∀ {φ' H' A' us}, LeW X.K φ1 H1 φ' H' -> Sim X.K φ' A' H' -> zK (.ref n) A' = some us -> ∃ ys, SqL X.K H' a ys /\ RVs X.K φ' H' us ys := λ {φ' H' A' us} lw S' es => by
    obtain ⟨a', ys, ea, z, r⟩ := zc9 (w := .ref n) (v := .ref a) S' ⟨a, rfl, lw.ex _ _ e2⟩ es
    cases ea
    unfold zK at es
    dsimp only at es
    cases ec : A'[n]? with
    | none => rw [ec] at es; cases es
    | some o =>
     rw [ec] at es
     obtain ⟨a', e3, r⟩ := S'.ob n o ec
     rw [lw.ex _ _ e2] at e3; cases e3
     cases o with
     | lst xs => cases es; obtain ⟨ys, h1, h2⟩ := r; exact ⟨ys, SqL.of h1, h2⟩
     | ro xs => cases es; obtain ⟨ys, h1, h2⟩ := r; exact ⟨ys, h1.sq, h2⟩
     | dct xs => cases es
     | tab _ _ => cases es
   obtain ⟨ys0, hq0, _⟩ := read ⟨λ _ _ h => h, λ _ _ h => h, λ _ _ _ h => h⟩ S1 e
   refine ⟨a, rfl, .inl ⟨⟨ys0, hq0⟩, h1 φ1 H1 _ l1 S1 λ i φ' H' A' lw S' => ⟨λ w' ew => ?_, λ ew => ?_⟩⟩⟩
   ·dsimp only at ew
    cases es : zK (.ref n) A' with
    | none => rw [es] at ew; cases ew
    | some us =>
     rw [es] at ew
     have ew' : us[i]? = some w' := Option.some.inj ew
     obtain ⟨ys, hq, r⟩ := read lw S' es
     obtain ⟨y, h3, h4⟩ := r.get ew'
     refine ⟨⟨ys, y, hq, h3⟩, λ x H3 yl => ?_⟩
     obtain ⟨e5, e6⟩ := yl
     subst e5
     have e7 := e6 ys hq
     rw [h3] at e7; cases e7
     exact ⟨.refl, S', h4⟩
   ·dsimp only at ew
    cases es : zK (.ref n) A' with
    | none => rw [es] at ew; cases ew
    | some us =>
     rw [es] at ew
     have ew' : us[i]? = none := Option.some.inj ew
     obtain ⟨ys, hq, r⟩ := read lw S' es
     refine ⟨ys, hq, ?_⟩
     rw [<- r.length]
     exact List.getElem?_eq_none_iff.mp ew'
  | non => cases e
  | bl _ => cases e
  | clo _ _ _ => cases e
  | xc _ => cases e
  | int _ => cases e
  | str _ => cases e
noncomputable def zbI (lo : Int) (n : Nat) : Itx := ⟨λ _ i => if i < n then some (some (.int (lo + i))) else some none, n⟩
theorem zlL {K : Frag} {φ : List Addr} {H : Hp} {lo : Int} {n : Nat} : ItR K φ H (zbI lo n) (Itr lo n) := λ i φ' H' A' lw S' => by
 unfold zbI
 dsimp only
 by_cases hi : i < n
 ·rw [if_pos hi]
  refine ⟨λ w e => ?_, λ e => by cases e⟩
  cases e
  exact ⟨hi, λ x H1 ⟨e1, e2⟩ => by subst e1; exact ⟨.refl, S', e2⟩⟩
 ·rw [if_neg hi]
  exact ⟨λ w e => (by cases e), λ _ => Nat.le_of_not_lt hi⟩
noncomputable def zaO (i : Int) : Bool := decide (-(2 ^ 62) <= i) && decide (i < 2 ^ 62)
theorem zdd {i : Int} (h : zaO i = true) : -(2 ^ 62) <= i /\ i < 2 ^ 62 := by
 unfold zaO at h
 rw [Bool.and_eq_true, decide_eq_true_iff, decide_eq_true_iff] at h
 exact h
noncomputable def zbq (m : Ev) : Ei := λ ρ A => (m ρ A).bind λ w A1 => match w with
 | .int j => if zaO j then .ok (zbI 0 j.toNat) A1 else .bad
 | _ => .bad
noncomputable def zi6 (m m' : Ev) : Ei := λ ρ A => (m ρ A).bind λ w A1 => (m' ρ A1).bind λ w' A2 => match w, w' with
 | .int i, .int j => if zaO i && zaO j then .ok (zbI i (j - i).toNat) A2 else .bad
 | _, _ => .bad
theorem zaU {tg : Expr} {p : Pos} (hg : Gl X "range") (hm : X.mg "range" = none) (ha : SE X xr a ma) (hs : starEach [a] X.env = [(false, eval a X.env)] := by rfl) : SI X xr tg (.Call (.Name "range" p) [a] [] pos) (zbq ma) :=
 PI.imp (zjr hg hm (zar ha zbh (by rw [hs]; rfl)) hs) λ σ H Rr ⟨φ, A, ρ, S, re, h⟩ => by
  refine tM.go S re (zM.mp h) λ w A1 φ1 H1 v h1 l1 S1 q1 => ?_
  cases w with
  | int j =>
   obtain rfl := q1
   dsimp only at h1
   by_cases hj : zaO j = true
   ·rw [if_pos hj] at h1
    obtain ⟨b1, b2⟩ := zdd hj
    exact ⟨j, rfl, b1, b2, h1 φ1 H1 _ l1 S1 zlL⟩
   ·rw [if_neg hj] at h1; exact h1.elim
  | non => exact h1.elim
  | bl _ => exact h1.elim
  | str _ => exact h1.elim
  | tup _ => exact h1.elim
  | ref _ => exact h1.elim
  | clo _ _ _ => exact h1.elim
  | xc _ => exact h1.elim
theorem zhW {tg : Expr} {p : Pos} (hg : Gl X "range") (hm : X.mg "range" = none) (ha : SE X xr a ma) (hb : SE X xr b mb) (hs : starEach [a, b] X.env = [(false, eval a X.env), (false, eval b X.env)] := by rfl) (hs2 : starEach [b] X.env = [(false, eval b X.env)] := by rfl) : SI X xr tg (.Call (.Name "range" p) [a, b] [] pos) (zi6 ma mb) :=
 PI.imp (zjJ hg hm (zar ha (zar hb zbh (by rw [hs2]; rfl)) (by rw [hs, hs2])) hs hs2) λ σ H Rr ⟨φ, A, ρ, S, re, h⟩ => by
  refine tM.go S re (zM.mp h) λ w A1 φ1 H1 v h1 l1 S1 q1 => ?_
  refine tM.go S1 (re.mono l1) (zS (zM.mp h1) (λ _ _ z => z) λ _ _ z => z.mono l1) λ w2 A2 φ2 H2 v2 h2 l2 S2 q2 => ?_
  cases w with
  | int i =>
   obtain rfl := q1
   cases w2 with
   | int j =>
    obtain rfl := q2
    dsimp only at h2
    by_cases hj : (zaO i && zaO j) = true
    ·rw [if_pos hj] at h2
     rw [Bool.and_eq_true] at hj
     obtain ⟨b1, b2⟩ := zdd hj.1
     obtain ⟨b3, b4⟩ := zdd hj.2
     exact ⟨i, j, rfl, ⟨b1, b2, b3, b4⟩, h2 φ2 H2 _ (l1.trans l2) S2 zlL⟩
    ·rw [if_neg hj] at h2; exact h2.elim
   | non => exact h2.elim
   | bl _ => exact h2.elim
   | str _ => exact h2.elim
   | tup _ => exact h2.elim
   | ref _ => exact h2.elim
   | clo _ _ _ => exact h2.elim
   | xc _ => exact h2.elim
  | non => exact h2.elim
  | bl _ => exact h2.elim
  | str _ => exact h2.elim
  | tup _ => exact h2.elim
  | ref _ => exact h2.elim
  | clo _ _ _ => exact h2.elim
  | xc _ => exact h2.elim
end
end Mi
namespace Mi
open PySem PySem.Spec PyProof.Rows L2
noncomputable abbrev Fn := List W -> Hx -> R W
noncomputable def zbW (K : Frag) (x : Str) (C : Value) : Prop := PySem.W.nsIn K mainGlobals x = some (some C)
noncomputable def XE (K : Frag) (E : XK) (x : Str) (H : Hp) : Prop := ∀ C d, zbW K x C -> E C d H
inductive spM (K : Frag) (n : Nat) (f : Fn) (vs : List V) (H : Hp) (Q : VK) (E : XK) : Prop
 | mk (len : vs.length = n) (φ : List Addr) (A : Hx) (ws : List W) (S : Sim K φ A H) (r : RVs K φ H ws vs) (q : (f ws A).post (PB K φ H Q) (EB K φ H (XE K E)))
theorem spM.len {K : Frag} {n : Nat} {f : Fn} {vs : List V} {H : Hp} {Q : VK} {E : XK} (h : spM K n f vs H Q E) : vs.length = n := by cases h; assumption
inductive FnM (P : Program) (w : World) (K : Frag) (mg : Str -> Option Value) (base : Heap) (k : Nat) (x : Str) (n : Nat) (f : Fn) : Prop
 | mk (fa : Addr) (fd : FuncData) (ps : List Str) (F : FnOk P w K mg base CX0 k fa fd ps (spM K n f)) (at_ : mg x = some (.ref fa)) (kp : PySem.W.keepIn K (.ref fa) = true) (bi : Binds K fd ps [])
noncomputable def zt (f : Fn) (a : Ea) : Ev := λ ρ A => (a ρ A).bind λ ws A1 => f ws A1
section
variable {X : Cx} {xr : XR} {e a b c : Expr} {es : List Expr} {m ma mb mc : Ev} {m1 m2 : Ex} {pos : Pos}
noncomputable def ALen (m : Ea) (n : Nat) : Prop := ∀ ρ A ws A', m ρ A = .ok ws A' -> ws.length = n
theorem zp : ALen aNil 0 := λ _ _ _ _ h => by unfold aNil at h; cases h; rfl
theorem zj {mr : Ea} {n : Nat} (h : ALen mr n) : ALen (zc ma mr) (n + 1) := λ ρ A ws A' e => by
 unfold zc at e
 cases h1 : ma ρ A with
 | ok x A1 =>
  rw [h1, zr] at e
  cases h2 : mr ρ A1 with
  | ok xs A2 => rw [h2, zr] at e; cases e; simp [h ρ A1 xs _ h2]
  | exc x A2 => rw [h2] at e; cases e
  | bad => rw [h2] at e; cases e
 | exc x A1 => rw [h1] at e; cases e
 | bad => rw [h1] at e; cases e
theorem zX {k n : Nat} {x : Str} {p : Pos} {f : Fn} {mr : Ea} (F : FnM X.prog X.w X.K X.mg X.base k x n f) (hr : Room k X.A) (ha : SA X xr0 (e :: es) mr) (hl : ALen mr n) (hg : Gl X x := by rfl)
  (hdb : (x == ("__debug__" : Str)) = false := by decide) (he : starEach (e :: es) X.env = (false, eval e X.env) :: starEach es X.env := by rfl) (hpl : (backTo pos (starEach es X.env)).any (·.1) = false := by rfl) :
  SE X xr0 (.Call (.Name x p) (e :: es) [] pos) (zt f mr) := by
 obtain ⟨fa, fd, ps, F, hm, hk, hb⟩ := F
 refine PE.imp (zjS F hr hg hm hk hb .nil zpj ha hdb he hpl) λ σ H Q ⟨φ, A, ρ, S, re, h⟩ => ?_
 have h' := zM.mp h
 refine ⟨φ, A, ρ, S, re, ?_⟩
 cases er : mr ρ A with
 | ok ws A1 =>
  rw [er] at h'
  intro φ1 H1 vs l1 S1 q1
  have hv : vs.length = n := by rw [<- q1.length]; exact hl ρ A ws A1 er
  rw [List.append_nil]
  exact ⟨hv, φ1, A1, ws, S1, q1, zS h' (λ _ _ z => z.mono l1) λ x A2 z φ2 H2 l2 S2 => (z φ2 H2 (l1.trans l2) S2).elim⟩
 | exc x A1 => rw [er] at h'; exact h'
 | bad => rw [er] at h'; exact h'
end
noncomputable def runB (n : Nat) (m : Ex) : Fn := λ ws A => (m (ws.map some ++ List.replicate (n - ws.length) none) A).nox.bind λ fl A1 => match fl with
 | .rt w => .ok w A1
 | .nx _ => .ok .non A1
 | _ => .bad
theorem RE.start {K : Frag} {φ : List Addr} {H : Hp} {N : List Str} {ws : List W} {vs : List V} (h : RVs K φ H ws vs) : RE K φ H (ws.map some ++ List.replicate (N.length - ws.length) none) (L2.start N vs) := by
 unfold L2.start
 refine ⟨by simp [h.length], λ i w e => ?_⟩
 by_cases hi : i < ws.length
 ·rw [List.getElem?_append_left (by simpa using hi), List.getElem?_map] at e
  cases hw : ws[i]? with
  | none => rw [hw] at e; cases e
  | some w' =>
   rw [hw] at e; cases e
   obtain ⟨v, h1, h2⟩ := h.get hw
   refine ⟨v, ?_, h2⟩
   rw [List.getElem?_append_left (by rw [List.length_map, <- h.length]; exact hi), List.getElem?_map, h1]; rfl
 ·rw [List.getElem?_append_right (by simpa using hi), List.getElem?_replicate] at e
  split at e <;> cases e
section
variable {P : Program} {w : World} {K : Frag} {mg : Str -> Option Value} {base : Heap}
theorem fnM {x : Str} {st : Stmt} {f : Addr} {fd : FuncData} {N ps : List Str} {k : Nat} {m : Ex} (F : Fun K x x st f fd) (hm : mg x = some (.ref f)) (S : zai N ps (zO st))
  (hb : ∀ (kV doc pm : Value) (an : Option Addr) (cdv ct : Value) (us : List Value), us.length = ps.length -> bindArgs (PySem.W.fnOf x x (zb5 st) (zaG st) (zO st) .none kV doc pm an cdv ct) ⟨us, []⟩ = pure (ps.zip us))
  (hbody : ∀ (cdv : Value) (A : Around) (outer : List Env) (s : Shared) (H : Hp) (E : XK), Room k (A.deeper (envOfC x (zO st) s.heap.objs.size f cdv)) -> SSs (cxOf CX0 P w K mg base N x (zO st) f cdv A outer s H E).nox xr0 (zaG st) m) :
  FnM P w K mg base (k + 1) x ps.length (runB N.length m) := by
 refine ⟨f, fd, ps, ?_, hm, F.kp, F.binds hb⟩
 refine F.ok S (λ vs H Q E h => h.len) λ cdv A outer s H vs Q E hr ⟨hl, φ, A1, ws, Sm, r, h⟩ => ⟨_, hbody cdv A outer s H E hr, ?_⟩
 refine ⟨φ, A1, ws.map some ++ List.replicate (N.length - ws.length) none, Sm, RE.start r, ?_⟩
 have h' := zM.mp h
 show R.post _ (FB K φ H _) _
 cases er : m (ws.map some ++ List.replicate (N.length - ws.length) none) A1 with
 | ok fl A2 =>
  rw [er] at h'
  cases fl with
  | rt w => exact h'
  | nx ρ => exact λ φ' H' σ' l S' _ => h' φ' H' .non l S' rfl
  | bk ρ => exact h'.elim
  | ct ρ => exact h'.elim
 | exc y A2 =>
  rw [er] at h'
  exact h'.elim
 | bad => rw [er] at h'; exact h'.elim
theorem FnM.mono {j k n : Nat} {x : Str} {f : Fn} (F : FnM P w K mg base j x n f) (h : j <= k) : FnM P w K mg base k x n f := by cases F with | mk fa fd ps F a b c => exact ⟨fa, fd, ps, F.mono h, a, b, c⟩
theorem FnM.imp {k n : Nat} {x : Str} {f g : Fn} (F : FnM P w K mg base k x n f) (h : ∀ ws A, ws.length = n -> g ws A = .bad ∨ f ws A = g ws A) : FnM P w K mg base k x n g := by
 obtain ⟨fa, fd, ps, F, a, b, c⟩ := F
 refine ⟨fa, fd, ps, F.imp λ vs H Q E ⟨hl, φ, A, ws, S, r, q⟩ => ⟨hl, φ, A, ws, S, r, ?_⟩, a, b, c⟩
 rcases h ws A (by rw [r.length]; exact hl) with e | e
 ·rw [e] at q; exact q.elim
 ·rw [e]; exact q
end
section
variable {X : Cx} {K : Frag}
theorem zcb {α : Type} {a : α} {A : Hx} : zY (R.ok a A) := λ _ _ h => by cases h
theorem zaN {α : Type} : zY (R.bad : R α) := λ _ _ h => by cases h
theorem zeh {α : Type} {c : Prop} [Decidable c] {a b : R α} (h1 : zY a) (h2 : zY b) : zY (if c then a else b) := by split <;> assumption
noncomputable def gII (f : Int -> Int -> W) : W -> W -> Hx -> R W
 | .int i, .int j, A => .ok (f i j) A
 | _, _, _ => .bad
theorem zhh {f : Int -> Int -> W} : ∀ x y A, zY (gII f x y A) := λ x y A => by
 unfold gII; split
 ·exact zcb
 ·exact zaN
noncomputable def gIC (c : Int -> Int -> Bool) (f : Int -> Int -> W) : W -> W -> Hx -> R W
 | .int i, .int j, A => if c i j then .ok (f i j) A else .bad
 | _, _, _ => .bad
theorem zkW {c : Int -> Int -> Bool} {f : Int -> Int -> W} : ∀ x y A, zY (gIC c f x y A) := λ x y A => by
 unfold gIC; split
 ·exact zeh zcb zaN
 ·exact zaN
theorem zew {f : Int -> Int -> W} {g : Int -> Int -> V} (h : ∀ i j φ H, RV K φ H (f i j) (g i j)) : Op2 K (rI0 g) (gII f) := λ φ A H x y u v Q S q1 q2 p => by
 cases u with
 | int i => cases v with
  | int j => obtain rfl := q1; obtain rfl := q2; exact ⟨i, j, rfl, rfl, p φ H _ .refl S (h i j φ H)⟩
  | _ => exact p.elim
 | _ => exact p.elim
theorem ziH {c : Int -> Int -> Bool} {C : Int -> Int -> Prop} {f : Int -> Int -> W} {g : Int -> Int -> V} (hc : ∀ i j, c i j = true -> C i j) (h : ∀ i j φ H, RV K φ H (f i j) (g i j)) : Op2 K (rI C g) (gIC c f) := λ φ A H x y u v Q S q1 q2 p => by
 cases u with
 | int i => cases v with
  | int j =>
   obtain rfl := q1; obtain rfl := q2
   unfold gIC at p
   dsimp only at p
   by_cases hh : c i j = true
   ·rw [if_pos hh] at p; exact ⟨i, j, rfl, rfl, hc i j hh, p φ H _ .refl S (h i j φ H)⟩
   ·rw [if_neg hh] at p; exact p.elim
  | _ => exact p.elim
 | _ => exact p.elim
noncomputable def cMul (i j : Int) : Bool := (decide (-(2 ^ 64) < i) && decide (i < 2 ^ 64)) || (decide (-(2 ^ 64) < j) && decide (j < 2 ^ 64))
noncomputable def cDiv (_ j : Int) : Bool := decide (0 < j) && decide (j < 1073741824)
noncomputable def cMod (_ j : Int) : Bool := decide (0 < j)
theorem zm6 (i j : Int) (h : cMul i j = true) : CMul i j := by
 unfold cMul at h
 simp only [Bool.or_eq_true, Bool.and_eq_true, decide_eq_true_eq] at h
 exact h
theorem zmK (i j : Int) (h : cDiv i j = true) : CDiv i j := by
 unfold cDiv at h
 simp only [Bool.and_eq_true, decide_eq_true_eq] at h
 exact h
theorem zma (i j : Int) (h : cMod i j = true) : (λ _ j => 0 < j) i j := by
 unfold cMod at h
 simpa using h
noncomputable def gSub := gII λ i j => .int (i - j)
noncomputable def gDiv := gIC cDiv λ i j => .int (i / j)
noncomputable def zbU := gIC cMod λ i j => .int (i % j)
noncomputable def gXor := gII λ i j => .int (Builtin.bitXor i j)
noncomputable def gLt := gII λ i j => .bl (decide (i < j))
noncomputable def gLe := gII λ i j => .bl (decide (i <= j))
noncomputable def gGt := gII λ i j => .bl (decide (j < i))
noncomputable def gGe := gII λ i j => .bl (decide (j <= i))
noncomputable def cPow (i j : Int) : Bool := decide (0 <= j) && decide (j <= 1000000) && decide (i.natAbs < 2 ^ 64)
theorem zj7 (i j : Int) (h : cPow i j = true) : CPow i j := by
 unfold cPow at h
 simp only [Bool.and_eq_true, decide_eq_true_eq] at h
 exact ⟨h.1.1, h.1.2, h.2⟩
noncomputable def gPow := gIC cPow λ i j => .int (i ^ j.toNat)
variable {xr : XR} {a b c : Expr} {ma mb mc : Ev} {pos : Pos}
theorem zep (ha : SE X xr a ma) (hb : SE X xr b mb) : SE X xr (.BinOp a .Sub b pos) (mBin gSub ma mb) := zdT zoT zhh (zew λ _ _ _ _ => rfl) ha hb
theorem zef (ha : SE X xr a ma) (hb : SE X xr b mb) : SE X xr (.BinOp a .FloorDiv b pos) (mBin gDiv ma mb) := zdT zmM zkW (ziH zmK λ _ _ _ _ => rfl) ha hb
theorem zbX (ha : SE X xr a ma) (hb : SE X xr b mb) : SE X xr (.BinOp a .Mod b pos) (mBin zbU ma mb) := zdT zoI zkW (ziH zma λ _ _ _ _ => rfl) ha hb
theorem zj3 (ha : SE X xr a ma) (hb : SE X xr b mb) : SE X xr (.BinOp a .BitXor b pos) (mBin gXor ma mb) := zdT zoA zhh (zew λ _ _ _ _ => rfl) ha hb
theorem zil (ha : SE X xr a ma) (hb : SE X xr b mb) : SE X xr (.BinOp a .Pow b pos) (mBin gPow ma mb) := zdT znL zkW (ziH zj7 λ _ _ _ _ => rfl) ha hb
structure zch (X : Cx) (op : CmpOp) (g : W -> W -> Hx -> R W) : Prop where
 ex : ∃ r : R2, OpR X (compareOp op) r /\ (∀ x y A, zY (g x y A)) /\ Op2 X.K r g
 mks : ∀ b, op ≠ .In -> op ≠ .NotIn -> behindInMarks op b = false
theorem zeX {op : CmpOp} {r : R2} {g : W -> W -> Hx -> R W} (h1 : OpR X (compareOp op) r) (h2 : ∀ x y A, zY (g x y A)) (h3 : Op2 X.K r g) : zch X op g := ⟨⟨r, h1, h2, h3⟩, λ b a1 a2 => zkt b a1 a2⟩
theorem c_lt : zch X .Lt gLt := zeX zpu zhh (zew λ _ _ _ _ => rfl)
theorem c_le : zch X .LtE gLe := zeX zpP zhh (zew λ _ _ _ _ => rfl)
theorem c_gt : zch X .Gt gGt := zeX zpl zhh (zew λ _ _ _ _ => rfl)
theorem c_ge : zch X .GtE gGe := zeX zpc zhh (zew λ _ _ _ _ => rfl)
theorem se_c {op : CmpOp} {g : W -> W -> Hx -> R W} (h : zch X op g) (ha : SE X xr a ma) (hb : SE X xr b mb) (h1 : op ≠ .In := by decide) (h2 : op ≠ .NotIn := by decide) : SE X xr (.Compare a [op] [b] pos) (mBin g ma mb) :=
 let ⟨r, a1, a2, a3⟩ := h.ex; zlP a1 a2 a3 ha hb (h.mks b h1 h2)
theorem st_c {op : CmpOp} {g : W -> W -> Hx -> R W} (h : zch X op g) (ha : SE X xr a ma) (hb : SE X xr b mb) (h1 : op ≠ .In := by decide) (h2 : op ≠ .NotIn := by decide) : ST X xr (.Compare a [op] [b] pos) (mBin g ma mb) :=
 let ⟨r, a1, a2, a3⟩ := h.ex; znD a1 a2 a3 ha hb (h.mks b h1 h2)
theorem zmu {op op' : CmpOp} {g g' : W -> W -> Hx -> R W} (h : zch X op g) (h' : zch X op' g') (ha : SE X xr a ma) (hb : SE X xr b mb) (hc : SE X xr c mc) (hm : lastMarks [op, op'] [b, c] = false := by with_unfolding_all rfl) :
  SE X xr (.Compare a [op, op'] [b, c] pos) (zbG g g' ma mb mc) := let ⟨r, a1, a2, a3⟩ := h.ex; let ⟨r', b1, b2, b3⟩ := h'.ex; zkG a1 a2 a3 b1 b2 b3 ha hb hc hm
theorem zmB {op op' : CmpOp} {g g' : W -> W -> Hx -> R W} (h : zch X op g) (h' : zch X op' g') (ha : SE X xr a ma) (hb : SE X xr b mb) (hc : SE X xr c mc) (hm : lastMarks [op, op'] [b, c] = false := by with_unfolding_all rfl) :
  ST X xr (.Compare a [op, op'] [b, c] pos) (zbG g g' ma mb mc) := let ⟨r, a1, a2, a3⟩ := h.ex; let ⟨r', b1, b2, b3⟩ := h'.ex; zk1 a1 a2 a3 b1 b2 b3 ha hb hc hm
end
end Mi
namespace Mi
open PySem PySem.Spec PyProof.Rows L2
inductive Ty where
 | non | bl | int | str | tup | lst | dct
 deriving DecidableEq
noncomputable def Ty.nm : Ty -> String
 | .non => "NoneType" | .bl => "bool" | .int => "int" | .str => "str" | .tup => "tuple" | .lst => "list" | .dct => "dict"
noncomputable def tyW (w : W) (A : Hx) : Option Ty := match w with
 | .non => some .non
 | .bl _ => some .bl
 | .int _ => some .int
 | .str _ => some .str
 | .tup _ => some .tup
 | .ref n => match A[n]? with
  | some (.lst _) => some .lst
  | some (.dct _) => some .dct
  | _ => none
 | _ => none
noncomputable def subT (a b : Ty) : Bool := a == b || (a == .bl && b == .int)
theorem zf7 {K : Frag} (a b : Ty) : PySem.W.kitOne K (.type a.nm) (.type b.nm) = some (subT a b) := by
 cases a <;> cases b <;> rfl
section
variable {X : Cx} {xr : XR} {K : Frag} {e a b c : Expr} {es : List Expr} {m ma mb mc : Ev} {pos : Pos}
noncomputable def TyR (K : Frag) (H : Hp) (x : V) (t : Ty) : Prop := TyOf K H x (.type t.nm) ∨ ∃ a xs, x = .ref a /\ SqT K H a xs /\ t = .tup
theorem zis {φ : List Addr} {A : Hx} {H : Hp} {w : W} {v : V} {t : Ty} (S : Sim K φ A H) (q : RV K φ H w v) (e : tyW w A = some t) : TyR K H v t := by
 cases w with
 | non => cases e; obtain rfl := q; exact .inl .non
 | bl k => cases e; obtain rfl := q; exact .inl (.bl k)
 | clo _ _ _ => cases e
 | xc _ => cases e
 | int k => cases e; obtain rfl := q; exact .inl (.int k)
 | str k => cases e; obtain rfl := q; exact .inl (.str k)
 | tup ws => cases e; obtain ⟨a, vs, rfl, h, _⟩ := q; exact .inr ⟨a, vs, rfl, h, rfl⟩
 | ref n =>
  obtain ⟨a, rfl, h1⟩ := q
  unfold tyW at e
  dsimp only at e
  cases eo : A[n]? with
  | none => rw [eo] at e; cases e
  | some o =>
   rw [eo] at e
   obtain ⟨a', h2, r⟩ := S.ob n o eo
   rw [h1] at h2; cases h2
   cases o with
   | lst ws => cases e; obtain ⟨vs, z, _⟩ := r; exact .inl (.lst z)
   | dct ws => cases e; obtain ⟨vs, z, _⟩ := r; exact .inl (.dK z)
   | tab _ _ => cases e
   | ro ws => cases e
theorem TyR.kit {pins : List (Addr × Obj)} {σ : St} {H : Hp} {s : Shared} {x : V} {u : Value} {t : Ty} (I : Inv X pins σ H s) (r : RelV x u) (h : TyR X.K H x t) :
  (∀ {Q : Value -> Shared -> Prop} {E : Value -> Shared -> Prop} {A : Around} {c : Ty}, (∀ tk, Q (.bool (subT t c)) { s with toks := tk }) -> wpAny (model X.prog X.w) A (call (.builtin "isinstance") [u, .type c.nm]) Q E s) := by
 intro Q E A c hq
 rcases h with h | ⟨a, xs, rfl, h, rfl⟩
 ·exact zho I r h (zf7 t c) hq
 ·cases (show u = Value.ref a from r)
  obtain ⟨its, _, ⟨o, h1, h2, _⟩, _⟩ := I.tuple h
  exact PySem.W.kia_one PySem.W.kitx_tuple I.kIn ⟨o, h1, h2⟩ (zf7 .tup c) (λ z => nomatch z) hq
noncomputable def rIs (K : Frag) : List V -> Hp -> VK -> Prop := λ xs H Q => ∃ x t c, xs = [x, .ty (Ty.nm c)] /\ TyR K H x t /\ Q (.bl (subT t c)) H
theorem zmX : zcV X (.builtin "isinstance") (rIs X.K) := by
 intro pins s σ H xs us Q I r h
 obtain ⟨x, t, c, rfl, ht, q⟩ := h
 obtain ⟨u, u', rfl, ru, ru'⟩ := vals2 r
 cases (show u' = Value.type c.nm from ru')
 exact ht.kit I ru λ tk => ⟨.bl (subT t c), H, I.tok tk, rfl, q⟩
noncomputable def mIs (t : Ty) (m : Ev) : Ev := λ ρ A => (m ρ A).bind λ w A1 => match tyW w A1 with
 | some t' => .ok (.bl (subT t' t)) A1
 | none => .bad
theorem zex (t : Ty) {x : Str} {p p' : Pos} (hm : X.mg "isinstance" = none) (hm' : X.mg x = none) (hx : bootBuiltins x = some (.type t.nm)) (ha : SE X xr e m) (hg : Gl X "isinstance" := by rfl) (hg' : Gl X x := by rfl)
  (hn : x ≠ "__name__" := by decide) (hd : (x == ("__debug__" : Str)) = false := by decide)
  (h1 : starEach [e, .Name x p'] X.env = (false, eval e X.env) :: starEach [.Name x p'] X.env := by rfl) (h2 : (backTo pos (starEach [.Name x p'] X.env)).any (·.1) = false := by rfl) :
  SE X xr (.Call (.Name "isinstance" p) [e, .Name x p'] [] pos) (mIs t m) :=
 PE.imp (zcD zmX hg hm (by rfl) (zar ha (zar (zf4 hg' hm' hx (v := .ty t.nm) rfl hn hd) zbh) h1) (by decide) (by decide) h1 h2) λ σ H Q ⟨φ, A, ρ, S, re, h⟩ => by
  refine tM.go S re (zM.mp h) λ w A1 φ1 H1 v h1 l1 S1 q1 => ?_
  cases et : tyW w A1 with
  | none => rw [et] at h1; exact h1.elim
  | some t' =>
   rw [et] at h1
   exact ⟨v, t', t, rfl, zis S1 q1 et, h1 φ1 H1 _ l1 S1 rfl⟩
noncomputable def gIx : W -> W -> Hx -> R W := λ x y A => match zK x A, y with
 | some ws, .int i => match atI ws i with
  | some w => .ok w A
  | none => .bad
 | _, _ => .bad
theorem zpK : ∀ x y A, zY (gIx x y A) := λ x y A => by
 unfold gIx; split
 ·split
  ·exact zcb
  ·exact zaN
 ·exact zaN
theorem zkC {φ : List Addr} {H : Hp} {ws : List W} {ys : List V} {i : Int} {w : W} (r : RVs K φ H ws ys) (e : atI ws i = some w) : ∃ y, atI ys i = some y /\ RV K φ H w y := by
 unfold atI at e ⊢
 rw [<- r.length]
 cases h : ixN ws.length i with
 | none => rw [h] at e; cases e
 | some j =>
  rw [h] at e
  obtain ⟨y, h1, h2⟩ := r.get (i := j) e
  exact ⟨y, h1, h2⟩
theorem zo2 : Op2 K (rIx K) gIx := λ φ A H x y u v Q S q1 q2 p => by
 unfold gIx at p
 cases es : zK u A with
 | none => rw [es] at p; exact p.elim
 | some ws =>
  rw [es] at p
  cases v with
  | int i =>
   obtain rfl := q2
   dsimp only at p
   cases ei : atI ws i with
   | none => rw [ei] at p; exact p.elim
   | some w =>
    rw [ei] at p
    obtain ⟨a, ys, rfl, z, r⟩ := zc9 S q1 es
    obtain ⟨y', h1, h2⟩ := zkC r ei
    rcases z with z | z
    ·exact .inl ⟨a, ys, i, y', rfl, rfl, z, h1, p φ H _ .refl S h2⟩
    ·exact .inr (.inl ⟨a, ys, i, y', rfl, rfl, z, h1, p φ H _ .refl S h2⟩)
  | non => exact p.elim
  | bl _ => exact p.elim
  | str _ => exact p.elim
  | tup _ => exact p.elim
  | ref _ => exact p.elim
  | clo _ _ _ => exact p.elim
  | xc _ => exact p.elim
theorem za7 (ha : SE X xr a ma) (hb : SE X xr b mb) (hs : zhE b := by intro _ _; rfl) : SE X xr (.Subscript a b pos) (mBin gIx ma mb) := PE.imp (zpk zoe ha hb hs) (mBin.read zpK zo2)
noncomputable def OpQ (K : Frag) (r : List V -> Hp -> VK -> Prop) (g : List W -> Hx -> R W) : Prop := ∀ φ A H a ys ws Q, Sim K φ A H -> (SqL K H a ys ∨ SqT K H a ys) -> RVs K φ H ws ys -> (g ws A).post (PB K φ H Q) noX -> r [.ref a] H Q
noncomputable def mQ (g : List W -> Hx -> R W) (q : Eq') : Ev := λ ρ A => (q ρ A).bind λ ws A1 => g ws A1
theorem mQ.read {r : List V -> Hp -> VK -> Prop} {g : List W -> Hx -> R W} {q : Eq'} (hn : ∀ ws A, zY (g ws A)) (hq : OpQ X.K r g) : ∀ σ H Q, tM X.K xr (mQ g q) σ H Q -> tCB r (zkU (tQ X.K xr q) tNil) σ H Q := by
 rintro σ H Q ⟨φ, A, ρ, S, re, h⟩
 refine ⟨φ, A, ρ, S, re, zS (zM.mp h) (λ ws A1 h1 φ1 H1 a ys l1 S1 z r => ?_) λ _ _ z => z⟩
 exact hq φ1 A1 H1 a ys ws Q S1 z r (zS (zdb (hn _ _) h1) (λ _ _ z => z.mono l1) λ _ _ z => z)
theorem zm3 {id : String} {x : Str} {p : Pos} {r : List V -> Hp -> VK -> Prop} {g : List W -> Hx -> R W} {q : Eq'} (hc : zcV X (.builtin id) r) (hn : ∀ ws A, zY (g ws A)) (hq : OpQ X.K r g) (hm : X.mg x = none) (hv : bootBuiltins x = some (.builtin id)) (ha : SQ X xr e q) (hg : Gl X x := by rfl)
  (hn' : x ≠ "__name__" := by decide) (hdb : (x == ("__debug__" : Str)) = false := by decide) (he : starEach [e] X.env = (false, eval e X.env) :: starEach [] X.env := by rfl) (hpl : (backTo pos (starEach [] X.env)).any (·.1) = false := by rfl) :
  SE X xr (.Call (.Name x p) [e] [] pos) (mQ g q) := PE.imp (zcD hc hg hm hv (zar ha zbh he) hn' hdb he hpl) (mQ.read hn hq)
theorem zpi {id : String} {x : Str} {p : Pos} {r : List V -> Hp -> VK -> Prop} {g : List W -> Hx -> R W} {q : Eq'} (hc : zcV X (.type id) r) (hn : ∀ ws A, zY (g ws A)) (hq : OpQ X.K r g) (hm : X.mg x = none) (hv : bootBuiltins x = some (.type id)) (ha : SQ X xr e q) (hg : Gl X x := by rfl)
  (hn' : x ≠ "__name__" := by decide) (hdb : (x == ("__debug__" : Str)) = false := by decide) (he : starEach [e] X.env = (false, eval e X.env) :: starEach [] X.env := by rfl) (hpl : (backTo pos (starEach [] X.env)).any (·.1) = false := by rfl) :
  SE X xr (.Call (.Name x p) [e] [] pos) (mQ g q) := PE.imp (zg3 hc hg hm hv (zar ha zbh he) hn' hdb he hpl) (mQ.read hn hq)
noncomputable def gLen : List W -> Hx -> R W := λ ws A => .ok (.int ws.length) A
theorem zmv : OpQ K (λ xs H Q => ∃ p ys, xs = [.ref p] /\ (SqL K H p ys ∨ SqT K H p ys) /\ Q (.int ys.length) H) gLen := λ φ A H a ys ws Q S z r p =>
 ⟨a, ys, rfl, z, by rw [<- r.length]; exact p φ H _ .refl S rfl⟩
theorem zaI {p : Pos} {q : Eq'} (hm : X.mg "len" = none) (ha : SQ X xr e q) (hg : Gl X "len" := by rfl) (he : starEach [e] X.env = (false, eval e X.env) :: starEach [] X.env := by rfl) :
  SE X xr (.Call (.Name "len" p) [e] [] pos) (mQ gLen q) := zm3 zgT (λ _ _ => zcb) zmv hm (by rfl) ha hg (by decide) (by decide) he (by rfl)
noncomputable def gTup : List W -> Hx -> R W := λ ws A => .ok (.tup ws) A
theorem zl4 : OpQ K (λ xs H Q => ∃ p ys, xs = [.ref p] /\ ((SqL K H p ys /\ ∀ l, H l = none -> Q (.ref l) (upd H l (.tup ys))) ∨ (SqT K H p ys /\ Q (.ref p) H))) gTup := λ φ A H a ys ws Q S z r p => by
 refine ⟨a, ys, rfl, ?_⟩
 rcases z with z | z
 ·refine .inl ⟨z, λ l hl => ?_⟩
  obtain ⟨a1, a2, a3⟩ := zfx S hl r
  exact p _ _ _ a1 a2 a3
 ·exact .inr ⟨z, p φ H _ .refl S ⟨a, ys, rfl, z, r⟩⟩
theorem zaJ {p : Pos} {q : Eq'} (hm : X.mg "tuple" = none) (ha : SQ X xr e q) (hg : Gl X "tuple" := by rfl) (he : starEach [e] X.env = (false, eval e X.env) :: starEach [] X.env := by rfl) :
  SE X xr (.Call (.Name "tuple" p) [e] [] pos) (mQ gTup q) := zpi zgx (λ _ _ => zcb) zl4 hm (by rfl) ha hg (by decide) (by decide) he (by rfl)
end
end Mi
namespace Mi
open PySem PySem.Spec PyProof.Rows L2
section
variable {X : Cx} {xr : XR} {K : Frag} {e a b c : Expr} {es : List Expr} {m ma mb mc : Ev} {pos : Pos}
theorem zii {pins : List (Addr × Obj)} {σ : St} {H : Hp} {s : Shared} {a : Addr} {ys : List V} (I : Inv X pins σ H s) (hc : X.calm = true) (z : SqL X.K H a ys ∨ SqT X.K H a ys) {E : Value -> Shared -> Prop} {Q : Value -> Shared -> Prop}
  (h : ∀ (its : List Value) (I' : Addr) (fp wr : List Addr) (St' : Nat -> Heap -> Prop) (s2 : Shared), Vals ys its -> ys.length <= sizeLine -> Walks X.prog X.w X.A.in1 I' fp wr its.length (λ i v => its[i]? = some v) St' -> St' 0 s2.heap -> (∀ b ∈ fp, b < s2.heap.objs.size) ->
   (∀ (h' : Heap) (tk : Nat), (∀ b o, b ∉ wr -> s2.heap.get? b = some o -> h'.get? b = some o) -> Inv X pins σ H { s2 with heap := h', toks := tk }) -> Q (.ref I') s2) :
  wpAny (model X.prog X.w) X.A.in1 (pyIter (.ref a)) Q E s := by
 have hh : X.A.in1.handled = none := I.ok.hd hc
 have keep : ∀ (o : Obj) (h' : Heap) (tk : Nat), (∀ b u, b ∉ [s.heap.objs.size] -> (s.heap.push o).get? b = some u -> h'.get? b = some u) -> Inv X pins σ H { s with heap := h', toks := tk } := λ o h' tk k => I.kept λ b u e => k b u (by
  intro hm
  have e1 : b = s.heap.objs.size := by simpa using hm
  exact absurd (e1 ▸ Heap.lt_size e) (Nat.lt_irrefl _)) (Heap.get?_push_of_some _ e)
 rcases z with z | z
 ·obtain ⟨its, rv, p, hz⟩ := I.list z
  have hlt : a < s.heap.objs.size := by obtain ⟨o, n, e, _⟩ := p; exact Heap.lt_size e
  refine wpAny_pyIter_list p.isList ?_
  have W := Walks.list (prog := X.prog) (w := X.w) hh s.heap.objs.size a (Nat.ne_of_lt hlt) its.toArray
  rw [List.size_toArray] at W
  simp only [List.getElem?_toArray] at W
  refine h its s.heap.objs.size _ _ _ _ rv hz W ⟨⟨_, Heap.get?_push_size _ rfl, rfl, rfl⟩, p.isList.at λ o e => Heap.get?_push_of_some _ e⟩ (λ b hb => ?_) λ h' tk k => keep _ h' tk k
  show b < (s.heap.push _).objs.size
  rw [Heap.size_push]
  rcases List.mem_cons.mp hb with e | hb
  ·rw [e]; exact Nat.lt_succ_self _
  ·have e : b = a := by simpa using hb
   rw [e]; exact Nat.lt_succ_of_lt hlt
 ·obtain ⟨its, rv, p, hz⟩ := I.tuple z
  have hlt : a < s.heap.objs.size := p.lt
  have p' : s.heap.IsTuple a its.toArray := p
  refine wpAny_pyIter_tuple p' ?_
  have W := Walks.tuple (prog := X.prog) (w := X.w) hh s.heap.objs.size a (Nat.ne_of_lt hlt) its.toArray
  rw [List.size_toArray] at W
  simp only [List.getElem?_toArray] at W
  refine h its s.heap.objs.size _ _ _ _ rv hz W ⟨⟨_, Heap.get?_push_size _ rfl, rfl, rfl⟩, p'.at λ o e => Heap.get?_push_of_some _ e⟩ (λ b hb => ?_) λ h' tk k => keep _ h' tk k
  show b < (s.heap.push _).objs.size
  rw [Heap.size_push]
  rcases List.mem_cons.mp hb with e | hb
  ·rw [e]; exact Nat.lt_succ_self _
  ·have e : b = a := by simpa using hb
   rw [e]; exact Nat.lt_succ_of_lt hlt
noncomputable def truV : V -> Option Bool
 | .bl b => some b
 | .int i => some (i != 0)
 | .non => some false
 | _ => none
noncomputable def truW : W -> Option Bool
 | .bl b => some b
 | .int i => some (i != 0)
 | .non => some false
 | _ => none
theorem zkH {φ : List Addr} {H : Hp} {w : W} {v : V} {k : Bool} (q : RV K φ H w v) (e : truW w = some k) : truV v = some k := by
 cases w <;> first
  | (cases e; done)
  | (obtain rfl := q; exact e)
theorem zjG {A : Around} {v : V} {u : Value} {k : Bool} {s : Shared} {Q : Bool -> Shared -> Prop} {E : Value -> Shared -> Prop} (r : RelV v u) (e : truV v = some k) (h : Q k s) : wpAny (model X.prog X.w) A (truthy u) Q E s := by
 cases v with
 | bl b => cases e; cases r; exact wpAny_truthy_bool h
 | int i =>
  cases e
  obtain ⟨t, rfl⟩ := r
  exact PySem.P.truthy_int h
 | non => cases e; cases r; exact λ _ _ _ => h
 | _ => cases e
noncomputable def zcQ : List W -> Option (List Bool)
 | [] => some []
 | w :: ws => match truW w, zcQ ws with
  | some k, some ks => some (k :: ks)
  | _, _ => none
theorem ze2 {φ : List Addr} {H : Hp} : ∀ {ws : List W} {ys : List V} {ks : List Bool}, RVs K φ H ws ys -> zcQ ws = some ks -> ∀ (i : Nat) (y : V), ys[i]? = some y -> ∃ k, ks[i]? = some k /\ truV y = some k
 | [], _, _, r, e, i, y, h => by cases r; simp at h
 | w :: ws, _, ks, ⟨v, r, e1, q, t⟩, e, i, y, h => by
  subst e1
  unfold zcQ at e
  cases e2 : truW w with
  | none => rw [e2] at e; cases e
  | some k =>
   cases e3 : zcQ ws with
   | none => rw [e2, e3] at e; cases e
   | some ks' =>
    rw [e2, e3] at e
    cases e
    cases i with
    | zero => simp at h; subst h; exact ⟨k, by simp, zkH q e2⟩
    | succ i => simp at h; obtain ⟨k', h1, h2⟩ := ze2 t e3 i y h; exact ⟨k', by simpa using h1, h2⟩
theorem zfI : ∀ {ws : List W} {ks : List Bool}, zcQ ws = some ks -> ks.length = ws.length
 | [], _, e => by cases e; rfl
 | w :: ws, ks, e => by
  unfold zcQ at e
  cases e2 : truW w with
  | none => rw [e2] at e; cases e
  | some k =>
   cases e3 : zcQ ws with
   | none => rw [e2, e3] at e; cases e
   | some ks' => rw [e2, e3] at e; cases e; simp [zfI e3]
theorem range_all (ks : List Bool) : (List.range ks.length).all (λ i => ks.getD i false) = ks.all id := by
 rw [Bool.eq_iff_iff, List.all_eq_true, List.all_eq_true]
 constructor
 ·intro h x hx
  obtain ⟨i, hi, rfl⟩ := List.getElem_of_mem hx
  have := h i (List.mem_range.mpr hi)
  rw [List.getD_eq_getElem?_getD, List.getElem?_eq_getElem hi] at this
  exact this
 ·intro h i hi
  have hi' := List.mem_range.mp hi
  rw [List.getD_eq_getElem?_getD, List.getElem?_eq_getElem hi']
  exact h _ (List.getElem_mem hi')
noncomputable def rTru (K : Frag) (f : List Bool -> Bool) : List V -> Hp -> VK -> Prop := λ xs H Q => ∃ a ys ks, xs = [.ref a] /\ (SqL K H a ys ∨ SqT K H a ys) /\ ks.length = ys.length /\ (∀ (i : Nat) (y : V), ys[i]? = some y -> ∃ k, ks[i]? = some k /\ truV y = some k) /\ Q (.bl (f ks)) H
theorem zkL {ys : List V} {its : List Value} {ks : List Bool} {A : Around} (rv : Vals ys its) (hl : ks.length = ys.length) (ht : ∀ (i : Nat) (y : V), ys[i]? = some y -> ∃ k, ks[i]? = some k /\ truV y = some k) : TruthOf X.prog X.w A (λ i v => its[i]? = some v) λ i => ks.getD i false := by
 intro i v s Q E hP hQ
 have hi : i < its.length := (List.getElem?_eq_some_iff.mp hP).1
 have hi' : i < ys.length := by rw [rv.length]; exact hi
 obtain ⟨u, h1, h2⟩ := rv.get (i := i) (x := ys[i]) (by simp [hi'])
 rw [hP] at h1; cases h1
 obtain ⟨k, h3, h4⟩ := ht i ys[i] (by simp [hi'])
 dsimp only at hQ
 rw [List.getD_eq_getElem?_getD, h3] at hQ
 exact zjG h2 h4 hQ
theorem zlb (hc : X.calm = true) : zcV X (.builtin "all") (rTru X.K λ ks => ks.all id) := by
 intro pins s σ H xs us Q I r h
 obtain ⟨a, ys, ks, rfl, z, hl, ht, q⟩ := h
 obtain ⟨u, rfl, ru⟩ := vals1 r
 cases ru
 refine call_all_walk (zii I hc z λ its I' fp wr St' s2 rv hz W st hfp back => ?_)
 refine ⟨I', fp, wr, _, _, St', λ i => ks.getD i false, rfl, W, st, zkL rv hl ht, λ h' tk k => ?_⟩
 have e : its.length = ks.length := by rw [hl, rv.length]
 rw [e, range_all]
 exact ⟨.bl _, H, back h' tk k, rfl, q⟩
noncomputable def gTru (f : List Bool -> Bool) : List W -> Hx -> R W := λ ws A => match zcQ ws with
 | some ks => .ok (.bl (f ks)) A
 | none => .bad
theorem zo4 {f : List Bool -> Bool} : ∀ ws A, zY (gTru f ws A) := λ ws A => by
 unfold gTru; split
 ·exact zcb
 ·exact zaN
theorem zmj {f : List Bool -> Bool} : OpQ K (rTru K f) (gTru f) := λ φ A H a ys ws Q S z r p => by
 unfold gTru at p
 cases e : zcQ ws with
 | none => rw [e] at p; exact p.elim
 | some ks =>
  rw [e] at p
  exact ⟨a, ys, ks, rfl, z, by rw [zfI e, r.length], ze2 r e, p φ H _ .refl S rfl⟩
noncomputable abbrev gAll := gTru λ ks => ks.all id
theorem zfg {p : Pos} {q : Eq'} (hc : X.calm = true) (hm : X.mg "all" = none) (ha : SQ X xr e q) (hg : Gl X "all" := by rfl) (he : starEach [e] X.env = (false, eval e X.env) :: starEach [] X.env := by rfl) :
  SE X xr (.Call (.Name "all" p) [e] [] pos) (mQ gAll q) := zm3 (zlb hc) zo4 zmj hm (by rfl) ha hg (by decide) (by decide) he (by rfl)
theorem znQ : OpR X (compareOp .Is) (λ x y H Q => ∃ i j, x = .bl i /\ y = .bl j /\ Q (.bl (i == j)) H) := by
 intro pins s σ H x y v u Q I rx ry h
 obtain ⟨i, j, rfl, rfl, q⟩ := h
 cases rx; cases ry
 exact is_bool ⟨.bl _, H, I, rfl, q⟩
noncomputable def ziS : W -> Bool
 | .non => true
 | _ => false
theorem zi5 {φ : List Addr} {H : Hp} {w : W} {v : V} (q : RV K φ H w v) : decide (v = .non) = ziS w := by
 cases w with
 | non => obtain rfl := q; rfl
 | bl b => obtain rfl := q; rfl
 | clo _ _ _ => obtain ⟨a, _, _, _, _, _, _, rfl, _⟩ := q; rfl
 | xc _ => obtain ⟨a, _, _, _, rfl, _⟩ := q; rfl
 | int b => obtain rfl := q; rfl
 | str b => obtain rfl := q; rfl
 | tup ws => obtain ⟨a, vs, rfl, _⟩ := q; rfl
 | ref n => obtain ⟨a, rfl, _⟩ := q; rfl
noncomputable def gIs (neg : Bool) : W -> W -> Hx -> R W := λ x y A => match x, y with
 | .bl i, .bl j => .ok (.bl (if neg then !(i == j) else i == j)) A
 | w, .non => .ok (.bl (if neg then !ziS w else ziS w)) A
 | _, _ => .bad
theorem znq {n : Bool} : ∀ x y A, zY (gIs n x y A) := λ x y A => by
 unfold gIs; split
 ·exact zcb
 ·exact zcb
 ·exact zaN
theorem zoU : Op2 K (λ x y H Q => (y = .non /\ Q (.bl (decide (x = .non))) H) ∨ ∃ i j, x = .bl i /\ y = .bl j /\ Q (.bl (i == j)) H) (gIs false) := λ φ A H x y u v Q S q1 q2 p => by
 cases v with
 | non =>
  have q2' : y = .non := q2
  refine .inl ⟨q2', ?_⟩
  rw [zi5 q1]
  cases u <;> exact p φ H _ .refl S rfl
 | bl j =>
  cases u with
  | bl i => obtain rfl := q1; obtain rfl := q2; exact .inr ⟨i, j, rfl, rfl, p φ H _ .refl S rfl⟩
  | _ => exact p.elim
 | _ => cases u <;> exact p.elim
theorem c_is : zch X .Is (gIs false) := zeX (zok.or znQ) znq zoU
end
end Mi
namespace Mi
open PySem PySem.Spec PyProof.Rows L2
noncomputable def cpsB (outer sc : Scope) : Bool := sc.kind == .function && decide ((sc.names.map (·.1)).Nodup) && sc.names.all λ y => y.2 != .free || (outer.names.lookup y.1 == some .cell || outer.names.lookup y.1 == some .free)
theorem cps {X : Cx} {sc : Scope} (h : cpsB X.env.scope sc = true) : zbt X sc := by
 unfold cpsB at h
 rw [Bool.and_eq_true, Bool.and_eq_true, decide_eq_true_iff, beq_iff_eq, List.all_eq_true] at h
 refine ⟨h.1.1, h.1.2, λ y hy e => ?_⟩
 have := h.2 y hy
 rw [e] at this
 simp only [bne_self_eq_false, Bool.false_or, Bool.or_eq_true, beq_iff_eq] at this
 exact this
end Mi
namespace Mi
open PySem PySem.Spec PyProof.Rows L2
section
variable {X : Cx} {xr : XR} {K : Frag} {e a b c : Expr} {es : List Expr} {m ma mb mc : Ev} {pos : Pos}
theorem Sim.lst {φ : List Addr} {A : Hx} {H : Hp} {n : Nat} {ws : List W} {v : V} (S : Sim K φ A H) (q : RV K φ H (.ref n) v) (e : A[n]? = some (.lst ws)) : ∃ p vs, v = .ref p /\ φ[n]? = some p /\ H p = some (.lst vs) /\ RVs K φ H ws vs := by
 obtain ⟨p, rfl, h1⟩ := q
 obtain ⟨p', h2, vs, h3, h4⟩ := S.ob n _ e
 rw [h1] at h2; cases h2
 exact ⟨p, vs, rfl, h1, h3, h4⟩
theorem zlf {prog : Program} {w : World} {A : Around} {E : Value -> Shared -> Prop} {s : Shared} {t b : Addr} {ws : List Value} {Q : Value -> Shared -> Prop} (ht : IsTup s.heap t ([] : List Value).toArray) (hb : IsTup s.heap b ws.toArray) (h0 : Q (.ref b) s) :
  wpAny (model prog w) A (binaryOp .Add (.ref t) (.ref b)) Q E s := by
 obtain ⟨⟨cls, dd, data, sl⟩, ho, hc, n, hd⟩ := id ht
 obtain ⟨⟨cls2, dd2, data2, sl2⟩, ho2, hc2, n2, hd2⟩ := id hb
 simp only at hc hd hc2 hd2
 subst hc hd hc2 hd2
 exact concat_meets ⟨_, ho, rfl⟩ ⟨_, ho2, rfl⟩ noFill_tuple_add seq_tuple_add PySem.F.slot_tuple_add PySem.F.entry_tuple_add (PySem.F.args_tuple_add_2 _ _)
   (tuple_addW0 t b ([] : List Value).toArray ws.toArray n n2 dd dd2 sl sl2 (by simp)) ⟨ho, ho2, h0⟩
noncomputable def zlF (K : Frag) : R2 := λ x y H Q => ∃ a b ys, x = .ref a /\ y = .ref b /\ SqT K H a [] /\ SqT K H b ys /\ Q (.ref b) H
theorem zlv : OpR X (binaryOp .Add) (zlF X.K) := by
 intro pins s σ H x y v u Q I rx ry h
 obtain ⟨a, b, ys, rfl, rfl, ha, hb, q⟩ := h
 cases rx
 cases ry
 obtain ⟨its, r1, p1, _⟩ := I.tuple ha
 obtain ⟨its2, r2, p2, _⟩ := I.tuple hb
 cases r1
 exact zlf p1 p2 ⟨.ref b, H, I, rfl, q⟩
noncomputable def gAdd : W -> W -> Hx -> R W := λ x y A => match x, y with
 | .int i, .int j => .ok (.int (i + j)) A
 | .tup xs, .tup ys => if xs.length + ys.length <= zR then .ok (.tup (xs ++ ys)) A else .bad
 | .ref n, .ref k => match A[n]?, A[k]? with
  | some (.lst xs), some (.lst ys) => if xs.length + ys.length <= zR then .ok (.ref A.length) (A ++ [.lst (xs ++ ys)]) else .bad
  | _, _ => .bad
 | _, _ => .bad
theorem znM : ∀ x y A, zY (gAdd x y A) := λ x y A => by
 unfold gAdd
 split
 ·exact zcb
 ·exact zeh zcb zaN
 ·split
  ·exact zeh zcb zaN
  ·exact zaN
 ·exact zaN
theorem zcS {n : Nat} (h : n <= zR) : n <= sizeLine := by
 have : sizeLine = 16777216 := sizeLine_eq
 unfold zR at h
 omega
theorem zmR : Op2 K (λ x y H Q => rI0 (λ i j => .int (i + j)) x y H Q ∨ znU K x y H Q ∨ zlF K x y H Q ∨ rCat x y H Q) gAdd := λ φ A H x y u v Q S q1 q2 p => by
 cases u with
 | int i => cases v with
  | int j => obtain rfl := q1; obtain rfl := q2; exact .inl ⟨i, j, rfl, rfl, p φ H _ .refl S rfl⟩
  | _ => exact p.elim
 | tup xs => cases v with
  | tup ys =>
   obtain ⟨a1, vs1, rfl, t1, r1⟩ := q1
   obtain ⟨a2, vs2, rfl, t2, r2⟩ := q2
   unfold gAdd at p
   dsimp only at p
   by_cases hz : xs.length + ys.length <= zR
   ·rw [if_pos hz] at p
    by_cases hx : vs1 = []
    ·subst hx
     have e0 : xs = [] := by
      have := r1.length
      simpa using this
     subst e0
     exact .inr (.inr (.inl ⟨a1, a2, vs2, rfl, rfl, t1, t2, p φ H _ .refl S ⟨a2, vs2, rfl, t2, r2⟩⟩))
    ·refine .inr (.inl ⟨a1, a2, vs1, vs2, rfl, rfl, t1, t2, hx, by rw [<- r1.length, <- r2.length]; exact zcS hz, λ e => ?_, λ ne l hl => ?_⟩)
     ·subst e
      have e0 : ys = [] := by
       have := r2.length
       simpa using this
      subst e0
      rw [List.append_nil] at p
      exact p φ H _ .refl S ⟨a1, vs1, rfl, t1, r1⟩
     ·obtain ⟨b1, b2, b3⟩ := zfx S hl (r1.append r2)
      exact p _ _ _ b1 b2 b3
   ·rw [if_neg hz] at p; exact p.elim
  | _ => exact p.elim
 | ref n => cases v with
  | ref k =>
   unfold gAdd at p
   dsimp only at p
   cases e1 : A[n]? with
   | none => rw [e1] at p; exact p.elim
   | some o1 => cases o1 with
    | lst xs =>
     cases e2 : A[k]? with
     | none => rw [e1, e2] at p; exact p.elim
     | some o2 => cases o2 with
      | lst ys =>
       rw [e1, e2] at p
       dsimp only at p
       obtain ⟨p1, v1, rfl, f1, g1, r1⟩ := S.lst q1 e1
       obtain ⟨p2, v2, rfl, f2, g2, r2⟩ := S.lst q2 e2
       by_cases hz : xs.length + ys.length <= zR
       ·rw [if_pos hz] at p
        refine .inr (.inr (.inr ⟨p1, p2, v1, v2, rfl, rfl, g1, g2, by rw [<- r1.length, <- r2.length]; exact zcS hz, λ l hl => ?_⟩))
        obtain ⟨b1, b2, b3⟩ := zjh S hl (r1.append r2)
        exact p _ _ _ b1 b2 b3
       ·rw [if_neg hz] at p; exact p.elim
      | _ => rw [e1, e2] at p; exact p.elim
    | _ => rw [e1] at p; exact p.elim
  | _ => exact p.elim
 | _ => cases v <;> exact p.elim
theorem za5 (ha : SE X xr a ma) (hb : SE X xr b mb) : SE X xr (.BinOp a .Add b pos) (mBin gAdd ma mb) := zdT (zoQ.or (znb.or (zlv.or znZ))) znM zmR ha hb
noncomputable def gMul : W -> W -> Hx -> R W := λ x y A => match x, y with
 | .int i, .int j => if cMul i j then .ok (.int (i * j)) A else .bad
 | .ref n, .int k => match A[n]? with
  | some (.lst xs) => if zaO k && decide (xs.length * k.toNat <= zR) then .ok (.ref A.length) (A ++ [.lst (List.replicate k.toNat xs).flatten]) else .bad
  | _ => .bad
 | _, _ => .bad
theorem zop : ∀ x y A, zY (gMul x y A) := λ x y A => by
 unfold gMul
 split
 ·exact zeh zcb zaN
 ·split
  ·exact zeh zcb zaN
  ·exact zaN
 ·exact zaN
theorem RVs.rep {φ : List Addr} {H : Hp} {ws : List W} {vs : List V} (r : RVs K φ H ws vs) : ∀ n : Nat, RVs K φ H (List.replicate n ws).flatten (List.replicate n vs).flatten
 | 0 => .nil
 | n + 1 => by rw [List.replicate_succ, List.replicate_succ, List.flatten_cons, List.flatten_cons]; exact r.append (RVs.rep r n)
theorem zm8 : Op2 K (λ x y H Q => rI CMul (λ i j => .int (i * j)) x y H Q ∨ rRep x y H Q) gMul := λ φ A H x y u v Q S q1 q2 p => by
 cases v with
 | int j => cases u with
  | int i =>
   obtain rfl := q1; obtain rfl := q2
   unfold gMul at p
   dsimp only at p
   by_cases hc : cMul i j = true
   ·rw [if_pos hc] at p; exact .inl ⟨i, j, rfl, rfl, zm6 i j hc, p φ H _ .refl S rfl⟩
   ·rw [if_neg hc] at p; exact p.elim
  | ref n =>
   obtain rfl := q2
   unfold gMul at p
   dsimp only at p
   cases e1 : A[n]? with
   | none => rw [e1] at p; exact p.elim
   | some o1 => cases o1 with
    | lst xs =>
     rw [e1] at p
     dsimp only at p
     obtain ⟨p1, v1, rfl, f1, g1, r1⟩ := S.lst q1 e1
     by_cases hz : (zaO j && decide (xs.length * j.toNat <= zR)) = true
     ·rw [if_pos hz] at p
      rw [Bool.and_eq_true, decide_eq_true_iff] at hz
      obtain ⟨b1, b2⟩ := zdd hz.1
      refine .inr ⟨p1, j, v1, rfl, rfl, g1, by omega, by omega, by rw [<- r1.length]; exact zcS hz.2, λ l hl => ?_⟩
      obtain ⟨c1, c2, c3⟩ := zjh S hl (r1.rep j.toNat)
      exact p _ _ _ c1 c2 c3
     ·rw [if_neg hz] at p; exact p.elim
    | _ => rw [e1] at p; exact p.elim
  | _ => exact p.elim
 | _ => cases u <;> exact p.elim
theorem zby (ha : SE X xr a ma) (hb : SE X xr b mb) : SE X xr (.BinOp a .Mult b pos) (mBin gMul ma mb) := zdT (zoa.or zou) zop zm8 ha hb
theorem zak {x1} {mr : Ea} {n : Nat} (h : SA X xr es mr) (hl : ALen mr n) (hn : n <= zR := by decide) : SE X xr (.Tuple es x1 pos) (mTup mr) :=
 PE.imp (zlM h) λ σ H Q ⟨φ, A, ρ, S, re, h⟩ => by
  have h' := zM.mp h
  cases e : mr ρ A with
  | ok ws A' =>
   rw [e] at h'
   refine ⟨φ, A, ρ, S, re, ?_⟩
   rw [e]
   intro φ1 H1 vs l1 S1 q1
   refine ⟨by rw [<- q1.length, hl ρ A ws A' e]; exact zcS hn, λ p hp => ?_⟩
   obtain ⟨a1, a2, a3⟩ := zfx S1 hp q1
   exact h' _ _ _ (l1.trans a1) a2 a3
  | exc x A' => rw [e] at h'; refine ⟨φ, A, ρ, S, re, ?_⟩; rw [e]; exact h'
  | bad => rw [e] at h'; exact h'.elim
theorem zaz {mr : Ea} {n : Nat} (h : SA X xr es mr) (hl : ALen mr n) (hn : n <= zR := by decide) : SE X xr (.List es pos) (mLst mr) :=
 zoS h λ ρ A ws A' e => by rw [hl ρ A ws A' e]; exact zcS hn
noncomputable def zaM : W -> W -> Hx -> R W := λ x y A => match x with
 | .ref n => match A[n]? with
  | some (.lst ws) => if ws.length < zR then .ok .non (A.set n (.lst (ws ++ [y]))) else .bad
  | _ => .bad
 | _ => .bad
noncomputable def isL (x : W) (A : Hx) : Bool := match x with
 | .ref n => match A[n]? with
  | some (.lst _) => true
  | _ => false
 | _ => false
theorem zkK {φ : List Addr} {A : Hx} {H : Hp} {w : W} {v : V} (S : Sim K φ A H) (q : RV K φ H w v) (e : isL w A = true) : tyV K "list" v H := by
 unfold isL at e
 cases w with
 | ref n =>
  dsimp only at e
  cases e1 : A[n]? with
  | none => rw [e1] at e; cases e
  | some o => cases o with
   | lst ws => obtain ⟨p, vs, rfl, _, h, _⟩ := S.lst q e1; exact .inl ⟨rfl, _, SqL.of h⟩
   | _ => rw [e1] at e; cases e
 | _ => cases e
noncomputable def zcq (g : W -> W -> Hx -> R W) (a b : Ev) : Ev := λ ρ A => (a ρ A).bind λ x A1 => if isL x A1 then (b ρ A1).bind λ y A2 => g x y A2 else .bad
theorem zpN {nm : Str} {id : String} {r : V -> List V -> Hp -> VK -> Prop} {g : W -> W -> Hx -> R W} {apos cpos : Pos} (slot : Slot "list" nm id) (hty : typeOf (.builtin id) = pure (.type "method_descriptor")) (hm : MtR X id r) (hn : ∀ x y A, zY (g x y A))
  (hg : ∀ φ A H x y u v Q, Sim X.K φ A H -> RV X.K φ H u x -> RV X.K φ H v y -> (g u v A).post (PB X.K φ H Q) noX -> r x [y] H Q) (ho : SE X xr a ma) (he : SE X xr b mb)
  (hs : starEach [b] X.env = (false, eval b X.env) :: starEach [] X.env) (hbase : attributeBase a nm X.env (eval a X.env) = eval a X.env)
  (hfew : ((backTo cpos (starEach [b] X.env)).all (λ x => !x.1) && (backToKw cpos (keywordEach [] X.env)).all (λ x => x.1.isSome)
   && decide ([b].length + ([] : List Keyword).length + (if ([] : List Keyword).isEmpty then 0 else 1) < 30)) = true) (hline : (apos.endLine == cpos.line) = true) :
  SE X xr (.Call (.Attribute a nm apos) [b] [] cpos) (zcq g ma mb) :=
 PE.imp (zoY PySem.F.plainAttrs_list slot hty hm ho (zar he zbh hs) hbase hfew hline hs (by rfl)) λ σ H Q ⟨φ, A, ρ, S, re, h⟩ => by
  refine tM.go S re (zM.mp h) λ w A1 φ1 H1 v h1 l1 S1 q1 => ?_
  by_cases hl : isL w A1 = true
  ·rw [if_pos hl] at h1
   refine ⟨zkK S1 q1 hl, ?_⟩
   refine tM.go S1 (re.mono l1) (zS (zM.mp h1) (λ _ _ z => z) λ _ _ z => z.mono l1) λ w2 A2 φ2 H2 v2 h2 l2 S2 q2 => ?_
   exact hg φ2 A2 H2 v v2 w w2 Q S2 (q1.mono l2) q2 (zS (zdb (hn _ _ _) h2) (λ _ _ z => z.mono (l1.trans l2)) λ _ _ z => z)
  ·rw [if_neg hl] at h1; exact h1.elim
theorem zkq : ∀ x y A, zY (zaM x y A) := λ x y A => by
 unfold zaM
 split
 ·split
  ·exact zeh zcb zaN
  ·exact zaN
 ·exact zaN
theorem zbi {apos cpos : Pos} (ho : SE X xr a ma) (he : SE X xr b mb) (hs : starEach [b] X.env = (false, eval b X.env) :: starEach [] X.env := by rfl)
  (hbase : attributeBase a "append" X.env (eval a X.env) = eval a X.env := by rfl)
  (hfew : ((backTo cpos (starEach [b] X.env)).all (λ x => !x.1) && (backToKw cpos (keywordEach [] X.env)).all (λ x => x.1.isSome)
   && decide ([b].length + ([] : List Keyword).length + (if ([] : List Keyword).isEmpty then 0 else 1) < 30)) = true := by rfl) (hline : (apos.endLine == cpos.line) = true := by rfl) :
  SE X xr (.Call (.Attribute a "append" apos) [b] [] cpos) (zcq zaM ma mb) :=
 zpN PySem.F.slot_list_append PySem.F.type_list_append zg7 zkq (λ φ A H x y u v Q S q1 q2 p => by
  unfold zaM at p
  cases u with
  | ref n =>
   dsimp only at p
   cases e1 : A[n]? with
   | none => rw [e1] at p; exact p.elim
   | some o => cases o with
    | lst ws =>
     rw [e1] at p
     dsimp only at p
     by_cases hz : ws.length < zR
     ·rw [if_pos hz] at p
      obtain ⟨l, vs, rfl, f1, g1, r1⟩ := S.lst q1 e1
      refine ⟨l, vs, y, rfl, rfl, g1, ?_, ?_⟩
      ·rw [<- r1.length]
       have : sizeLine = 16777216 := sizeLine_eq
       unfold zR at hz
       omega
      ·have ln : Le X.K φ H φ (upd H l (.lst (vs ++ [y]))) := Le.upd f1 (λ xs z => by rw [g1] at z; cases z) (λ _ _ z => by rw [g1] at z; cases z)
       obtain ⟨w1, w2⟩ := S.write (o := .lst ws) (o' := .lst (ws ++ [v])) e1 rfl rfl f1 ⟨_, zal, (r1.mono ln).append (.one (q2.mono ln))⟩
       exact p _ _ _ w1 w2 rfl
     ·rw [if_neg hz] at p; exact p.elim
    | _ => rw [e1] at p; exact p.elim
  | _ => exact p.elim) ho he hs hbase hfew hline
noncomputable def zpQ : W -> W -> Hx -> R W := λ x y A => match x, y with
 | .ref n, .int i => match A[n]? with
  | some (.lst ws) => match (if zaO i then seqIndex? i ws.length else none) with
   | some k => match ws[k]? with
    | some w => .ok w (A.set n (.lst (ws.eraseIdx k)))
    | none => .bad
   | none => .bad
  | _ => .bad
 | _, _ => .bad
noncomputable def gPut : W -> W -> W -> Hx -> R Unit := λ o i v A => match o, i with
 | .ref n, .int k => match A[n]? with
  | some (.lst ws) => match ixN ws.length k with
   | some j => .ok () (A.set n (.lst (ws.set j v)))
   | none => .bad
  | _ => .bad
 | _, _ => .bad
theorem zoM : ∀ o i v A, zY (gPut o i v A) := λ o i v A => by
 unfold gPut
 split
 ·split
  ·split
   ·exact zcb
   ·exact zaN
  ·exact zaN
 ·exact zaN
theorem zmE : zos K zo0 gPut := λ φ A H o i v wo wi wv Q S q1 q2 q3 p => by
 unfold gPut at p
 cases wo with
 | ref n => cases wi with
  | int k =>
   obtain rfl := q2
   dsimp only at p
   cases e1 : A[n]? with
   | none => rw [e1] at p; exact p.elim
   | some o1 => cases o1 with
    | lst ws =>
     rw [e1] at p
     dsimp only at p
     cases e2 : ixN ws.length k with
     | none => rw [e2] at p; exact p.elim
     | some j =>
      rw [e2] at p
      obtain ⟨l, vs, rfl, f1, g1, r1⟩ := S.lst q1 e1
      have ln : Le K φ H φ (upd H l (.lst (vs.set j v))) := Le.upd f1 (λ xs z => by rw [g1] at z; cases z) (λ _ _ z => by rw [g1] at z; cases z)
      obtain ⟨w1, w2⟩ := S.write (o := .lst ws) (o' := .lst (ws.set j wv)) e1 rfl rfl f1 ⟨_, zal, (r1.mono ln).set (q3.mono ln) j⟩
      exact ⟨l, vs, k, j, rfl, rfl, g1, by rw [<- r1.length]; exact e2, p _ _ w1 w2⟩
    | _ => rw [e1] at p; exact p.elim
  | _ => exact p.elim
 | _ => cases wi <;> exact p.elim
theorem zfz {o i : Expr} {mo mi : Ev} {tpos : Pos} (he : SE X xr e m) (ho : SE X xr o mo) (hi : SE X xr i mi)
  (hs : swapsWithSole [.Subscript o i tpos] e pos.line X.env = pure false := by rfl) (hw : swappedStores [.Subscript o i tpos] e X.env = pure none := by rfl)
  (h1 : (assignEach [.Subscript o i tpos] X.env).map (·.2) = [assign (.Subscript o i tpos) X.env] := by rfl)
  (ha : ∀ v, assign (.Subscript o i tpos) X.env v = (do
   let ov <- holding [v] (eval o X.env)
   let iv <- holding [v, ov] (eval i X.env)
   standAt tpos
   holding [v, ov, iv] (setItem ov iv v)
   release [v, ov, iv] []) := by intro _; rfl) : SS X xr (.Assign [.Subscript o i tpos] e pos) (zce gPut m mo mi) := zlg set_list zoM zmE he ho hi hs hw h1 ha
end
end Mi
namespace Mi
open PySem PySem.Spec PyProof.Rows L2
section
variable {X : Cx} {xr : XR} {K : Frag} {e a b c : Expr} {es : List Expr} {m ma mb mc : Ev} {pos : Pos}
theorem znu {id : String} {x : Str} {p : Pos} {r : List V -> Hp -> VK -> Prop} {g : W -> Hx -> R W} (hc : zcV X (.type id) r) (hn : ∀ w A, zY (g w A)) (hg : Op1 X.K (λ v => r [v]) g) (hm : X.mg x = none) (hv : bootBuiltins x = some (.type id)) (ha : SE X xr e m) (hgl : Gl X x := by rfl)
  (hn' : x ≠ "__name__" := by decide) (hdb : (x == ("__debug__" : Str)) = false := by decide) (he : starEach [e] X.env = (false, eval e X.env) :: starEach [] X.env := by rfl) (hpl : (backTo pos (starEach [] X.env)).any (·.1) = false := by rfl) :
  SE X xr (.Call (.Name x p) [e] [] pos) (mUn g m) := PE.imp (zg3 hc hgl hm hv (zar ha zbh he) hn' hdb he hpl) λ σ H Q h => mUn.read (r := λ v => r [v]) hn hg σ H Q h
theorem znH {id : String} {x : Str} {p : Pos} {r : List V -> Hp -> VK -> Prop} {g : W -> W -> Hx -> R W} (hc : zcV X (.builtin id) r) (hn : ∀ w w' A, zY (g w w' A)) (hg : Op2 X.K (λ v v' => r [v, v']) g) (hm : X.mg x = none) (hv : bootBuiltins x = some (.builtin id)) (ha : SE X xr a ma) (hb : SE X xr b mb) (hgl : Gl X x)
  (hn' : x ≠ "__name__") (hdb : (x == ("__debug__" : Str)) = false) (h1 : starEach [a, b] X.env = (false, eval a X.env) :: starEach [b] X.env) (h2 : starEach [b] X.env = (false, eval b X.env) :: starEach [] X.env) (hpl : (backTo pos (starEach [b] X.env)).any (·.1) = false) :
  SE X xr (.Call (.Name x p) [a, b] [] pos) (mBin g ma mb) := PE.imp (zcD hc hgl hm hv (zar ha (zar hb zbh h2) h1) hn' hdb h1 hpl) λ σ H Q h => mBin.read (r := λ v v' => r [v, v']) hn hg σ H Q h
noncomputable def gInt : W -> Hx -> R W
 | .int i, A => .ok (.int i) A
 | .bl k, A => .ok (.int (if k then 1 else 0)) A
 | _, _ => .bad
theorem zge {p : Pos} (hm : X.mg "int" = none) (ha : SE X xr e m) (hgl : Gl X "int" := by rfl) (he : starEach [e] X.env = (false, eval e X.env) :: starEach [] X.env := by rfl) : SE X xr (.Call (.Name "int" p) [e] [] pos) (mUn gInt m) :=
 znu zjf (λ w A => by unfold gInt; split; exact zcb; exact zcb; exact zaN) (λ φ A H x u Q S q p => by
  cases u with
  | int i => obtain rfl := q; exact .inl ⟨i, rfl, p φ H _ .refl S rfl⟩
  | bl k => obtain rfl := q; exact .inr ⟨k, rfl, p φ H _ .refl S rfl⟩
  | _ => exact p.elim) hm (by rfl) ha hgl (by decide) (by decide) he (by rfl)
noncomputable def zf0 := gII λ i j => .int (if j > i then j else i)
noncomputable def zfm := gII λ i j => .int (if j < i then j else i)
theorem zfS {p : Pos} (hc : X.calm = true) (hm : X.mg "max" = none) (ha : SE X xr a ma) (hb : SE X xr b mb) (hgl : Gl X "max" := by rfl) (h1 : starEach [a, b] X.env = (false, eval a X.env) :: starEach [b] X.env := by rfl) (h2 : starEach [b] X.env = (false, eval b X.env) :: starEach [] X.env := by rfl) (hpl : (backTo pos (starEach [b] X.env)).any (·.1) = false := by rfl) :
  SE X xr (.Call (.Name "max" p) [a, b] [] pos) (mBin zf0 ma mb) := znH (zj0 hc) zhh (λ φ A H x y u v Q S q1 q2 p => by
  obtain ⟨i, j, e1, e2, q⟩ := zew (K := X.K) (f := λ i j => .int (if j > i then j else i)) (g := λ i j => .int (if j > i then j else i)) (λ _ _ _ _ => rfl) φ A H x y u v Q S q1 q2 p
  subst e1; subst e2
  exact ⟨i, j, rfl, q⟩) hm (by rfl) ha hb hgl (by decide) (by decide) h1 h2 hpl
theorem zfe {p : Pos} (hc : X.calm = true) (hm : X.mg "min" = none) (ha : SE X xr a ma) (hb : SE X xr b mb) (hgl : Gl X "min" := by rfl) (h1 : starEach [a, b] X.env = (false, eval a X.env) :: starEach [b] X.env := by rfl) (h2 : starEach [b] X.env = (false, eval b X.env) :: starEach [] X.env := by rfl) (hpl : (backTo pos (starEach [b] X.env)).any (·.1) = false := by rfl) :
  SE X xr (.Call (.Name "min" p) [a, b] [] pos) (mBin zfm ma mb) := znH (zjH hc) zhh (λ φ A H x y u v Q S q1 q2 p => by
  obtain ⟨i, j, e1, e2, q⟩ := zew (K := X.K) (f := λ i j => .int (if j < i then j else i)) (g := λ i j => .int (if j < i then j else i)) (λ _ _ _ _ => rfl) φ A H x y u v Q S q1 q2 p
  subst e1; subst e2
  exact ⟨i, j, rfl, q⟩) hm (by rfl) ha hb hgl (by decide) (by decide) h1 h2 hpl
noncomputable def zez : W -> Bool
 | .tup _ => false
 | .ref _ => false
 | .clo _ _ _ => false
 | .xc _ => false
 | _ => true
noncomputable def eqW0 : W -> W -> Bool
 | .non, .non => true
 | .bl a, .bl b => a == b
 | .bl a, .int b => (if a then 1 else 0) == b
 | .int a, .bl b => a == (if b then 1 else 0)
 | .int a, .int b => a == b
 | .str a, .str b => a == b
 | _, _ => false
noncomputable def inW (x : W) (xs : List W) : Bool := xs.any λ y => eqW0 y x
theorem zgA {φ : List Addr} {H : Hp} {w : W} {v : V} (q : RV K φ H w v) (e : zez w = true) : zfo v = true := by
 cases w <;> first
  | (cases e; done)
  | (obtain rfl := q; rfl)
theorem zjm {φ : List Addr} {H : Hp} {w w' : W} {v v' : V} (q : RV K φ H w v) (q' : RV K φ H w' v') (e : zez w = true) (e' : zez w' = true) : eqV v v' = eqW0 w w' := by
 cases w <;> cases w' <;> first
  | (cases e; done)
  | (cases e'; done)
  | (obtain rfl := q; obtain rfl := q'; rfl)
theorem ziC {φ : List Addr} {H : Hp} {x : W} {v : V} (q : RV K φ H x v) (e : zez x = true) : ∀ {xs : List W} {vs : List V}, RVs K φ H xs vs -> xs.all zez = true -> vs.all zfo = true /\ inV v vs = inW x xs
 | [], _, r, _ => by cases r; exact ⟨rfl, rfl⟩
 | w :: ws, _, ⟨y, r, e1, h, t⟩, h2 => by
  subst e1
  rw [List.all_cons, Bool.and_eq_true] at h2
  obtain ⟨i1, i2⟩ := ziC q e t h2.2
  refine ⟨by rw [List.all_cons, zgA h h2.1, i1]; rfl, ?_⟩
  unfold inV inW at i2 ⊢
  rw [List.any_cons, List.any_cons, i2, zjm h q h2.1 e]
noncomputable def gInN (neg : Bool) : W -> W -> Hx -> R W := λ x y A => match zK y A with
 | some ws => if zez x && ws.all zez then .ok (.bl (if neg then !inW x ws else inW x ws)) A else .bad
 | none => .bad
noncomputable abbrev gIn := gInN false
theorem zny {n : Bool} : ∀ x y A, zY (gInN n x y A) := λ x y A => by
 unfold gInN
 split
 ·exact zeh zcb zaN
 ·exact zaN
theorem zn6 {n : Bool} : Op2 K (rIn K n) (gInN n) := λ φ A H x y u v Q S q1 q2 p => by
 unfold gInN at p
 cases es : zK v A with
 | none => rw [es] at p; exact p.elim
 | some ws =>
  rw [es] at p
  dsimp only at p
  by_cases hf : (zez u && ws.all zez) = true
  ·rw [if_pos hf] at p
   rw [Bool.and_eq_true] at hf
   obtain ⟨a, ys, rfl, z, r⟩ := zc9 S q2 es
   obtain ⟨i1, i2⟩ := ziC q1 hf.1 r hf.2
   exact ⟨a, ys, rfl, z, zgA q1 hf.1, i1, by rw [i2]; exact p φ H _ .refl S rfl⟩
  ·rw [if_neg hf] at p; exact p.elim
structure InOk (X : Cx) (op : CmpOp) (g : W -> W -> Hx -> R W) : Prop where
 ex : ∃ r : R2, OpR X (compareOp op) r /\ (∀ x y A, zY (g x y A)) /\ Op2 X.K r g
theorem c_in : InOk X .In gIn := ⟨_, zjx, zny, zn6⟩
theorem zmf {op : CmpOp} {g : W -> W -> Hx -> R W} (h : InOk X op g) (ha : SE X xr a ma) (hb : SE X xr b mb) (hm : behindInMarks op b = false := by rfl) : SE X xr (.Compare a [op] [b] pos) (mBin g ma mb) :=
 let ⟨r, a1, a2, a3⟩ := h.ex; zlP a1 a2 a3 ha hb hm
end
end Mi
namespace Mi
open PySem PySem.Spec PyProof.Rows L2
noncomputable def allP (f : W -> Option PyData) : List W -> Option (List PyData)
 | [] => some []
 | w :: ws => match f w, allP f ws with
  | some d, some ds => some (d :: ds)
  | _, _ => none
noncomputable def toP (A : Hx) : Nat -> W -> Option PyData
 | _, .non => some .none
 | _, .bl b => some (.bool b)
 | _, .int i => some (.int i)
 | _, .str x => if PyData.strOk x then some (.str x) else none
 | _, .clo _ _ _ => none
 | _, .xc _ => none
 | 0, .tup _ => none
 | 0, .ref _ => none
 | n + 1, .tup ws => (allP (toP A n) ws).map .tuple
 | n + 1, .ref k => match zK (.ref k) A with
  | some ws => (allP (toP A n) ws).map .list
  | none => none
theorem zkE {K : Frag} {φ : List Addr} {A : Hx} {H : Hp} {n : Nat} {us : List W} {v : V} (S : Sim K φ A H) (q : RV K φ H (.ref n) v) (es : zK (.ref n) A = some us) : ∃ a ys, v = .ref a /\ SqL K H a ys /\ RVs K φ H us ys := by
 obtain ⟨a, rfl, e2⟩ := q
 unfold zK at es
 dsimp only at es
 cases ec : A[n]? with
 | none => rw [ec] at es; cases es
 | some o =>
  rw [ec] at es
  obtain ⟨a', e3, r⟩ := S.ob n o ec
  rw [e2] at e3; cases e3
  cases o with
  | lst xs => cases es; obtain ⟨ys, h1, h2⟩ := r; exact ⟨a, ys, rfl, SqL.of h1, h2⟩
  | ro xs => cases es; obtain ⟨ys, h1, h2⟩ := r; exact ⟨a, ys, rfl, h1.sq, h2⟩
  | dct xs => cases es
  | tab _ _ => cases es
section
variable {X : Cx} {xr : XR} {e a b c : Expr} {ma mb mc : Ev} {pos : Pos}
theorem ze5 {K : Frag} {φ : List Addr} {H : Hp} {h : Heap} {f : W -> Option PyData} (hf : ∀ w v u d, RV K φ H w v -> RelV v u -> f w = some d -> ∃ as, Reads h u d as) :
  ∀ {ws : List W} {vs : List V} {us : List Value} {ds : List PyData}, RVs K φ H ws vs -> Vals vs us -> allP f ws = some ds -> ∃ as, ReadsAll h us ds as
 | [], _, _, _, r, rv, e => by cases r; cases rv; cases e; exact ⟨[], .nil⟩
 | w :: ws, _, _, ds, ⟨v, r, e1, q, t⟩, rv, e => by
  subst e1
  cases rv with
  | cons r1 r2 =>
   unfold allP at e
   cases e2 : f w with
   | none => rw [e2] at e; cases e
   | some d =>
    cases e3 : allP f ws with
    | none => rw [e2, e3] at e; cases e
    | some ds' =>
     rw [e2, e3] at e
     cases e
     obtain ⟨as, h1⟩ := hf w v _ d q r1 e2
     obtain ⟨bs, h2⟩ := ze5 hf t r2 e3
     exact ⟨_, .cons h1 h2⟩
theorem zeK {pins : List (Addr × Obj)} {σ : St} {H : Hp} {s : Shared} {φ : List Addr} {A : Hx} (I : Inv X pins σ H s) (S : Sim X.K φ A H) : ∀ (n : Nat) (w : W) (v : V) (u : Value) (d : PyData), RV X.K φ H w v -> RelV v u -> toP A n w = some d -> ∃ as, Reads s.heap u d as := by
 intro n
 induction n with
 | zero =>
  intro w v u d q r e
  cases w with
  | non => obtain rfl := q; cases r; cases e; exact ⟨_, .none⟩
  | bl k => obtain rfl := q; cases r; cases e; exact ⟨_, .bool k⟩
  | int k => obtain rfl := q; obtain ⟨t, rfl⟩ := r; cases e; exact ⟨_, .int k t⟩
  | str k =>
   obtain rfl := q
   obtain ⟨t, rfl⟩ := r
   unfold toP at e
   split at e
   ·cases e; exact ⟨_, .str k t⟩
   ·cases e
  | tup _ => cases e
  | ref _ => cases e
  | clo _ _ _ => unfold toP at e; cases e
  | xc _ => unfold toP at e; cases e
 | succ n ih =>
  intro w v u d q r e
  cases w with
  | non => obtain rfl := q; cases r; cases e; exact ⟨_, .none⟩
  | bl k => obtain rfl := q; cases r; cases e; exact ⟨_, .bool k⟩
  | clo _ _ _ => unfold toP at e; cases e
  | xc _ => unfold toP at e; cases e
  | int k => obtain rfl := q; obtain ⟨t, rfl⟩ := r; cases e; exact ⟨_, .int k t⟩
  | str k =>
   obtain rfl := q
   obtain ⟨t, rfl⟩ := r
   unfold toP at e
   split at e
   ·cases e; exact ⟨_, .str k t⟩
   ·cases e
  | tup ws =>
   obtain ⟨a, vs, rfl, hs, hr⟩ := q
   cases r
   unfold toP at e
   cases e1 : allP (toP A n) ws with
   | none => rw [e1] at e; cases e
   | some ds =>
    rw [e1] at e
    cases e
    obtain ⟨its, rv, ⟨o, h1, h2, k, h3⟩, _⟩ := I.tuple hs
    obtain ⟨as, h4⟩ := ze5 ih hr rv e1
    exact ⟨_, .tuple h1 h2 h3 (by simpa using h4)⟩
  | ref k =>
   unfold toP at e
   cases e1 : zK (.ref k) A with
   | none => rw [e1] at e; cases e
   | some ws =>
    rw [e1] at e
    dsimp only at e
    obtain ⟨a, ys, rfl, hs, hr⟩ := zkE S q e1
    cases r
    cases e2 : allP (toP A n) ws with
    | none => rw [e2] at e; cases e
    | some ds =>
     rw [e2] at e
     cases e
     obtain ⟨its, rv, ⟨o, k', h1, h2, _, h3⟩, _⟩ := I.list hs
     obtain ⟨as, h4⟩ := ze5 ih hr rv e2
     exact ⟨_, .list h1 h2 h3 (by simpa using h4)⟩
theorem zkb {A : Hx} : ∀ (n : Nat) (w : W) (d : PyData), toP A n w = some d -> d.canLay0 = true /\ d.depth <= n := by
 intro n
 have lst : ∀ {n : Nat}, (∀ (w : W) (d : PyData), toP A n w = some d -> d.canLay0 = true /\ d.depth <= n) -> ∀ (ws : List W) (ds : List PyData), allP (toP A n) ws = some ds -> PyData.canLayAll0 ds = true /\ PyData.depthAll ds <= n := by
  intro n ih ws
  induction ws with
  | nil => intro ds e; cases e; exact ⟨by simp [PyData.canLayAll0], by simp [PyData.depthAll]⟩
  | cons w ws ihw =>
   intro ds e
   unfold allP at e
   cases e2 : toP A n w with
   | none => rw [e2] at e; cases e
   | some d =>
    cases e3 : allP (toP A n) ws with
    | none => rw [e2, e3] at e; cases e
    | some ds' =>
     rw [e2, e3] at e
     cases e
     obtain ⟨h1, h2⟩ := ih w d e2
     obtain ⟨h3, h4⟩ := ihw ds' e3
     refine ⟨by simp [PyData.canLayAll0, h1, h3], ?_⟩
     simp only [PyData.depthAll]
     omega
 induction n with
 | zero =>
  intro w d e
  cases w with
  | tup _ => cases e
  | ref _ => cases e
  | clo _ _ _ => unfold toP at e; cases e
  | xc _ => unfold toP at e; cases e
  | str x =>
   unfold toP at e
   split at e
   ·rename_i hx; cases e; exact ⟨by simp [PyData.canLay0, hx], by simp [PyData.depth]⟩
   ·cases e
  | _ => cases e; exact ⟨by simp [PyData.canLay0], by simp [PyData.depth]⟩
 | succ n ih =>
  intro w d e
  cases w with
  | clo _ _ _ => unfold toP at e; cases e
  | xc _ => unfold toP at e; cases e
  | tup ws =>
   unfold toP at e
   cases e1 : allP (toP A n) ws with
   | none => rw [e1] at e; cases e
   | some ds =>
    rw [e1] at e
    cases e
    obtain ⟨h1, h2⟩ := lst ih ws ds e1
    refine ⟨by simp [PyData.canLay0, h1], ?_⟩
    simp only [PyData.depth]
    omega
  | ref k =>
   unfold toP at e
   cases e1 : zK (.ref k) A with
   | none => rw [e1] at e; cases e
   | some ws =>
    rw [e1] at e
    dsimp only at e
    cases e2 : allP (toP A n) ws with
    | none => rw [e2] at e; cases e
    | some ds =>
     rw [e2] at e
     cases e
     obtain ⟨h1, h2⟩ := lst ih ws ds e2
     refine ⟨by simp [PyData.canLay0, h1], ?_⟩
     simp only [PyData.depth]
     omega
  | str x =>
   unfold toP at e
   split at e
   ·rename_i hx; cases e; exact ⟨by simp [PyData.canLay0, hx], by simp [PyData.depth]⟩
   ·cases e
  | _ => cases e; exact ⟨by simp [PyData.canLay0], by simp [PyData.depth]⟩
noncomputable def gEqN (neg : Bool) : W -> W -> Hx -> R W := λ x y A => match toP A 8 x, toP A 8 y with
 | some d, some d' => .ok (.bl (if neg then !PyData.eqv d d' else PyData.eqv d d')) A
 | _, _ => .bad
noncomputable abbrev gEq := gEqN false
noncomputable abbrev gNe := gEqN true
theorem zlO {n : Bool} : ∀ x y A, zY (gEqN n x y A) := λ x y A => by
 unfold gEqN
 split
 ·exact zcb
 ·exact zaN
noncomputable def rEqN (K : Frag) (neg : Bool) : R2 := λ x y H Q => ∃ φ A u v d d', Sim K φ A H /\ RV K φ H u x /\ RV K φ H v y /\ toP A 8 u = some d /\ toP A 8 v = some d' /\ Q (.bl (if neg then !PyData.eqv d d' else PyData.eqv d d')) H
theorem zf2 {A : Hx} {w : W} {d : PyData} (h : toP A 8 w = some d) : SeqAt.shaped d = true := by
 obtain ⟨h1, h2⟩ := zkb 8 w d h
 unfold SeqAt.shaped
 rw [h1, Bool.true_and, decide_eq_true_iff]
 omega
theorem znF (hu : X.A.units + 64 < cLine) : OpR X (compareOp .Eq) (rEqN X.K false) := by
 intro pins s σ H x y v u Q I rx ry h
 obtain ⟨φ, A, w1, w2, d, d', S, q1, q2, e1, e2, q⟩ := h
 obtain ⟨as, h1⟩ := zeK I S 8 w1 x v d q1 rx e1
 obtain ⟨bs, h2⟩ := zeK I S 8 w2 y u d' q2 ry e2
 exact eq_dataH h1 h2 (zf2 e1) (zf2 e2) hu ⟨.bl _, H, I, rfl, q⟩
theorem znS (hu : X.A.units + 64 < cLine) : OpR X (compareOp .NotEq) (rEqN X.K true) := by
 intro pins s σ H x y v u Q I rx ry h
 obtain ⟨φ, A, w1, w2, d, d', S, q1, q2, e1, e2, q⟩ := h
 obtain ⟨as, h1⟩ := zeK I S 8 w1 x v d q1 rx e1
 obtain ⟨bs, h2⟩ := zeK I S 8 w2 y u d' q2 ry e2
 exact ne_dataH h1 h2 (zf2 e1) (zf2 e2) hu ⟨.bl _, H, I, rfl, q⟩
theorem zjA {K : Frag} {n : Bool} : Op2 K (rEqN K n) (gEqN n) := λ φ A H x y u v Q S q1 q2 p => by
 unfold gEqN at p
 cases e1 : toP A 8 u with
 | none => rw [e1] at p; exact p.elim
 | some d =>
  cases e2 : toP A 8 v with
  | none => rw [e1, e2] at p; exact p.elim
  | some d' =>
   rw [e1, e2] at p
   exact ⟨φ, A, u, v, d, d', S, q1, q2, e1, e2, p φ H _ .refl S rfl⟩
theorem zgn {k : Nat} (hr : Room k X.A) : zch X .Eq gEq := zeX (znF hr.units) zlO zjA
theorem zhB {k : Nat} (hr : Room k X.A) : zch X .NotEq gNe := zeX (znS hr.units) zlO zjA
end
end Mi
namespace Mi
open PySem PySem.Spec PyProof.Rows L2
mutual
noncomputable def W.nr : W -> Bool
 | .tup ws => nrs ws
 | .ref _ => false
 | .clo _ ws _ => nrs ws
 | _ => true
noncomputable def nrs : List W -> Bool
 | [] => true
 | w :: ws => w.nr && nrs ws
end
noncomputable def iso (f : Fn) : Fn := λ us A => if nrs us then (match f us [] with
 | .ok w A1 => (match w with
  | .ref n => (match A1[n]? with
   | some (.lst ws) => if nrs ws then .ok (.ref A.length) (A ++ [.lst ws]) else .bad
   | some (.dct kvs) => if nrs (kvs.map (·.2)) then .ok (.ref A.length) (A ++ [.dct kvs]) else .bad
   | _ => .bad)
  | w => if w.nr then .ok w A else .bad)
 | _ => .bad) else .bad
noncomputable def isoL (f : Fn) : Fn := λ us A => match us with
 | .ref n :: us => (match A[n]? with
  | some (.lst ws) => if nrs ws && nrs us then (match f (.ref 0 :: us) [.lst ws] with
   | .ok w A1 => (match (List.head? A1 : Option O) with
    | some (.lst ws2) => if nrs ws2 && w.nr then .ok w (A.set n (.lst ws2)) else .bad
    | _ => .bad)
   | _ => .bad) else .bad
  | _ => .bad)
 | _ => .bad
section
variable {K : Frag} {φ φ' φ1 : List Addr} {H H' H1 : Hp} {A A1 : Hx}
mutual
theorem RV.nrm (tp : ∀ a vs, SqT K H a vs -> SqT K H' a vs) (fz : ∀ a o u, H a = some (.frz o u) -> H' a = some (.frz o u)) : ∀ {w : W} {v : V}, w.nr = true -> RV K φ H w v -> RV K φ' H' w v
 | .non, _, _, h => h
 | .bl _, _, _, h => h
 | .int _, _, _, h => h
 | .str _, _, _, h => h
 | .tup ws, _, n, ⟨a, vs, e, t, r⟩ => ⟨a, vs, e, tp _ _ t, RVs.nrm tp fz n r⟩
 | .ref _, _, n, _ => nomatch n
 | .clo _ ws P, _, n, ⟨a, ob, u, c, oc, uc, vs, e, h1, h2, h3, r⟩ => ⟨a, ob, u, c, oc, uc, vs, e, fz _ _ _ h1, fz _ _ _ h2, h3, RVs.nrm tp fz n r⟩
 | .xc _, _, _, ⟨a, oe, u, C, e, h1, h2⟩ => ⟨a, oe, u, C, e, fz _ _ _ h1, h2⟩
theorem RVs.nrm (tp : ∀ a vs, SqT K H a vs -> SqT K H' a vs) (fz : ∀ a o u, H a = some (.frz o u) -> H' a = some (.frz o u)) : ∀ {ws : List W} {vs : List V}, nrs ws = true -> RVs K φ H ws vs -> RVs K φ' H' ws vs
 | [], _, _, h => h
 | w :: ws, _, n, ⟨v, r, e, h, t⟩ => by
  have n' : (w.nr && nrs ws) = true := n
  rw [Bool.and_eq_true] at n'
  exact ⟨v, r, e, RV.nrm tp fz n'.1 h, RVs.nrm tp fz n'.2 t⟩
end
theorem Sim.none : Sim K [] [] H := ⟨rfl, λ i j a o o' _ _ h => by simp at h, λ n o h => by simp at h⟩
theorem Sim.frame (S : Sim K φ A H) (k : ∀ a o, H a = some o -> H1 a = some o) (l : Le K φ H φ H1) : Sim K φ A H1 :=
 ⟨S.len, S.inj, λ n o e => let ⟨a, h1, q⟩ := S.ob n o e; ⟨a, h1, q.keep l λ u hu => k a u hu⟩⟩
theorem Le.apart (l : Le K [] H φ1 H1) : Le K φ H φ H1 /\ ∀ a o, H a = some o -> H1 a = some o :=
 have k : ∀ a o, H a = some o -> H1 a = some o := λ a o h => l.fr a o h λ n e => by simp at e
 ⟨⟨λ _ _ h => h, l.tp, λ a o h _ => k a o h, λ _ _ h => .inl h, l.st, l.fz⟩, k⟩
theorem Sim.trackN {D : Addr} {u : HO} {o : O} (S : Sim K φ A H) (hD : H D = some u) (n : ∀ (k : Nat) (q : O), φ[k]? = some D -> A[k]? = some q -> q.mut = false) (new : OR K (φ ++ [D]) H D o) : Sim K (φ ++ [D]) (A ++ [o]) H := by
 have l : LeW K φ H (φ ++ [D]) H := ⟨λ n a h => by
  have := (List.getElem?_eq_some_iff.mp h).1
  rw [List.getElem?_append_left this]; exact h, λ _ _ h => h, λ _ _ _ h => h⟩
 have old : ∀ (i : Nat) a, (φ ++ [D])[i]? = some a -> i < A.length -> φ[i]? = some a := λ i a e hi => by
  rw [List.getElem?_append_left (by rw [S.len]; exact hi)] at e; exact e
 have last : ∀ a, (φ ++ [D])[A.length]? = some a -> a = D := λ a e => by
  rw [List.getElem?_append_right (by rw [S.len]; exact Nat.le_refl _), S.len] at e
  simpa using e.symm
 refine ⟨by simp [S.len], λ i j a o1 o2 h1 h2 h3 h4 m1 m2 => ?_, λ k o' e => ?_⟩
 ·by_cases hi : i < A.length
  ·rw [List.getElem?_append_left hi] at h3
   by_cases hj : j < A.length
   ·rw [List.getElem?_append_left hj] at h4
    exact S.inj i j a o1 o2 (old i a h1 hi) (old j a h2 hj) h3 h4 m1 m2
   ·exfalso
    have hj' : j = A.length := by have := (List.getElem?_eq_some_iff.mp h4).1; simp at this; omega
    subst hj'
    have z := n i o1 (by rw [<- last a h2]; exact old i a h1 hi) h3
    rw [m1] at z; cases z
  ·have hi' : i = A.length := by have := (List.getElem?_eq_some_iff.mp h3).1; simp at this; omega
   by_cases hj : j < A.length
   ·exfalso
    rw [List.getElem?_append_left hj] at h4
    subst hi'
    have z := n j o2 (by rw [<- last a h1]; exact old j a h2 hj) h4
    rw [m2] at z; cases z
   ·have := (List.getElem?_eq_some_iff.mp h4).1; simp at this; omega
 ·by_cases hn : k < A.length
  ·rw [List.getElem?_append_left hn] at e
   obtain ⟨a, e1, q⟩ := S.ob k o' e
   refine ⟨a, l.ex _ _ e1, ?_⟩
   cases o' with
   | lst ws => obtain ⟨vs, z, r⟩ := q; exact ⟨vs, z, r.monoW l⟩
   | dct ws => obtain ⟨vs, z, z2, r⟩ := q; exact ⟨vs, z, z2, r.monoW l⟩
   | tab _ _ => exact q
   | ro ws => obtain ⟨vs, z, r⟩ := q; exact ⟨vs, z, r.monoW l⟩
  ·have hn' : k = A.length := by have := (List.getElem?_eq_some_iff.mp e).1; simp at this; omega
   subst hn'
   rw [List.getElem?_append_right (Nat.le_refl _)] at e
   simp at e
   subst e
   exact ⟨D, by rw [List.getElem?_append_right (by rw [S.len]; exact Nat.le_refl _), S.len]; simp, new⟩
theorem Sim.adopt {n : Nat} {a : Addr} {o : O} (S : Sim K φ A H) (l : Le K [] H φ1 H1) (h1 : φ1[n]? = some a) (m : ∃ u, H1 a = some u) (new : OR K (φ ++ [a]) H1 a o) :
  Le K φ H (φ ++ [a]) H1 /\ Sim K (φ ++ [a]) (A ++ [o]) H1 /\ RV K (φ ++ [a]) H1 (.ref A.length) (.ref a) := by
 obtain ⟨la, k⟩ := l.apart (φ := φ)
 have h0 : H a = Option.none := by
  rcases l.nw n a h1 with e | e
  ·simp at e
  ·exact e
 obtain ⟨u, hu⟩ := m
 have S1 := S.frame k la
 refine ⟨la.zi0 h0, S1.trackN hu (λ k q e1 e2 => ?_) new, a, rfl, by rw [<- S.len]; simp⟩
 cases hq : q.mut with
 | false => rfl
 | true =>
  obtain ⟨a', e3, r⟩ := S.ob k q e2
  rw [e1] at e3; cases e3
  obtain ⟨z, hz, _⟩ := r.there hq
  rw [h0] at hz; cases hz
theorem OR.nrL {a : Addr} {ws : List W} (h : OR K φ H a (.lst ws)) (n : nrs ws = true) : OR K φ' H a (.lst ws) := let ⟨vs, e, r⟩ := h; ⟨vs, e, r.nrm (λ _ _ t => t) (λ _ _ _ t => t) n⟩
theorem OR.nrD {a : Addr} {kvs : List (Key × W)} (h : OR K φ H a (.dct kvs)) (n : nrs (kvs.map (·.2)) = true) : OR K φ' H a (.dct kvs) := let ⟨vs, e, e2, r⟩ := h; ⟨vs, e, e2, r.nrm (λ _ _ t => t) (λ _ _ _ t => t) n⟩
variable {P : Program} {w : World} {mg : Str -> Option Value} {base : Heap}
theorem FnM.iso {k n : Nat} {x : Str} {f : Fn} (F : FnM P w K mg base k x n f) : FnM P w K mg base k x n (iso f) := by
 obtain ⟨fa, fd, ps, F, a, b, c⟩ := F
 refine ⟨fa, fd, ps, F.imp λ vs H Q E ⟨hl, φ, A, ws, S, r, q⟩ => ?_, a, b, c⟩
 unfold Mi.iso at q
 by_cases hn : nrs ws = true
 ·rw [if_pos hn] at q
  refine ⟨hl, [], [], ws, Sim.none, r.nrm (λ _ _ t => t) (λ _ _ _ t => t) hn, ?_⟩
  cases hf : f ws [] with
  | ok w A1 =>
   rw [hf] at q
   dsimp only at q
   intro φ1 H1 v l1 S1 q1
   cases w with
   | ref m =>
    dsimp only at q
    cases hm : A1[m]? with
    | none => rw [hm] at q; exact q.elim
    | some o =>
     rw [hm] at q
     obtain ⟨a', ea, hr⟩ := S1.ob m o hm
     obtain ⟨a2, rfl, ea2⟩ := q1
     rw [ea] at ea2; cases ea2
     cases o with
     | lst us =>
      dsimp only at q
      by_cases hu : nrs us = true
      ·rw [if_pos hu] at q
       obtain ⟨t, ht, _⟩ := hr.there rfl
       obtain ⟨b1, b2, b3⟩ := S.adopt l1 ea ⟨t, ht⟩ (o := .lst us) (hr.nrL hu)
       exact q _ _ _ b1 b2 b3
      ·rw [if_neg hu] at q; exact q.elim
     | dct us =>
      dsimp only at q
      by_cases hu : nrs (us.map (·.2)) = true
      ·rw [if_pos hu] at q
       obtain ⟨t, ht, _⟩ := hr.there rfl
       obtain ⟨b1, b2, b3⟩ := S.adopt l1 ea ⟨t, ht⟩ (o := .dct us) (hr.nrD hu)
       exact q _ _ _ b1 b2 b3
      ·rw [if_neg hu] at q; exact q.elim
     | ro us => exact q.elim
     | tab _ _ => exact q.elim
   | _ =>
    all_goals
     dsimp only at q
     obtain ⟨la, kk⟩ := l1.apart (φ := φ)
     first
      | exact q φ H1 v la (S.frame kk la) q1
      | (
        split at q
        ·rename_i hw
         exact q φ H1 v la (S.frame kk la) (RV.nrm (λ _ _ t => t) (λ _ _ _ t => t) hw q1)
        ·exact q.elim)
  | exc y A1 => rw [hf] at q; exact q.elim
  | bad => rw [hf] at q; exact q.elim
 ·rw [if_neg hn] at q; exact q.elim
theorem FnM.isoL {k n : Nat} {x : Str} {f : Fn} (F : FnM P w K mg base k x n f) : FnM P w K mg base k x n (isoL f) := by
 obtain ⟨fa, fd, ps, F, a, b, c⟩ := F
 refine ⟨fa, fd, ps, F.imp λ vs H Q E ⟨hl, φ, A, ws, S, r, q⟩ => ?_, a, b, c⟩
 unfold Mi.isoL at q
 cases ws with
 | nil => exact q.elim
 | cons w0 us => cases w0 with
  | ref n =>
   dsimp only at q
   cases hA : A[n]? with
   | none => rw [hA] at q; exact q.elim
   | some o => cases o with
    | lst xs =>
     rw [hA] at q
     dsimp only at q
     by_cases hn : (nrs xs && nrs us) = true
     ·rw [if_pos hn] at q
      rw [Bool.and_eq_true] at hn
      obtain ⟨v0, vr, rfl, q0, qr⟩ := r
      obtain ⟨p, ys, rfl, f1, g1, r1⟩ := S.lst q0 hA
      have S0 : Sim K [p] [.lst xs] H := by
       refine ⟨rfl, λ i j a o o' h1 h2 h3 h4 _ _ => ?_, λ m o e => ?_⟩
       ·have := (List.getElem?_eq_some_iff.mp h1).1
        have := (List.getElem?_eq_some_iff.mp h2).1
        simp at *
        omega
       ·have : m = 0 := by have := (List.getElem?_eq_some_iff.mp e).1; simp at this; omega
        subst this
        simp at e
        subst e
        exact ⟨p, rfl, ys, g1, r1.nrm (λ _ _ t => t) (λ _ _ _ t => t) hn.1⟩
      refine ⟨hl, [p], [.lst xs], .ref 0 :: us, S0, .cons ⟨p, rfl, rfl⟩ (qr.nrm (λ _ _ t => t) (λ _ _ _ t => t) hn.2), ?_⟩
      cases hf : f (.ref 0 :: us) [.lst xs] with
      | ok w A1 =>
       rw [hf] at q
       dsimp only at q
       intro φ1 H1 v l1 S1 q1
       cases h0 : List.head? A1 with
       | none => rw [h0] at q; exact q.elim
       | some o => cases o with
        | lst zs =>
         rw [h0] at q
         dsimp only at q
         by_cases hw : (nrs zs && w.nr) = true
         ·rw [if_pos hw] at q
          rw [Bool.and_eq_true] at hw
          have apart : ∀ a o, a ≠ p -> H a = some o -> H1 a = some o := λ a o ne h => l1.fr a o h λ m e => by
           have : m = 0 := by have := (List.getElem?_eq_some_iff.mp e).1; simp at this; omega
           subst this
           simp at e
           exact ne e.symm
          have lf : Le K φ H φ H1 := ⟨λ _ _ h => h, l1.tp, λ a o h nn => apart a o (λ e => nn n (by rw [e]; exact f1)) h, λ _ _ h => .inl h, l1.st, l1.fz⟩
          have hp : φ1[0]? = some p := l1.ex 0 p rfl
          obtain ⟨p', e1, us', e2, r2⟩ := S1.ob 0 _ (by rw [<- List.head?_eq_getElem?]; exact h0)
          rw [hp] at e1; cases e1
          refine q φ H1 v lf ?_ (RV.nrm (λ _ _ t => t) (λ _ _ _ t => t) hw.2 q1)
          have mt : ∀ (i : Nat) (w : O), (A.set n (.lst zs))[i]? = some w -> w.mut = true -> ∃ w', A[i]? = some w' /\ w'.mut = true := λ i w e mw => by
           by_cases hi : i = n
           ·subst hi; exact ⟨_, hA, rfl⟩
           ·rw [List.getElem?_set_ne (Ne.symm hi)] at e; exact ⟨w, e, mw⟩
          refine ⟨by simp [S.len], λ i j a o1 o2 h1 h2 h3 h4 m1 m2 => ?_, λ i w e => ?_⟩
          ·obtain ⟨w1, e1, k1⟩ := mt i o1 h3 m1
           obtain ⟨w2, e2, k2⟩ := mt j o2 h4 m2
           exact S.inj i j a w1 w2 h1 h2 e1 e2 k1 k2
          ·by_cases hi : i = n
           ·subst hi
            have : i < A.length := (List.getElem?_eq_some_iff.mp hA).1
            rw [List.getElem?_set_self this] at e; cases e
            exact ⟨p, f1, us', e2, r2.nrm (λ _ _ t => t) (λ _ _ _ t => t) hw.1⟩
           ·rw [List.getElem?_set_ne (Ne.symm hi)] at e
            obtain ⟨a, e1, rr⟩ := S.ob i w e
            refine ⟨a, e1, ?_⟩
            by_cases hm : w.mut = true
            ·have ne : a ≠ p := λ z => hi (S.inj i n a w _ e1 (by rw [z]; exact f1) e hA hm rfl)
             exact rr.keep lf λ z hz => apart a z ne hz
            ·cases w with
             | lst _ => exact absurd rfl hm
             | dct _ => exact absurd rfl hm
             | tab _ _ => exact absurd rfl hm
             | ro ws =>
              obtain ⟨vs, r1, r2⟩ := rr
              refine ⟨vs, ?_, r2.mono lf⟩
              rcases r1 with ⟨ob, r1⟩ | r1
              ·refine .inl ⟨ob, apart a _ ?_ r1⟩
               intro z; subst z; rw [g1] at r1; cases r1
              ·exact .inr r1
         ·rw [if_neg hw] at q; exact q.elim
        | _ => rw [h0] at q; exact q.elim
      | exc y A1 => rw [hf] at q; exact q.elim
      | bad => rw [hf] at q; exact q.elim
     ·rw [if_neg hn] at q; exact q.elim
    | _ => rw [hA] at q; exact q.elim
  | _ => exact q.elim
end
end Mi
namespace Mi
open PySem PySem.Spec PyProof.Rows L2
section
variable {X : Cx} {xr : XR} {K : Frag} {e a b c : Expr} {es : List Expr} {m ma mb mc : Ev} {pos : Pos} {st : Stmt}
noncomputable def intsOf : List W -> Option (List Int)
 | [] => some []
 | w :: ws => match w with
  | .int i => match intsOf ws with
   | some is => some (i :: is)
   | none => none
  | _ => none
theorem zhr : ∀ {ws : List W} {ns : List Int}, intsOf ws = some ns -> ws = ns.map W.int
 | [], _, e => by cases e; rfl
 | w :: ws, ns, e => by
  unfold intsOf at e
  cases w with
  | int i =>
   dsimp only at e
   cases e2 : intsOf ws with
   | none => rw [e2] at e; cases e
   | some is => rw [e2] at e; cases e; rw [zhr e2]; rfl
  | _ => cases e
noncomputable def maxI : List Int -> Int -> Int
 | [], m => m
 | i :: is, m => maxI is (if i > m then i else m)
theorem zkh (ns : List Int) : ∀ (k : Nat) (hk : k < ns.length), maxI (ns.drop (k + 1)) (ns.getD (argBest (λ i j => decide (ns.getD i 0 > ns.getD j 0)) k) 0) = maxI ns.tail (ns.getD 0 0) := by
 intro k
 induction k with
 | zero => intro _; rw [show argBest _ 0 = 0 from rfl, List.drop_one]
 | succ k ih =>
  intro hk
  have hk' : k < ns.length := by omega
  rw [<- ih hk']
  have e : ns.drop (k + 1) = ns[k + 1] :: ns.drop (k + 1 + 1) := List.drop_eq_getElem_cons hk
  rw [e]
  have e3 : ns.getD (k + 1) 0 = ns[k + 1] := by rw [List.getD_eq_getElem?_getD, List.getElem?_eq_getElem hk]; rfl
  show maxI _ (ns.getD (if decide (ns.getD (k + 1) 0 > ns.getD (argBest _ k) 0) = true then k + 1 else argBest _ k) 0) = maxI _ (if ns[k + 1] > ns.getD (argBest _ k) 0 then ns[k + 1] else ns.getD (argBest _ k) 0)
  rw [e3]
  by_cases h : ns[k + 1] > ns.getD (argBest (λ i j => decide (ns.getD i 0 > ns.getD j 0)) k) 0
  ·rw [if_pos (by rw [decide_eq_true_iff]; exact h), if_pos h, e3]
  ·rw [if_neg (by rw [decide_eq_true_iff]; exact h), if_neg h]
noncomputable def zoG (K : Frag) (C : List Int -> Prop) (f : List Int -> Int) : List V -> Hp -> VK -> Prop := λ xs H Q => ∃ a ns, xs = [.ref a] /\ (SqL K H a (ns.map V.int) ∨ SqT K H a (ns.map V.int)) /\ C ns /\ Q (.int (f ns)) H
theorem zhG {ns : List Int} {its : List Value} (rv : Vals (ns.map V.int) its) {i : Nat} {v : Value} (h : its[i]? = some v) : ∃ t, v = .int (ns.getD i 0) t := by
 have hi : i < its.length := (List.getElem?_eq_some_iff.mp h).1
 have hi' : i < ns.length := by have := rv.length; rw [List.length_map] at this; omega
 obtain ⟨u, h1, h2⟩ := rv.get (i := i) (x := V.int ns[i]) (by simp [hi'])
 rw [h] at h1; cases h1
 obtain ⟨t, rfl⟩ := h2
 exact ⟨t, by rw [List.getD_eq_getElem?_getD, List.getElem?_eq_getElem hi']; rfl⟩
theorem zks (hc : X.calm = true) : zcV X (.builtin "max") (zoG X.K (λ ns => ns ≠ []) λ ns => maxI ns.tail (ns.getD 0 0)) := by
 intro pins s σ H xs us Q I r h
 obtain ⟨a, ns, rfl, z, hne, q⟩ := h
 obtain ⟨u, rfl, ru⟩ := vals1 r
 cases ru
 have hp : 0 < ns.length := List.length_pos_iff.mpr hne
 refine call_max_walk (zii I hc z λ its I' fp wr St' s2 rv hz W st hfp back => ?_)
 have e : its.length = ns.length := by have := rv.length; rw [List.length_map] at this; omega
 refine ⟨I', fp, wr, _, _, St', λ i j => decide (ns.getD i 0 > ns.getD j 0), rfl, W, st, hfp, by omega, ?_, λ v h' tk hv k => ?_⟩
 ·intro i j vi vj s' Q' E' h1 h2 hQ
  obtain ⟨t1, rfl⟩ := zhG rv h1
  obtain ⟨t2, rfl⟩ := zhG rv h2
  exact (PyProof.Rows.gt_int hQ : wpAny (model X.prog X.w) X.A.in1 (compareOp .Gt (.int (ns.getD i 0) t1) (.int (ns.getD j 0) t2)) Q' E' s')
 ·obtain ⟨t, rfl⟩ := zhG rv hv
  rw [e]
  have b := zkh ns (ns.length - 1) (by omega)
  rw [show ns.length - 1 + 1 = ns.length by omega, List.drop_length] at b
  have b' : ns.getD (argBest (λ i j => decide (ns.getD i 0 > ns.getD j 0)) (ns.length - 1)) 0 = maxI ns.tail (ns.getD 0 0) := b
  rw [b']
  exact ⟨.int _, H, back h' tk k, ⟨_, rfl⟩, q⟩
noncomputable def gMax : List W -> Hx -> R W := λ ws A => match intsOf ws with
 | some (i :: is) => .ok (.int (maxI is i)) A
 | _ => .bad
theorem zog : ∀ ws A, zY (gMax ws A) := λ ws A => by
 unfold gMax; split
 ·exact zcb
 ·exact zaN
theorem zjl {φ : List Addr} {H : Hp} {ws : List W} {ys : List V} {ns : List Int} {a : Addr} (z : SqL K H a ys ∨ SqT K H a ys) (r : RVs K φ H ws ys) (e : intsOf ws = some ns) : SqL K H a (ns.map V.int) ∨ SqT K H a (ns.map V.int) := by
 rw [zhr e] at r
 rw [<- RVs.ints.mp r]; exact z
theorem zmh : OpQ K (zoG K (λ ns => ns ≠ []) λ ns => maxI ns.tail (ns.getD 0 0)) gMax := λ φ A H a ys ws Q S z r p => by
 unfold gMax at p
 cases e : intsOf ws with
 | none => rw [e] at p; exact p.elim
 | some ns => cases ns with
  | nil => rw [e] at p; exact p.elim
  | cons i is => rw [e] at p; exact ⟨a, i :: is, rfl, zjl z r e, (by intro z; cases z), p φ H _ .refl S rfl⟩
theorem zdx {p : Pos} {q : Eq'} (hc : X.calm = true) (hm : X.mg "max" = none) (ha : SQ X xr e q) (hg : Gl X "max" := by rfl) (he : starEach [e] X.env = (false, eval e X.env) :: starEach [] X.env := by rfl) :
  SE X xr (.Call (.Name "max" p) [e] [] pos) (mQ gMax q) := zm3 (zks hc) zog zmh hm (by rfl) ha hg (by decide) (by decide) he (by rfl)
end
end Mi
namespace Mi
open PySem PySem.Spec PyProof.Rows L2
section
variable {X : Cx} {xr : XR} {K : Frag} {e a b c : Expr} {es : List Expr} {m ma mb mc : Ev} {pos : Pos} {st : Stmt}
noncomputable def Itc (lo d : Int) (n : Nat) : It := ⟨λ i _ => i < n, λ i H x H' => H' = H /\ x = .int (lo + i * d), λ i _ => n <= i⟩
noncomputable def zpR (ta : TA) : TI := λ σ H R => ta σ H λ vs H1 => ∃ i j : Int, vs = [.int i, .int j, .int (-1)] /\ (-(2 ^ 62) <= i /\ i < 2 ^ 62 /\ -(2 ^ 62) <= j /\ j < 2 ^ 62) /\ R (Itc i (-1) (i - j).toNat) H1
noncomputable def dnIt (hi : Int) (n : Nat) : Itx := ⟨λ _ i => if i < n then some (some (.int (hi - i))) else some none, n⟩
end
end Mi
namespace Mi
open PySem PySem.Spec PyProof.Rows L2
noncomputable def ItAt (k : Bool) (h : Heap) (it a : Addr) (i : Nat) : Prop := if k = true then h.IsListIter it a i else h.IsTupleIter it a i
noncomputable def SqAt (k : Bool) (h : Heap) (a : Addr) (items : Array Value) : Prop := if k = true then h.IsList a items else h.IsTuple a items
noncomputable def SqV (k : Bool) (K : Frag) (H : Hp) (a : Addr) (xs : List V) : Prop := if k = true then SqL K H a xs else SqT K H a xs
noncomputable def zh2 (k : Bool) : String := if k then "list_iterator" else "tuple_iterator"
theorem ItAt.ob {k : Bool} {h : Heap} {it a : Addr} {i : Nat} (x : ItAt k h it a i) : ∃ o, h.get? it = some o /\ o.cls = .type (zh2 k) /\ o.data = .fields #[.ref a, .int i 0] := by
 cases k <;> exact x
theorem ItAt.mk {k : Bool} {h : Heap} {it a : Addr} {i : Nat} (x : ∃ o, h.get? it = some o /\ o.cls = .type (zh2 k) /\ o.data = .fields #[.ref a, .int i 0]) : ItAt k h it a i := by
 cases k <;> exact x
theorem ItAt.to {k : Bool} {h h' : Heap} {it a : Addr} {i : Nat} (x : ItAt k h it a i) (e : ∀ o, h.get? it = some o -> h'.get? it = some o) : ItAt k h' it a i := let ⟨o, h1, r⟩ := x.ob; .mk ⟨o, e o h1, r⟩
theorem SqAt.ob {k : Bool} {h : Heap} {a : Addr} {items : Array Value} (x : SqAt k h a items) : ∃ o, h.get? a = some o /\ o.cls = .type (if k then "list" else "tuple") /\ ∃ n, o.data = .seq items n := by
 cases k <;> exact x
theorem SqAt.to {k : Bool} {h h' : Heap} {a : Addr} {items : Array Value} (x : SqAt k h a items) (e : ∀ o, h.get? a = some o -> h'.get? a = some o) : SqAt k h' a items := by
 cases k with
 | false => exact let ⟨o, h1, r⟩ := x.ob; ⟨o, e o h1, r⟩
 | true => exact let ⟨o, h1, r⟩ := x.ob; ⟨o, e o h1, r⟩
section
variable {prog : Program} {w : World} {A : Around} {E : Value -> Shared -> Prop} {s : Shared} {k : Bool} {it a : Addr} {i : Nat} {items : Array Value}
theorem zjF {Q : Value -> Shared -> Prop} (hl : SqAt k s.heap a items) (hQ : Q (.ref s.heap.objs.size) { s with heap := s.heap.push { cls := .type (zh2 k), data := .fields #[.ref a, .int 0 0] } }) : wpAny (model prog w) A (pyIter (.ref a)) Q E s := by
 cases k with
 | true => exact wpAny_pyIter_list hl hQ
 | false => exact wpAny_pyIter_tuple hl hQ
theorem zfV {x : Value} {Q : Value -> Shared -> Prop} (hit : ItAt k s.heap it a i) (hl : SqAt k s.heap a items) (hx : items[i]? = some x)
  (hQ : ∀ h', ItAt k h' it a (i + 1) -> Heap.SameBut it s.heap h' -> Q x { s with heap := h' }) : wpAny (model prog w) A (Builtin.SmallTypes.nextOf (.ref it)) Q E s := by
 cases k with
 | true => exact wpAny_nextOf_list_item hit hl hx hQ
 | false =>
  have hit' : s.heap.IsTupleIter it a i := hit
  obtain ⟨oi, hoi, hci, hdi⟩ := id hit'
  obtain ⟨oa, hoa, _, na, hda⟩ : s.heap.IsTuple a items := hl
  unfold Builtin.SmallTypes.nextOf
  refine wpAny_bind (wpAny_callSpecial?_slot (name := Str.ofString "__next__") hit'.typeIs F.slot_tuple_iterator_next (wpAny_call_entry F.slot_tuple_iterator_next hit'.typeIs F.entry_tuple_iterator_next ?_ (F.args_tuple_iterator_next_1 _)))
  show wpAny _ _ (field (.ref it) 0 >>= _) _ _ s; refine wpAny_bind (wpAny_field hoi hdi (x := .ref a) rfl ?_)
  show wpAny _ _ (if (Value.ref a == Value.none) = true then _ else _) _ _ s; rw [if_neg (show ¬ ((Value.ref a == Value.none) = true) from Bool.false_ne_true)]
  show wpAny _ _ (field (.ref it) 1 >>= _) _ _ s; refine wpAny_bind (wpAny_field hoi hdi (x := .int i 0) rfl ?_)
  show wpAny _ _ (seqItems? (.ref a) >>= _) _ _ s; refine wpAny_bind (wpAny_seqItems hoa hda ?_)
  simp only [Int.toNat_natCast, hx]
  refine wpAny_bind (wpAny_setField hoi hdi (by simp) (wpAny_pure ⟨x, rfl, wpAny_pure (hQ _ (.mk ?_) (Heap.SameBut.update ..))⟩))
  exact ⟨_, Heap.get?_update_self _ hoi (Obj.isFreed_of_fields (Obj.data_mapFields hdi _)), (Obj.cls_mapFields ..).trans hci, by rw [Obj.data_mapFields hdi]; simp [rawInt]⟩
theorem zjR {Q : Value -> Shared -> Prop} (hh : A.handled = none) (hit : ItAt k s.heap it a i) (hl : SqAt k s.heap a items) (hx : items[i]? = none)
  (hE : ∀ h' e, Heap.ExtBut it s.heap h' -> (∃ o, h'.get? e = some o /\ o.cls = .type "StopIteration") -> E (.ref e) { s with heap := h' }) : wpAny (model prog w) A (Builtin.SmallTypes.nextOf (.ref it)) Q E s := by
 cases k with
 | true => exact wpAny_nextOf_list_end hh hit hl hx hE
 | false =>
  have hit' : s.heap.IsTupleIter it a i := hit
  obtain ⟨oi, hoi, hci, hdi⟩ := id hit'
  obtain ⟨oa, hoa, _, na, hda⟩ : s.heap.IsTuple a items := hl
  unfold Builtin.SmallTypes.nextOf
  refine wpAny_bind (wpAny_callSpecial?_slot (name := Str.ofString "__next__") hit'.typeIs F.slot_tuple_iterator_next (wpAny_call_entry F.slot_tuple_iterator_next hit'.typeIs F.entry_tuple_iterator_next ?_ (F.args_tuple_iterator_next_1 _)))
  show wpAny _ _ (field (.ref it) 0 >>= _) _ _ s; refine wpAny_bind (wpAny_field hoi hdi (x := .ref a) rfl ?_)
  show wpAny _ _ (if (Value.ref a == Value.none) = true then _ else _) _ _ s; rw [if_neg (show ¬ ((Value.ref a == Value.none) = true) from Bool.false_ne_true)]
  show wpAny _ _ (field (.ref it) 1 >>= _) _ _ s; refine wpAny_bind (wpAny_field hoi hdi (x := .int i 0) rfl ?_)
  show wpAny _ _ (seqItems? (.ref a) >>= _) _ _ s; refine wpAny_bind (wpAny_seqItems hoa hda ?_)
  simp only [Int.toNat_natCast, hx]
  refine wpAny_bind (wpAny_rule (wpAny_bind (wpAny_setField hoi hdi (by simp) ?_)))
  show wpAny _ _ (newExc (.type "StopIteration") [] >>= _) _ _ _; refine wpAny_bind ?_; simp only [newExc, newTuple]
  refine wpAny_bind (wpAny_newObj_type ?_ (by size_fits))
  refine wpAny_bind (m := firstArgMember _ _) (wpAny_of_eq (a := Value.none) (by first | rfl | (simp only [firstArgMember]; rfl)) ?_); refine wpAny_newObj_type ?_ (by size_fits)
  simp only [raiseNew]; refine wpAny_bind (wpAny_handled ?_)
  first | rw [show A.in1.handled = none from hh] | rw [hh]
  refine wpAny_bind (wpAny_pure (wpAny_throw ?_)); exact hE _ _ (((Heap.SameBut.update ..).extBut.push _).push _) ⟨_, Heap.get?_push_size _ rfl, rfl⟩
theorem zio (hh : A.handled = none) (hne : a ≠ it) : Draws prog w A it [it, a] items.size (λ i v => items[i]? = some v) (λ i h => ItAt k h it a i /\ SqAt k h a items) where
 live := λ _ _ st => let ⟨o, ho, _⟩ := st.1.ob; ⟨o, ho⟩
 frame := λ _ _ _ st hk => ⟨st.1.to λ o e => hk it (by simp) o e, st.2.to λ o e => hk a (by simp) o e⟩
 item := λ i s Q E hi st hQ => zfV st.1 st.2 (x := items[i]) (by simp [hi]) λ h' hit' hs' => hQ _ h' s.toks (by simp [hi]) ⟨hit', st.2.to λ o e => hs'.extBut a o hne e⟩ hs'
 done := λ s Q E st hE => zjR hh st.1 st.2 (by simp) hE
end
section
variable {X : Cx} {pins : List (Addr × Obj)} {σ : St} {H : Hp} {s : Shared} {h' : Heap} {t' : Nat} {fp : List Addr}
theorem _root_.L2.Inv.spun {T : Addr} {o : HO} (I : Inv X pins σ H s) (k : ∀ b u, b ∉ fp -> s.heap.get? b = some u -> h'.get? b = some u) (hf : ∀ b ∈ fp, FpOk X pins H b) (hT : s.heap.objs.size <= T)
  (new : zZ X.prog X.w (upd H T o) h' T o) : Inv X pins σ (upd H T o) { s with heap := h', toks := t' } := by
 have hn : H T = none := I.hok.fresh hT
 have lt : ∀ b u, s.heap.get? b = some u -> b ≠ T := λ b u e => Nat.ne_of_lt (Nat.lt_of_lt_of_le (Heap.lt_size e) hT)
 have nf : ∀ b u, H b = some u -> b ∉ fp := λ b u e z => by rw [(hf b z).1] at e; cases e
 refine I.step (g' := s.gens) (d' := s.drawn) (ch := fp) (λ b hb => let ⟨_, f1, _, f3, f4, f5⟩ := hf b hb; ⟨f3, f1, f4, f5⟩) (λ b o _ _ hc e _ => k b o hc e) (λ b o _ _ hc e _ => ⟨o.slots, k b o hc e⟩)
  (λ b o _ e n => by rw [zP (lt b o e)]; exact n) (λ b o hc e => ⟨o, k b o hc e⟩) (λ b xs e => by rw [zP (zau e hn)]; exact e) (λ b u xs e => by rw [zP (zau e hn)]; exact e)
  (λ b ps e => ⟨#[], by rw [zP (zau e hn), e]; simp⟩) (λ m hm => ?_) (λ b u e => ?_) I.bare
 ·obtain ⟨o, es, ep, ho, r⟩ := hm
  exact ⟨o, es, ep, k _ o (λ z => (hf _ z).2.1 rfl) ho, r⟩
 ·by_cases hb : b = T
  ·subst hb; rw [zal] at e; cases e; exact new
  ·rw [zP hb] at e
   refine (I.hok b u e).stay (λ c v hc q => k c v ?_ q) (λ c q => by rw [zP (zau q hn)]; exact q) λ c xs q => by rw [zP (zau q hn)]; exact q
   rcases hc with z | z
   ·rw [z]; exact nf b u e
   ·exact nf c _ z
theorem _root_.L2.Inv.spun0 (I : Inv X pins σ H s) (k : ∀ b u, b ∉ fp -> s.heap.get? b = some u -> h'.get? b = some u) (hf : ∀ b ∈ fp, FpOk X pins H b) : Inv X pins σ H { s with heap := h', toks := t' } := by
 have nf : ∀ b u, H b = some u -> b ∉ fp := λ b u e z => by rw [(hf b z).1] at e; cases e
 refine I.step (g' := s.gens) (d' := s.drawn) (ch := fp) (λ b hb => let ⟨_, f1, _, f3, f4, f5⟩ := hf b hb; ⟨f3, f1, f4, f5⟩) (λ b o _ _ hc e _ => k b o hc e) (λ b o _ _ hc e _ => ⟨o.slots, k b o hc e⟩)
  (λ b o _ e n => n) (λ b o hc e => ⟨o, k b o hc e⟩) (λ b xs e => e) (λ b u xs e => e) (λ b ps e => ⟨#[], by rw [e]; simp⟩) (λ m hm => ?_) (λ b u e => ?_) I.bare
 ·obtain ⟨o, es, ep, ho, r⟩ := hm
  exact ⟨o, es, ep, k _ o (λ z => (hf _ z).2.1 rfl) ho, r⟩
 ·refine (I.hok b u e).stay (λ c v hc q => k c v ?_ q) (λ c q => q) λ c xs q => q
  rcases hc with z | z
  ·rw [z]; exact nf b u e
  ·exact nf c _ z
theorem _root_.L2.Inv.sq {k : Bool} {a : Addr} {xs : List V} (I : Inv X pins σ H s) (h : SqV k X.K H a xs) : ∃ its : List Value, Vals xs its /\ SqAt k s.heap a its.toArray /\ xs.length <= sizeLine := by
 cases k with
 | true => obtain ⟨its, r, p, z⟩ := I.list h; exact ⟨its, r, p.isList, z⟩
 | false => obtain ⟨its, r, p, z⟩ := I.tuple h; exact ⟨its, r, (show s.heap.IsTuple a its.toArray from p), z⟩
theorem _root_.L2.Inv.sq_inj {k : Bool} {a : Addr} {xs ys : List V} (I : Inv X pins σ H s) (h : SqV k X.K H a xs) (h' : SqV k X.K H a ys) : xs = ys := by
 cases k with
 | true => exact I.list_inj h h'
 | false => exact I.tuple_inj h h'
end
noncomputable def Ite (k : Bool) (K : Frag) (a : Addr) : It :=
 ⟨λ i H => ∃ xs x, SqV k K H a xs /\ xs[i]? = some x, λ i H x H' => ∃ p y, (∀ xs, SqV k K H a xs -> xs[i]? = some y) /\ H p = none /\ x = .ref p /\ H' = upd H p (.tup [.int i, y]), λ i H => ∃ xs, SqV k K H a xs /\ xs.length = i⟩
theorem zj2 {P : Program} {w : World} {K : Frag} {elts : List Expr} {kk : Nat} {tpos : Pos} (k : Bool) (a en it : Addr) : Turn P w K (.Tuple elts kk tpos) (Ite k K a) [en, it] en (λ i h => (∃ old, IsEnum h en it i old) /\ ItAt k h it a i /\ en ≠ it) where
 mem := by simp
 obj := λ i h st b hb => by
  obtain ⟨⟨old, he⟩, hi, _⟩ := st
  rcases List.mem_cons.mp hb with rfl | hb
  ·exact ⟨_, he, λ v z => nomatch z⟩
  ·rw [List.mem_singleton.mp hb]
   obtain ⟨o, ho, _, hd⟩ := hi.ob
   exact ⟨o, ho, λ v z => by rw [hd] at z; cases z⟩
 keep := λ i h h' ⟨⟨old, he⟩, hi, ne⟩ kp => ⟨⟨old, kp en (by simp) _ he⟩, hi.to λ o eo => kp it (by simp) o eo, ne⟩
 item := by
  intro X hP hw hK hc i pins s σ H E I hf st hg; subst hP hw hK
  obtain ⟨⟨old, he⟩, hi, ne⟩ := st
  obtain ⟨xs, x, hq, hx⟩ := hg
  obtain ⟨its, rv, hs, hz⟩ := I.sq hq
  obtain ⟨u, hu, ru⟩ := rv.get hx
  have hlt : i < its.toArray.size := by simpa using (List.getElem?_eq_some_iff.mp hu).1
  obtain ⟨oa, hoa, hca, na, hda⟩ := hs.ob
  have ani : a ≠ it := λ z => by
   obtain ⟨oi, hoi, hci, hdi⟩ := hi.ob
   rw [<- z, hoa] at hoi; cases hoi; rw [hdi] at hda; cases hda
  have ane : en ≠ a := λ z => by
   have he' : s.heap.get? a = _ := z ▸ he
   rw [hoa] at he'; cases he'; cases hda
  refine wpAny_pyNext_enum_itemD (zio (k := k) (items := its.toArray) (I.ok.hd hc) ani) he ⟨hi, hs⟩ hlt ne (by simp [ne, ane]) λ y h1 tk hy ho hst hT hsz hk => ?_
  have ey : y = u := by
   have : its[i]? = some y := by simpa using hy
   rw [hu] at this; exact (Option.some.inj this).symm
  subst ey
  refine ⟨_, rfl, wpAny_letOwnedTupleGo_enum ho λ h2 he2 hs2 => ?_⟩
  have ltE : en < s.heap.objs.size := Heap.lt_size he
  have hT2 : h2.get? s.heap.objs.size = some { cls := .type "tuple", data := .seq #[.int i tk, y] } := hs2.extBut _ _ (Nat.ne_of_gt ltE) hT
  refine ⟨.ref s.heap.objs.size, upd H s.heap.objs.size (.tup [.int i, x]), ?_, rfl, ⟨s.heap.objs.size, x, λ ys hy => by rw [I.sq_inj hy hq]; exact hx, I.hok.fresh (Nat.le_refl _), rfl, rfl⟩, ⟨⟨_, by simpa using he2⟩, ?_, ne⟩, λ b hb => ?_⟩
  ·refine I.spun (fp := [en, it]) (t' := tk + 1) (λ b o hb eo => ?_) hf (Nat.le_refl _) ?_
   ·exact hs2.extBut _ _ (λ z => hb (by simp [z])) (hk b o (λ z => hb (by simp [z])) (λ z => hb (by simp [z])) eo)
   ·exact ⟨by show 2 <= sizeLine; decide, [.int i tk, y], .cons ⟨tk, rfl⟩ (.cons ru .nil), _, hT2, ⟨rfl, rfl⟩, 0, rfl⟩
  ·exact hst.1.to λ o eo => hs2.extBut _ _ (λ z => ne z.symm) eo
  ·have bn : b ≠ s.heap.objs.size := λ z => by
    rcases List.mem_cons.mp hb with q | q
    ·exact absurd ltE (by rw [<- q, z]; exact Nat.lt_irrefl _)
    ·obtain ⟨oi, hoi, _⟩ := hi.ob
     exact absurd (Heap.lt_size hoi) (by rw [<- List.mem_singleton.mp q, z]; exact Nat.lt_irrefl _)
   show upd H s.heap.objs.size _ b = none
   rw [zP bn]; exact (hf b hb).1
 done := by
  intro X hP hw hK hc i pins s σ H E I hf st hg; subst hP hw hK
  obtain ⟨⟨old, he⟩, hi, ne⟩ := st
  obtain ⟨xs, hq, hx⟩ := hg
  obtain ⟨its, rv, hs, hz⟩ := I.sq hq
  have en' : its.toArray.size = i := by rw [List.size_toArray, <- rv.length]; exact hx
  obtain ⟨oa, hoa, hca, na, hda⟩ := hs.ob
  have ani : a ≠ it := λ z => by
   obtain ⟨oi, hoi, hci, hdi⟩ := hi.ob
   rw [<- z, hoa] at hoi; cases hoi; rw [hdi] at hda; cases hda
  refine wpAny_pyNext_enum_endD (zio (k := k) (items := its.toArray) (I.ok.hd hc) ani) he ⟨by rw [en']; exact hi, hs⟩ λ h1 hx1 => ⟨rfl, ?_⟩
  exact I.spun0 (fp := [en, it]) (t' := s.toks) (λ b o hb eo => hx1 b o (λ z => hb (by simp [z])) eo) hf
 self := λ _ _ _ _ _ ⟨⟨_, he⟩, _⟩ h => wpAny_pyIter_enum he h
end Mi
namespace Mi
open PySem PySem.Spec PyProof.Rows L2
open AutoSeq1 (wpAny_loadPart')
noncomputable abbrev enH1 (h : Heap) (k : Bool) (a : Addr) : Heap := h.push { cls := .type (zh2 k), data := .fields #[.ref a, .int 0 0] }
noncomputable abbrev enH2 (h : Heap) (k : Bool) (a : Addr) : Heap := (enH1 h k a).push { cls := .type "enumerate", data := .fields #[.none, .bool false, .ref h.objs.size, rawInt 0, .none, .none] }
theorem zhS (a : Addr) (items : Array Value) (n : Nat) (dd : Option Addr) (sl : Array (Option Value)) :
  Meets (Builtin.«enumerate.__new__» ⟨[.type "enumerate", .ref a], []⟩) (λ _ R s => s.heap.get? a = some { cls := .type "tuple", dict := dd, data := .seq items n, slots := sl } /\ R (.ok (.ret (.ref (enH1 s.heap false a).objs.size))) { s with heap := enH2 s.heap false a }) :=
 .of_wp λ prog w A R s h => by
  obtain ⟨hp, g, d, tk, os⟩ := s; obtain ⟨ha, h⟩ := h; have hsub := sub_enumerate
  have hT : Heap.IsTuple (Shared.heap ⟨hp, g, d, tk, os⟩) a items := ⟨_, ha, rfl, n, rfl⟩
  wp_walk using wpAny_loadPart' ha
  refine wpAny_stack_any λ st => wpAny_pure ?_; split
  ·rename_i c _ _ _ _ _
   cases (c == Value.type "enumerate") <;> (wp_walk using wpAny_loadPart' ha, wpAny_pyIter_tuple hT; exact ⟨_, rfl, h⟩)
  ·wp_walk using wpAny_loadPart' ha, wpAny_pyIter_tuple hT
   exact ⟨_, rfl, h⟩
section
variable {prog : Program} {w : World} {A : Around} {E : Value -> Shared -> Prop} {s : Shared}
theorem zjP {k : Bool} {a : Addr} {items : Array Value} {Q : Value -> Shared -> Prop} (hl : SqAt k s.heap a items)
  (h : ∀ h', IsEnum h' (s.heap.objs.size + 1) s.heap.objs.size 0 .none -> ItAt k h' s.heap.objs.size a 0 -> (∀ b o, s.heap.get? b = some o -> h'.get? b = some o) -> Q (.ref (s.heap.objs.size + 1)) { s with heap := h' }) :
  wpAny (model prog w) A (call (.type "enumerate") [.ref a]) Q E s := by
 cases k with
 | true => exact call_enumerate_list hl λ h' e1 e2 _ e4 => h h' e1 e2 e4
 | false =>
  obtain ⟨⟨c, dd, dt, sl⟩, ha, hc, n, hd⟩ := (show s.heap.IsTuple a items from hl)
  replace hc : c = .type "tuple" := hc
  replace hd : dt = .seq items n := hd
  subst hc hd
  refine callType_new F.called_enumerate (by decide) (F.typeCall_enumerate_1 _) (F.newCall_enumerate_1 _) (λ obj => F.args_object_init_2 obj _) F.entry_enumerate_new (zhS a items n dd sl) ⟨ha, ?_⟩
  have hz : (enH1 s.heap false a).objs.size = s.heap.objs.size + 1 := Heap.size_push ..
  have he : IsEnum (enH2 s.heap false a) (enH1 s.heap false a).objs.size s.heap.objs.size 0 .none := Heap.get?_push_size _ rfl
  show _ /\ _
  rw [hz] at he ⊢
  exact ⟨⟨_, he, rfl⟩, h _ he (.mk ⟨_, Heap.get?_push_of_some _ (Heap.get?_push_size _ rfl), rfl, rfl⟩) λ b o x => Heap.get?_push_of_some _ (Heap.get?_push_of_some _ x)⟩
end
section
variable {X : Cx} {xr : XR} {e a b : Expr} {m ma mb : Ev} {pos : Pos}
noncomputable def zpI (K : Frag) (ta : TA) : TI := λ σ H R => ta σ H λ vs H1 => ∃ p k xs, vs = [.ref p] /\ SqV k K H1 p xs /\ R (Ite k K p) H1
theorem boot_enumerate : bootBuiltins "enumerate" = some (.type "enumerate") := by rfl
theorem boot_zip : bootBuiltins "zip" = some (.type "zip") := by rfl
theorem zmc {elts : List Expr} {kk : Nat} {tpos p : Pos} {ta : TA} (hg : Gl X "enumerate") (hm : X.mg "enumerate" = none) (ha : PA X [a] ta) (hs : starEach [a] X.env = [(false, eval a X.env)]) :
  PI X (.Tuple elts kk tpos) (.Call (.Name "enumerate" p) [a] [] pos) (zpI X.K ta) := by
 intro pins s σ H R I h
 refine Call_ (zeR I hg hm boot_enumerate (PyProof.Rows.callWith_type1 (thn (ha pos pins s σ H _ I h) λ us s1 ⟨vs, H1, I1, r1, q1⟩ => ?_) hs rfl))
 obtain ⟨p, k, xs, rfl, hq, q⟩ := q1
 obtain ⟨u, rfl, ru⟩ := r1.one
 cases ru
 obtain ⟨its, rv, sq, hz⟩ := I1.sq hq
 refine zjP sq λ h' e1 e2 e3 => wpAny_pyIter_enum e1 ?_
 refine ⟨s1.heap.objs.size + 1, [s1.heap.objs.size + 1, s1.heap.objs.size], _, _, H1, rfl, I1.kept (t' := s1.toks) e3, zj2 k p _ _, ⟨⟨_, by simpa using e1⟩, e2, Nat.succ_ne_self _⟩, λ b hb => ?_, q⟩
 have hb' : s1.heap.objs.size <= b := by
  rcases List.mem_cons.mp hb with z | z
  ·rw [z]; exact Nat.le_succ _
  ·rw [List.mem_singleton.mp z]; exact Nat.le_refl _
 exact I1.fpOk hb' (I1.hok.fresh hb')
noncomputable def atEnd (ws : List W) (i : Nat) (f : W -> W) : Option (Option W) := match ws[i]? with
 | some x => some (some (f x))
 | none => if ws.length = i then some none else none
noncomputable def enIt (w : W) (n : Nat) : Itx := ⟨λ A i => match zK w A with
 | some ws => atEnd ws i λ x => .tup [.int i, x]
 | none => none, n⟩
noncomputable def zhf (w : W) : Bool := match w with
 | .tup _ => false
 | _ => true
theorem zeM {K : Frag} {φ : List Addr} {A : Hx} {H : Hp} {w : W} {ws : List W} {v : V} (S : Sim K φ A H) (q : RV K φ H w v) (e : zK w A = some ws) : ∃ p ys, v = .ref p /\ SqV (zhf w) K H p ys /\ RVs K φ H ws ys := by
 cases w with
 | tup us => cases e; obtain ⟨a, vs, ea, t, r⟩ := q; exact ⟨a, vs, ea, t, r⟩
 | ref n =>
  obtain ⟨a, ea, f⟩ := q
  unfold zK at e
  dsimp only at e
  cases ec : A[n]? with
  | none => rw [ec] at e; cases e
  | some o =>
   rw [ec] at e
   obtain ⟨a', e3, r⟩ := S.ob n o ec
   rw [f] at e3; cases e3
   cases o with
   | lst xs => cases e; obtain ⟨ys', h1, h2⟩ := r; exact ⟨a, ys', ea, SqL.of h1, h2⟩
   | ro xs => cases e; obtain ⟨ys', h1, h2⟩ := r; exact ⟨a, ys', ea, h1.sq, h2⟩
   | dct xs => cases e
   | tab _ _ => cases e
 | non => cases e
 | bl _ => cases e
 | clo _ _ _ => cases e
 | xc _ => cases e
 | int _ => cases e
 | str _ => cases e
theorem zec {K : Frag} {φ φ' : List Addr} {A' : Hx} {H H' : Hp} {w : W} {ws' : List W} {p : Addr} (q : RV K φ H w (.ref p)) (lw : LeW K φ H φ' H') (S' : Sim K φ' A' H') (e' : zK w A' = some ws') : ∃ ys', SqV (zhf w) K H' p ys' /\ RVs K φ' H' ws' ys' := by
 obtain ⟨p', ys, ep, h1, h2⟩ := zeM S' (RV.monoW lw q) e'
 cases ep
 exact ⟨ys, h1, h2⟩
theorem zo6 {K : Frag} {φ : List Addr} {H : Hp} {w : W} {p : Addr} {n : Nat} (q : RV K φ H w (.ref p)) : ItR K φ H (enIt w n) (Ite (zhf w) K p) := λ i φ' H' A' lw S' => by
 unfold enIt
 dsimp only
 cases es : zK w A' with
 | none => exact ⟨λ _ z => (by cases z), λ z => (by cases z)⟩
 | some ws =>
  dsimp only
  obtain ⟨ys, h1, h2⟩ := zec q lw S' es
  unfold atEnd
  cases ei : ws[i]? with
  | none =>
   dsimp only
   by_cases hl : ws.length = i
   ·rw [if_pos hl]
    exact ⟨λ _ z => (by cases z), λ _ => ⟨ys, h1, by rw [<- h2.length]; exact hl⟩⟩
   ·rw [if_neg hl]
    exact ⟨λ _ z => (by cases z), λ z => (by cases z)⟩
  | some x =>
   dsimp only
   refine ⟨λ u z => ?_, λ z => (by cases z)⟩
   cases z
   obtain ⟨y, e1, e2⟩ := h2.get ei
   refine ⟨⟨ys, y, h1, e1⟩, λ xv H1 ⟨t, y', hy, ht, ex, eH⟩ => ?_⟩
   subst ex eH
   have := hy ys h1
   rw [e1] at this; cases this
   obtain ⟨a1, a2, a3⟩ := zfx S' ht (.cons (w := .int i) (v := .int i) rfl (.one e2))
   exact ⟨a1, a2, a3⟩
noncomputable def zh8 (m : Ev) : Ei := λ ρ A => (m ρ A).bind λ w A1 => match zK w A1 with
 | some ws => .ok (enIt w ws.length) A1
 | none => .bad
theorem zfY {elts : List Expr} {kk : Nat} {tpos p : Pos} (hg : Gl X "enumerate") (hm : X.mg "enumerate" = none) (ha : SE X xr a ma) (hs : starEach [a] X.env = [(false, eval a X.env)] := by rfl) : SI X xr (.Tuple elts kk tpos) (.Call (.Name "enumerate" p) [a] [] pos) (zh8 ma) :=
 PI.imp (zmc hg hm (zar ha zbh (by rw [hs]; rfl)) hs) λ σ H Rr ⟨φ, A, ρ, S, re, h⟩ => by
  refine tM.go S re (zM.mp h) λ w A1 φ1 H1 v h1 l1 S1 q1 => ?_
  cases es : zK w A1 with
  | none => rw [es] at h1; exact h1.elim
  | some ws =>
   rw [es] at h1
   obtain ⟨p, ys, rfl, z1, z2⟩ := zeM S1 q1 es
   exact ⟨p, zhf w, ys, rfl, z1, h1 φ1 H1 _ l1 S1 (zo6 q1)⟩
end
end Mi
namespace Mi
open PySem PySem.Spec PyProof.Rows L2
section
variable {prog : Program} {w : World} {A : Around} {E : Value -> Shared -> Prop} {s : Shared} {z TI TO i1 i2 l1 l2 : Addr} {n1 n2 : Nat} {c1 c2 : Bool} {xs ys : Array Value} {x y a b : Value}
theorem zmO {Q : Value -> Shared -> Prop} (D : ZipApart z TI TO i1 i2 l1 l2) (hz : IsZip s.heap z TI TO .none) (hTI : IsPair s.heap TI (.ref i1) (.ref i2)) (hTO : IsPair s.heap TO a b)
  (g1 : ItAt c1 s.heap i1 l1 n1) (g2 : ItAt c2 s.heap i2 l2 n2) (s1 : SqAt c1 s.heap l1 xs) (s2 : SqAt c2 s.heap l2 ys) (hx : xs[n1]? = some x) (hy : ys[n2]? = some y)
  (hQ : ∀ h', IsZip h' z TI TO (rawInt s.heap.objs.size) -> IsPair h' TI (.ref i1) (.ref i2) -> IsPair h' TO x y -> ItAt c1 h' i1 l1 (n1 + 1) -> ItAt c2 h' i2 l2 (n2 + 1) -> IsPair h' s.heap.objs.size x y ->
   (∀ c o, c ≠ z -> c ≠ TO -> c ≠ i1 -> c ≠ i2 -> s.heap.get? c = some o -> h'.get? c = some o) -> Q (.ref s.heap.objs.size) { s with heap := h' }) :
  wpAny (model prog w) A (Builtin.«zip.__next__» ⟨[.ref z], []⟩) (λ fin s' => ∃ v, fin = .done (.ret v) /\ Q v s') E s := by
 show wpAny _ _ (field (.ref z) 2 >>= _) _ _ _; refine wpAny_bind (wpAny_field hz rfl (x := .bool false) rfl ?_)
 show wpAny _ _ (field (.ref z) 3 >>= _) _ _ _; refine wpAny_bind (wpAny_field hz rfl (x := .ref TI) rfl (wpAny_bind (wpAny_seqItems hTI rfl ?_)))
 show wpAny _ _ (Builtin.SmallTypes.ownedTupleIsFree (.ref z) >>= _) _ _ _; refine wpAny_bind ?_; unfold Builtin.SmallTypes.ownedTupleIsFree
 refine wpAny_bind (wpAny_field hz rfl (x := .none) rfl (wpAny_pure ?_)); simp only [if_true]; refine wpAny_bind (wpAny_rule (wpAny_bind (wpAny_field hz rfl (x := .ref TO) rfl ?_)))
 refine wpAny_bind (wpAny_setField_rec hz (by simp) λ ha za sa => ?_); replace za : IsZip ha z TI TO .ellipsis := za
 refine wpAny_bind ?_; simp only [List.zipIdx_cons, List.zipIdx_nil, List.forIn_cons, List.forIn_nil]
 refine wpAny_bind (wpAny_bind (wpAny_onRaise ?_)); show wpAny _ _ (Builtin.SmallTypes.nextOf (.ref i1) >>= _) _ _ _
 refine wpAny_bind (zfV (g1.to λ o e => sa.extBut _ _ D.i1z e) (s1.to λ o e => sa.extBut _ _ D.l1z e) hx λ hb gb sb => wpAny_pure ?_)
 have tb : IsPair hb TO a b := sb.extBut _ _ D.TOi1 (sa.extBut _ _ D.TOz hTO)
 refine wpAny_bind (wpAny_seqItems tb rfl (wpAny_bind (wpAny_updateSeq_pair tb λ hc tc sc => wpAny_bind (wpAny_letGo (wpAny_pure ?_))))); replace tc : IsPair hc TO x b := tc
 refine wpAny_bind (wpAny_bind (wpAny_onRaise ?_)); show wpAny _ _ (Builtin.SmallTypes.nextOf (.ref i2) >>= _) _ _ _
 have up : ∀ c o, c ≠ z -> c ≠ i1 -> c ≠ TO -> s.heap.get? c = some o -> hc.get? c = some o := λ c o q1 q2 q3 e => sc.extBut _ _ q3 (sb.extBut _ _ q2 (sa.extBut _ _ q1 e))
 refine wpAny_bind (zfV (g2.to λ o e => up _ o D.i2z D.i12.symm D.TOi2.symm e) (s2.to λ o e => up _ o D.l2z D.l2i1 D.l2TO e) hy λ hd gd sd => wpAny_pure ?_)
 have td : IsPair hd TO x b := sd.extBut _ _ D.TOi2 tc
 refine wpAny_bind (wpAny_seqItems td rfl (wpAny_bind (wpAny_updateSeq_pair td λ he te se => wpAny_bind (wpAny_letGo (wpAny_pure (wpAny_pure ?_)))))); replace te : IsPair he TO x y := te
 refine wpAny_bind (wpAny_seqItems te rfl (wpAny_bind (wpAny_newTuple ?_)))
 have hsz : he.objs.size = s.heap.objs.size := by rw [se.1, sd.1, sc.1, sb.1, sa.1]
 have ze : IsZip he z TI TO .ellipsis := se.extBut _ _ D.TOz.symm (sd.extBut _ _ D.i2z.symm (sc.extBut _ _ D.TOz.symm (sb.extBut _ _ D.i1z.symm za)))
 have ke : ∀ c o, c ≠ z -> c ≠ TO -> c ≠ i1 -> c ≠ i2 -> s.heap.get? c = some o -> he.get? c = some o := λ c o q1 q2 q3 q4 e => se.extBut _ _ q2 (sd.extBut _ _ q4 (up c o q1 q3 q2 e))
 have ge1 : ItAt c1 he i1 l1 (n1 + 1) := ((gb.to λ o e => sc.extBut _ _ D.TOi1.symm e).to λ o e => sd.extBut _ _ D.i12 e).to λ o e => se.extBut _ _ D.TOi1.symm e
 have ge2 : ItAt c2 he i2 l2 (n2 + 1) := gd.to λ o e => se.extBut _ _ D.TOi2.symm e
 have zlt : z < he.objs.size := Heap.lt_size ze
 show wpAny _ _ (Builtin.SmallTypes.ownedTupleHandOut (.ref z) (.ref he.objs.size) >>= _) _ _ _; refine wpAny_bind ?_; unfold Builtin.SmallTypes.ownedTupleHandOut
 have zf : IsZip (he.push { cls := .type "tuple", data := .seq #[x, y] }) z TI TO .ellipsis := Heap.get?_push_of_some _ ze
 refine wpAny_bind (wpAny_setField_rec zf (by simp) λ hg zg sg => ?_); replace zg : IsZip hg z TI TO (rawInt he.objs.size) := zg
 refine wpAny_setField_rec zg (by simp) λ hk zk sk => ?_; replace zk : IsZip hk z TI TO (rawInt he.objs.size) := zk
 have fin : ∀ c o, c ≠ z -> he.get? c = some o -> hk.get? c = some o := λ c o q e => sk.extBut _ _ q (sg.extBut _ _ q (Heap.get?_push_of_some _ e))
 have tk : IsPair hk he.objs.size x y := sk.extBut _ _ (Nat.ne_of_gt zlt) (sg.extBut _ _ (Nat.ne_of_gt zlt) (Heap.get?_push_size _ rfl))
 rw [hsz] at zk tk
 refine wpAny_pure ⟨_, rfl, ?_⟩
 show Q (.ref he.objs.size) _; rw [hsz]
 exact hQ hk zk (fin _ _ D.TIz (ke _ _ D.TIz D.TITO D.TIi1 D.TIi2 hTI)) (fin _ _ D.TOz te) (ge1.to λ o e => fin _ o D.i1z e) (ge2.to λ o e => fin _ o D.i2z e) tk λ c o q1 q2 q3 q4 e => fin c o q1 (ke c o q1 q2 q3 q4 e)
theorem znz {Q : Fin -> Shared -> Prop} (hh : A.handled = none) (D : ZipApart z TI TO i1 i2 l1 l2) (hz : IsZip s.heap z TI TO .none) (hTI : IsPair s.heap TI (.ref i1) (.ref i2)) (hTO : IsPair s.heap TO a b)
  (g1 : ItAt c1 s.heap i1 l1 n1) (g2 : ItAt c2 s.heap i2 l2 n2) (s1 : SqAt c1 s.heap l1 xs) (s2 : SqAt c2 s.heap l2 ys) (hend : xs[n1]? = none ∨ ys[n2]? = none)
  (hE : ∀ h' e, (∀ c o, c ≠ z -> c ≠ TO -> c ≠ i1 -> c ≠ i2 -> s.heap.get? c = some o -> h'.get? c = some o) -> (∃ o, h'.get? e = some o /\ o.cls = .type "StopIteration") -> E (.ref e) { s with heap := h' }) :
  wpAny (model prog w) A (Builtin.«zip.__next__» ⟨[.ref z], []⟩) Q E s := by
 show wpAny _ _ (field (.ref z) 2 >>= _) _ _ _; refine wpAny_bind (wpAny_field hz rfl (x := .bool false) rfl ?_)
 show wpAny _ _ (field (.ref z) 3 >>= _) _ _ _; refine wpAny_bind (wpAny_field hz rfl (x := .ref TI) rfl (wpAny_bind (wpAny_seqItems hTI rfl ?_)))
 show wpAny _ _ (Builtin.SmallTypes.ownedTupleIsFree (.ref z) >>= _) _ _ _; refine wpAny_bind ?_; unfold Builtin.SmallTypes.ownedTupleIsFree
 refine wpAny_bind (wpAny_field hz rfl (x := .none) rfl (wpAny_pure ?_)); simp only [if_true]; refine wpAny_bind (wpAny_rule (wpAny_bind (wpAny_field hz rfl (x := .ref TO) rfl ?_)))
 refine wpAny_bind (wpAny_setField_rec hz (by simp) λ ha za sa => ?_); replace za : IsZip ha z TI TO .ellipsis := za
 refine wpAny_bind ?_; simp only [List.zipIdx_cons, List.zipIdx_nil, List.forIn_cons, List.forIn_nil]
 refine wpAny_bind (wpAny_bind (wpAny_onRaise ?_)); show wpAny _ _ (Builtin.SmallTypes.nextOf (.ref i1) >>= _) _ _ _
 have ga := g1.to (h' := ha) λ o e => sa.extBut _ _ D.i1z e
 have ya := s1.to (h' := ha) λ o e => sa.extBut _ _ D.l1z e
 cases hx : xs[n1]? with
 | none =>
  refine wpAny_bind (zjR hh ga ya hx λ hb e sb he => ?_)
  obtain ⟨oe, hoe, hce⟩ := he
  have zb : IsZip hb z TI TO .ellipsis := sb _ _ D.i1z.symm za
  have hez : e ≠ z := λ q => by subst q; rw [zb] at hoe; cases hoe; simp at hce
  exact wpAny_setField_rec zb (by simp) λ hc _ sc => hE hc e (λ c o q1 _ q3 _ q => sc.extBut _ _ q1 (sb _ _ q3 (sa.extBut _ _ q1 q))) ⟨oe, sc.extBut _ _ hez hoe, hce⟩
 | some x =>
  have hy : ys[n2]? = none := by
   rcases hend with q | q
   ·rw [hx] at q; cases q
   ·exact q
  refine wpAny_bind (zfV ga ya hx λ hb gb sb => wpAny_pure ?_)
  have tb : IsPair hb TO a b := sb.extBut _ _ D.TOi1 (sa.extBut _ _ D.TOz hTO)
  refine wpAny_bind (wpAny_seqItems tb rfl (wpAny_bind (wpAny_updateSeq_pair tb λ hc tc sc => wpAny_bind (wpAny_letGo (wpAny_pure ?_)))))
  refine wpAny_bind (wpAny_bind (wpAny_onRaise ?_)); show wpAny _ _ (Builtin.SmallTypes.nextOf (.ref i2) >>= _) _ _ _
  have up : ∀ c o, c ≠ z -> c ≠ i1 -> c ≠ TO -> s.heap.get? c = some o -> hc.get? c = some o := λ c o q1 q2 q3 e => sc.extBut _ _ q3 (sb.extBut _ _ q2 (sa.extBut _ _ q1 e))
  refine wpAny_bind (zjR hh (g2.to λ o e => up _ o D.i2z D.i12.symm D.TOi2.symm e) (s2.to λ o e => up _ o D.l2z D.l2i1 D.l2TO e) hy λ hd e sd he => ?_)
  obtain ⟨oe, hoe, hce⟩ := he
  have zd : IsZip hd z TI TO .ellipsis := sd _ _ D.i2z.symm (sc.extBut _ _ D.TOz.symm (sb.extBut _ _ D.i1z.symm za))
  have hez : e ≠ z := λ q => by subst q; rw [zd] at hoe; cases hoe; simp at hce
  exact wpAny_setField_rec zd (by simp) λ hf _ sf => hE hf e (λ c o q1 q2 q3 q4 q => sf.extBut _ _ q1 (sd _ _ q4 (up c o q1 q3 q2 q))) ⟨oe, sf.extBut _ _ hez hoe, hce⟩
theorem zmb {Q : Option Value -> Shared -> Prop} (D : ZipApart z TI TO i1 i2 l1 l2) (hz : IsZip s.heap z TI TO .none) (hTI : IsPair s.heap TI (.ref i1) (.ref i2)) (hTO : IsPair s.heap TO a b)
  (g1 : ItAt c1 s.heap i1 l1 n1) (g2 : ItAt c2 s.heap i2 l2 n2) (s1 : SqAt c1 s.heap l1 xs) (s2 : SqAt c2 s.heap l2 ys) (hx : xs[n1]? = some x) (hy : ys[n2]? = some y)
  (hQ : ∀ h', IsZip h' z TI TO (rawInt s.heap.objs.size) -> IsPair h' TI (.ref i1) (.ref i2) -> IsPair h' TO x y -> ItAt c1 h' i1 l1 (n1 + 1) -> ItAt c2 h' i2 l2 (n2 + 1) -> IsPair h' s.heap.objs.size x y ->
   (∀ c o, c ≠ z -> c ≠ TO -> c ≠ i1 -> c ≠ i2 -> s.heap.get? c = some o -> h'.get? c = some o) -> Q (some (.ref s.heap.objs.size)) { s with heap := h' }) : wpAny (model prog w) A (pyNext (.ref z)) Q E s := by
 have hT : s.TypeIs (.ref z) "zip" := ⟨_, hz, rfl⟩
 unfold pyNext
 exact wpAny_bind (wpAny_attempt (wpAny_callSpecial?_slot (name := Str.ofString "__next__") hT F.slot_zip_next (wpAny_call_entry F.slot_zip_next hT F.entry_zip_next
  (zmO D hz hTI hTO g1 g2 s1 s2 hx hy λ h' q1 q2 q3 q4 q5 q6 q7 => wpAny_pure (hQ h' q1 q2 q3 q4 q5 q6 q7)) (F.args_zip_next_1 _))))
theorem zmi {Q : Option Value -> Shared -> Prop} (hh : A.handled = none) (D : ZipApart z TI TO i1 i2 l1 l2) (hz : IsZip s.heap z TI TO .none) (hTI : IsPair s.heap TI (.ref i1) (.ref i2)) (hTO : IsPair s.heap TO a b)
  (g1 : ItAt c1 s.heap i1 l1 n1) (g2 : ItAt c2 s.heap i2 l2 n2) (s1 : SqAt c1 s.heap l1 xs) (s2 : SqAt c2 s.heap l2 ys) (hend : xs[n1]? = none ∨ ys[n2]? = none)
  (hQ : ∀ h', (∀ c o, c ≠ z -> c ≠ TO -> c ≠ i1 -> c ≠ i2 -> s.heap.get? c = some o -> h'.get? c = some o) -> Q none { s with heap := h' }) : wpAny (model prog w) A (pyNext (.ref z)) Q E s := by
 have hT : s.TypeIs (.ref z) "zip" := ⟨_, hz, rfl⟩
 unfold pyNext
 refine wpAny_bind (wpAny_attempt (wpAny_callSpecial?_slot (name := Str.ofString "__next__") hT F.slot_zip_next (wpAny_call_entry F.slot_zip_next hT F.entry_zip_next (znz hh D hz hTI hTO g1 g2 s1 s2 hend λ h' e hk he => ?_) (F.args_zip_next_1 _))))
 obtain ⟨o, ho, hc⟩ := he
 exact wpAny_bind (wpAny_isInstance (T := "StopIteration") (b := true) ⟨o, ho, hc⟩ isSubtype_stop (wpAny_pure (hQ _ hk)))
end
noncomputable abbrev zpH1 (h : Heap) (c1 : Bool) (l1 : Addr) : Heap := h.push { cls := .type (zh2 c1), data := .fields #[.ref l1, .int 0 0] }
noncomputable abbrev zpH2 (h : Heap) (c1 c2 : Bool) (l1 l2 : Addr) : Heap := (zpH1 h c1 l1).push { cls := .type (zh2 c2), data := .fields #[.ref l2, .int 0 0] }
noncomputable abbrev zpH3 (h : Heap) (c1 c2 : Bool) (l1 l2 : Addr) : Heap := (zpH2 h c1 c2 l1 l2).push { cls := .type "tuple", data := .seq #[.ref h.objs.size, .ref (zpH1 h c1 l1).objs.size] }
noncomputable abbrev zpH4 (h : Heap) (c1 c2 : Bool) (l1 l2 : Addr) : Heap := (zpH3 h c1 c2 l1 l2).push { cls := .type "tuple", data := .seq #[.none, .none] }
noncomputable abbrev zpH5 (h : Heap) (c1 c2 : Bool) (l1 l2 : Addr) : Heap := (zpH4 h c1 c2 l1 l2).push { cls := .type "zip", data := .fields #[.none, .bool false, .bool false, .ref (zpH2 h c1 c2 l1 l2).objs.size, .ref (zpH3 h c1 c2 l1 l2).objs.size] }
theorem zj4 (c1 c2 : Bool) (l1 l2 : Addr) (xs ys : Array Value) :
  Meets (Builtin.«zip.__new__» ⟨[.type "zip", .ref l1, .ref l2], []⟩) (λ _ R s => SqAt c1 s.heap l1 xs /\ SqAt c2 s.heap l2 ys /\ R (.ok (.ret (.ref (zpH4 s.heap c1 c2 l1 l2).objs.size))) { s with heap := zpH5 s.heap c1 c2 l1 l2 }) :=
 .of_wp λ prog w A R s h => by
  obtain ⟨hp, g, d, tk, os⟩ := s; obtain ⟨q1, q2, h⟩ := h; have hsub := sub_zip
  have k1 : SqAt c1 (Shared.heap ⟨hp, g, d, tk, os⟩) l1 xs := q1
  have k2 : SqAt c2 (Shared.heap ⟨hp.push { cls := .type (zh2 c1), data := .fields #[.ref l1, .int 0 0] }, g, d, tk, os⟩) l2 ys := q2.to λ o e => Heap.get?_push_of_some _ e
  wp_walk using zjF k1, zjF k2
  exact ⟨_, rfl, h⟩
section
variable {prog : Program} {w : World} {A : Around} {E : Value -> Shared -> Prop} {s : Shared} {c1 c2 : Bool} {l1 l2 : Addr} {xs ys : Array Value}
theorem zlq {Q : Value -> Shared -> Prop} (s1 : SqAt c1 s.heap l1 xs) (s2 : SqAt c2 s.heap l2 ys)
  (h : ∀ h' n, n = s.heap.objs.size -> IsZip h' (n + 4) (n + 2) (n + 3) .none -> IsPair h' (n + 2) (.ref n) (.ref (n + 1)) -> IsPair h' (n + 3) .none .none -> ItAt c1 h' n l1 0 -> ItAt c2 h' (n + 1) l2 0 ->
   (∀ c o, s.heap.get? c = some o -> h'.get? c = some o) -> Q (.ref (n + 4)) { s with heap := h' }) : wpAny (model prog w) A (call (.type "zip") [.ref l1, .ref l2]) Q E s := by
 refine callType_new F.called_zip (by decide) (F.typeCall_zip_2 _ _) (F.newCall_zip_2 _ _) (λ obj => F.args_object_init_3 obj _ _) F.entry_zip_new (zj4 c1 c2 l1 l2 xs ys) ⟨s1, s2, ?_⟩
 have z1 : (zpH1 s.heap c1 l1).objs.size = s.heap.objs.size + 1 := Heap.size_push ..
 have z2 : (zpH2 s.heap c1 c2 l1 l2).objs.size = s.heap.objs.size + 2 := by rw [Heap.size_push, z1]
 have z3 : (zpH3 s.heap c1 c2 l1 l2).objs.size = s.heap.objs.size + 3 := by rw [Heap.size_push, z2]
 have z4 : (zpH4 s.heap c1 c2 l1 l2).objs.size = s.heap.objs.size + 4 := by rw [Heap.size_push, z3]
 have y5 : (zpH5 s.heap c1 c2 l1 l2).get? (zpH4 s.heap c1 c2 l1 l2).objs.size = some _ := Heap.get?_push_size _ rfl
 have y4 : (zpH5 s.heap c1 c2 l1 l2).get? (zpH3 s.heap c1 c2 l1 l2).objs.size = some _ := Heap.get?_push_of_some _ (Heap.get?_push_size _ rfl)
 have y3 : (zpH5 s.heap c1 c2 l1 l2).get? (zpH2 s.heap c1 c2 l1 l2).objs.size = some _ := Heap.get?_push_of_some _ (Heap.get?_push_of_some _ (Heap.get?_push_size _ rfl))
 have y2 : (zpH5 s.heap c1 c2 l1 l2).get? (zpH1 s.heap c1 l1).objs.size = some _ := Heap.get?_push_of_some _ (Heap.get?_push_of_some _ (Heap.get?_push_of_some _ (Heap.get?_push_size _ rfl)))
 have y1 : (zpH5 s.heap c1 c2 l1 l2).get? s.heap.objs.size = some _ := Heap.get?_push_of_some _ (Heap.get?_push_of_some _ (Heap.get?_push_of_some _ (Heap.get?_push_of_some _ (Heap.get?_push_size _ rfl))))
 show _ /\ _
 rw [z2, z3, z4] at y5
 rw [z1, z2] at y3
 rw [z3] at y4
 rw [z1] at y2
 rw [z4]
 exact ⟨⟨_, y5, rfl⟩, h _ _ rfl y5 y3 y4 (.mk ⟨_, y1, rfl, rfl⟩) (.mk ⟨_, y2, rfl, rfl⟩) λ c o q =>
  Heap.get?_push_of_some _ (Heap.get?_push_of_some _ (Heap.get?_push_of_some _ (Heap.get?_push_of_some _ (Heap.get?_push_of_some _ q))))⟩
end
end Mi
namespace Mi
open PySem PySem.Spec PyProof.Rows L2
noncomputable def Itz (c1 c2 : Bool) (K : Frag) (p q : Addr) : It :=
 ⟨λ i H => ∃ xs ys x y, SqV c1 K H p xs /\ SqV c2 K H q ys /\ xs[i]? = some x /\ ys[i]? = some y,
  λ i H v H' => ∃ t x y, (∀ xs, SqV c1 K H p xs -> xs[i]? = some x) /\ (∀ ys, SqV c2 K H q ys -> ys[i]? = some y) /\ H t = none /\ v = .ref t /\ H' = upd H t (.tup [x, y]),
  λ i H => ∃ xs ys, SqV c1 K H p xs /\ SqV c2 K H q ys /\ (xs[i]? = none ∨ ys[i]? = none)⟩
theorem zkO {P : Program} {w : World} {K : Frag} {elts : List Expr} {kk : Nat} {tpos : Pos} (c1 c2 : Bool) (p q z TI TO i1 i2 : Addr) (D : ZipApart z TI TO i1 i2 p q) :
  Turn P w K (.Tuple elts kk tpos) (Itz c1 c2 K p q) [z, TI, TO, i1, i2] z (λ i h => IsZip h z TI TO .none /\ IsPair h TI (.ref i1) (.ref i2) /\ (∃ a b, IsPair h TO a b) /\ ItAt c1 h i1 p i /\ ItAt c2 h i2 q i) where
 mem := by simp
 obj := λ i h st b hb => by
  obtain ⟨hz, hTI, ⟨a', b', hTO⟩, g1, g2⟩ := st
  simp only [List.mem_cons, List.not_mem_nil, or_false] at hb
  rcases hb with rfl | rfl | rfl | rfl | rfl
  ·exact ⟨_, hz, λ v e => nomatch e⟩
  ·exact ⟨_, hTI, λ v e => nomatch e⟩
  ·exact ⟨_, hTO, λ v e => nomatch e⟩
  ·obtain ⟨o, ho, _, hd⟩ := g1.ob; exact ⟨o, ho, λ v e => by rw [hd] at e; cases e⟩
  ·obtain ⟨o, ho, _, hd⟩ := g2.ob; exact ⟨o, ho, λ v e => by rw [hd] at e; cases e⟩
 keep := λ i h h' ⟨hz, hTI, ⟨a', b', hTO⟩, g1, g2⟩ k => ⟨k z (by simp) _ hz, k TI (by simp) _ hTI, ⟨a', b', k TO (by simp) _ hTO⟩, g1.to λ o e => k i1 (by simp) o e, g2.to λ o e => k i2 (by simp) o e⟩
 item := by
  intro X hP hw hK hc i pins s σ H E I hf st hg; subst hP hw hK
  obtain ⟨hz, hTI, ⟨a', b', hTO⟩, g1, g2⟩ := st
  obtain ⟨xs, ys, x, y, h1, h2, ex, ey⟩ := hg
  obtain ⟨its1, r1, sq1, _⟩ := I.sq h1
  obtain ⟨its2, r2, sq2, _⟩ := I.sq h2
  obtain ⟨u1, eu1, ru1⟩ := r1.get ex
  obtain ⟨u2, eu2, ru2⟩ := r2.get ey
  refine zmb D hz hTI hTO g1 g2 sq1 sq2 (x := u1) (y := u2) (by simpa using eu1) (by simpa using eu2) λ hh z1 z2 z3 z4 z5 z6 kp => ?_
  refine ⟨_, rfl, wpAny_letOwnedTupleGo_zip z1 λ hk zk sk => ?_⟩
  have lt : ∀ {c o}, s.heap.get? c = some o -> c ≠ s.heap.objs.size := λ e => Nat.ne_of_lt (Heap.lt_size e)
  have T2 : IsPair hk s.heap.objs.size u1 u2 := sk.extBut _ _ (lt hz).symm z6
  have fre : ∀ b ∈ [z, TI, TO, i1, i2], b ≠ s.heap.objs.size := λ b hb => by
   simp only [List.mem_cons, List.not_mem_nil, or_false] at hb
   rcases hb with rfl | rfl | rfl | rfl | rfl
   ·exact lt hz
   ·exact lt hTI
   ·exact lt hTO
   ·obtain ⟨o, ho, _⟩ := g1.ob; exact lt ho
   ·obtain ⟨o, ho, _⟩ := g2.ob; exact lt ho
  refine ⟨.ref s.heap.objs.size, upd H s.heap.objs.size (.tup [x, y]), ?_, rfl, ⟨s.heap.objs.size, x, y, λ zs hzs => by rw [I.sq_inj hzs h1]; exact ex, λ zs hzs => by rw [I.sq_inj hzs h2]; exact ey, I.hok.fresh (Nat.le_refl _), rfl, rfl⟩,
   ⟨zk, sk.extBut _ _ D.TIz z2, ⟨_, _, sk.extBut _ _ D.TOz z3⟩, z4.to λ o e => sk.extBut _ _ D.i1z e, z5.to λ o e => sk.extBut _ _ D.i2z e⟩, λ b hb => ?_⟩
  ·refine I.spun (fp := [z, TI, TO, i1, i2]) (t' := s.toks) (λ b o hb eo => ?_) hf (Nat.le_refl _) ?_
   ·exact sk.extBut _ _ (λ e => hb (by simp [e])) (kp b o (λ e => hb (by simp [e])) (λ e => hb (by simp [e])) (λ e => hb (by simp [e])) (λ e => hb (by simp [e])) eo)
   ·exact ⟨by show 2 <= sizeLine; decide, [u1, u2], .cons ru1 (.cons ru2 .nil), _, T2, ⟨rfl, rfl⟩, 0, rfl⟩
  ·show upd H s.heap.objs.size _ b = none
   rw [zP (fre b hb)]; exact (hf b hb).1
 done := by
  intro X hP hw hK hc i pins s σ H E I hf st hg; subst hP hw hK
  obtain ⟨hz, hTI, ⟨a', b', hTO⟩, g1, g2⟩ := st
  obtain ⟨xs, ys, h1, h2, hend⟩ := hg
  obtain ⟨its1, r1, sq1, _⟩ := I.sq h1
  obtain ⟨its2, r2, sq2, _⟩ := I.sq h2
  have hend' : its1.toArray[i]? = none ∨ its2.toArray[i]? = none := by
   rcases hend with e | e
   ·exact .inl (by simpa using r1.none_of e)
   ·exact .inr (by simpa using r2.none_of e)
  exact zmi (I.ok.hd hc) D hz hTI hTO g1 g2 sq1 sq2 hend' λ hh kp => ⟨rfl, I.spun0 (fp := [z, TI, TO, i1, i2]) (t' := s.toks) (λ b o hb eo => kp b o (λ e => hb (by simp [e])) (λ e => hb (by simp [e])) (λ e => hb (by simp [e])) (λ e => hb (by simp [e])) eo) hf⟩
 self := λ _ _ _ _ _ st h => wpAny_pyIter_zip st.1 h
section
variable {X : Cx} {xr : XR} {e a b : Expr} {m ma mb : Ev} {pos : Pos}
noncomputable def iZip (K : Frag) (ta : TA) : TI := λ σ H R => ta σ H λ vs H1 => ∃ p q c1 c2 xs ys, vs = [.ref p, .ref q] /\ SqV c1 K H1 p xs /\ SqV c2 K H1 q ys /\ R (Itz c1 c2 K p q) H1
theorem znx {elts : List Expr} {kk : Nat} {tpos p : Pos} {ta : TA} (hg : Gl X "zip") (hm : X.mg "zip" = none) (ha : PA X [a, b] ta) (hs : starEach [a, b] X.env = (false, eval a X.env) :: starEach [b] X.env) (hp : (backTo pos (starEach [b] X.env)).any (·.1) = false) :
  PI X (.Tuple elts kk tpos) (.Call (.Name "zip" p) [a, b] [] pos) (iZip X.K ta) := by
 intro pins s σ H R I h
 refine Call_ (zeR I hg hm boot_zip (PyProof.Rows.callWith_type1 (thn (ha pos pins s σ H _ I h) λ us s1 ⟨vs, H1, I1, r1, q1⟩ => ?_) hs hp))
 obtain ⟨p, q, c1, c2, xs, ys, rfl, h1, h2, hR⟩ := q1
 obtain ⟨u1, u2, rfl, ru1, ru2⟩ := r1.two
 cases ru1; cases ru2
 obtain ⟨its1, rv1, sq1, _⟩ := I1.sq h1
 obtain ⟨its2, rv2, sq2, _⟩ := I1.sq h2
 obtain ⟨op, hop, _⟩ := sq1.ob
 obtain ⟨oq, hoq, _⟩ := sq2.ob
 have lp : p < s1.heap.objs.size := Heap.lt_size hop
 have lq : q < s1.heap.objs.size := Heap.lt_size hoq
 refine zlq sq1 sq2 λ h' n en z1 z2 z3 z4 z5 kp => wpAny_pyIter_zip z1 ?_
 rw [<- en] at lp lq
 have ne1 : ∀ (i j : Nat), i ≠ j -> n + i ≠ n + j := λ i j h e => h (Nat.add_left_cancel e)
 have ne2 : ∀ (c : Nat) (i : Nat), c < n -> c ≠ n + i := λ c i h e => absurd h (by rw [e]; exact Nat.not_lt.mpr (Nat.le_add_right n i))
 have D : ZipApart (n + 4) (n + 2) (n + 3) (n + 0) (n + 1) p q := ⟨ne1 2 4 (by decide), ne1 3 4 (by decide), ne1 0 4 (by decide), ne1 1 4 (by decide), ne1 2 3 (by decide), ne1 2 0 (by decide), ne1 2 1 (by decide), ne1 3 0 (by decide), ne1 3 1 (by decide), ne1 0 1 (by decide),
  ne2 p 4 lp, ne2 p 3 lp, ne2 p 0 lp, ne2 p 1 lp, ne2 q 4 lq, ne2 q 3 lq, ne2 q 0 lq, ne2 q 1 lq⟩
 refine ⟨n + 4, [n + 4, n + 2, n + 3, n, n + 1], _, _, H1, rfl, I1.kept (t' := s1.toks) kp, zkO c1 c2 p q _ _ _ _ _ D, ⟨z1, z2, ⟨_, _, z3⟩, z4, z5⟩, λ c hc => ?_, hR⟩
 have hc' : s1.heap.objs.size <= c := by
  rw [<- en]
  simp only [List.mem_cons, List.not_mem_nil, or_false] at hc
  rcases hc with rfl | rfl | rfl | rfl | rfl
  ·exact Nat.le_add_right _ _
  ·exact Nat.le_add_right _ _
  ·exact Nat.le_add_right _ _
  ·exact Nat.le_refl _
  ·exact Nat.le_add_right _ _
 exact I1.fpOk hc' (I1.hok.fresh hc')
noncomputable def zip2 : Option W -> Option W -> Option W
 | some x, some y => some (.tup [x, y])
 | _, _ => none
noncomputable def ziIt (w w' : W) (n : Nat) : Itx := ⟨λ A i => match zK w A, zK w' A with
 | some us, some vs => some (zip2 us[i]? vs[i]?)
 | _, _ => none, n⟩
theorem zpE {K : Frag} {φ : List Addr} {H : Hp} {w w' : W} {p p' : Addr} {n : Nat} (q : RV K φ H w (.ref p)) (q' : RV K φ H w' (.ref p')) : ItR K φ H (ziIt w w' n) (Itz (zhf w) (zhf w') K p p') := λ i φ' H' A' lw S' => by
 unfold ziIt
 dsimp only
 cases es : zK w A' with
 | none => exact ⟨λ _ z => (by cases z), λ z => (by cases z)⟩
 | some us =>
  cases es' : zK w' A' with
  | none => exact ⟨λ _ z => (by cases z), λ z => (by cases z)⟩
  | some vs =>
   dsimp only
   obtain ⟨xs, h1, h2⟩ := zec q lw S' es
   obtain ⟨ys, h3, h4⟩ := zec q' lw S' es'
   have non : ∀ {us : List W} {xs : List V}, RVs K φ' H' us xs -> us[i]? = none -> xs[i]? = none := λ r e => by
    rw [List.getElem?_eq_none_iff] at e ⊢; rw [<- r.length]; exact e
   cases e1 : us[i]? with
   | none => exact ⟨λ _ z => (by cases z), λ _ => ⟨xs, ys, h1, h3, .inl (non h2 e1)⟩⟩
   | some x =>
    cases e2 : vs[i]? with
    | none => exact ⟨λ _ z => (by cases z), λ _ => ⟨xs, ys, h1, h3, .inr (non h4 e2)⟩⟩
    | some y =>
     refine ⟨λ u z => ?_, λ z => (by cases z)⟩
     cases z
     obtain ⟨vx, f1, f2⟩ := h2.get e1
     obtain ⟨vy, f3, f4⟩ := h4.get e2
     refine ⟨⟨xs, ys, vx, vy, h1, h3, f1, f3⟩, λ xv H1 ⟨t, x', y', hx, hy, ht, ex, eH⟩ => ?_⟩
     subst ex eH
     have g1 := hx xs h1
     have g2 := hy ys h3
     rw [f1] at g1; cases g1
     rw [f3] at g2; cases g2
     obtain ⟨a1, a2, a3⟩ := zfx S' ht (.cons f2 (.one f4))
     exact ⟨a1, a2, a3⟩
noncomputable def mZip (m m' : Ev) : Ei := λ ρ A => (m ρ A).bind λ w A1 => (m' ρ A1).bind λ w' A2 => match zK w A2, zK w' A2 with
 | some us, some _ => .ok (ziIt w w' us.length) A2
 | _, _ => .bad
theorem zjk {elts : List Expr} {kk : Nat} {tpos p : Pos} (hg : Gl X "zip") (hm : X.mg "zip" = none) (ha : SE X xr a ma) (hb : SE X xr b mb) (hs : starEach [a, b] X.env = (false, eval a X.env) :: starEach [b] X.env := by rfl) (hs2 : starEach [b] X.env = (false, eval b X.env) :: starEach [] X.env := by rfl) (hp : (backTo pos (starEach [b] X.env)).any (·.1) = false := by rfl) :
  SI X xr (.Tuple elts kk tpos) (.Call (.Name "zip" p) [a, b] [] pos) (mZip ma mb) :=
 PI.imp (znx hg hm (zar ha (zar hb zbh hs2) hs) hs hp) λ σ H Rr ⟨φ, A, ρ, S, re, h⟩ => by
  refine tM.go S re (zM.mp h) λ w A1 φ1 H1 v h1 l1 S1 q1 => ?_
  refine tM.go S1 (re.mono l1) (zS (zM.mp h1) (λ _ _ z => z) λ _ _ z => z.mono l1) λ w2 A2 φ2 H2 v2 h2 l2 S2 q2 => ?_
  cases es : zK w A2 with
  | none => rw [es] at h2; exact h2.elim
  | some us =>
   cases es' : zK w2 A2 with
   | none => rw [es, es'] at h2; exact h2.elim
   | some vs =>
    rw [es, es'] at h2
    have q1' := q1.mono l2
    obtain ⟨p, xs, rfl, z1, z2⟩ := zeM S2 q1' es
    obtain ⟨p', ys, rfl, z3, z4⟩ := zeM S2 q2 es'
    exact ⟨p, p', zhf w, zhf w2, xs, ys, rfl, z1, z3, h2 φ2 H2 _ (l1.trans l2) S2 (zpE q1' q2)⟩
end
end Mi
namespace Mi
open PySem PySem.Spec PyProof.Rows L2
section
variable {X : Cx} {xr : XR} {K : Frag} {e a b c : Expr} {m ma mb mc : Ev} {pos : Pos}
noncomputable def mDct : Ev := λ _ A => .ok (.ref A.length) (A ++ [.dct []])
theorem ziK : SE X xr (.Dict [] [] pos) mDct := PE.imp zkP λ σ H Q ⟨φ, A, ρ, S, re, h⟩ p hp => by
 obtain ⟨l, S'⟩ := S.alloc (o := .dct []) hp (u := .dK []) ⟨[], zal, rfl, .nil⟩
 exact h _ _ _ l S' ⟨p, rfl, by rw [<- S.len]; simp⟩
noncomputable def keyW : W -> Option Key
 | .int i => some (.inl i)
 | _ => none
noncomputable def valK (k : Key) : List (Key × W) -> Option W
 | [] => none
 | (j, w) :: r => if j = k then some w else valK k r
theorem zg1 {φ : List Addr} {H : Hp} (k : Key) : ∀ {kvs : List (Key × W)} {us : List (Key × V)}, us.map (·.1) = kvs.map (·.1) -> RVs K φ H (kvs.map (·.2)) (us.map (·.2)) ->
  (∀ w, valK k kvs = some w -> ∃ v, valV us k = some v /\ RV K φ H w v) /\ (valK k kvs = none -> valV us k = none)
 | [], [], _, _ => ⟨λ w h => (by cases h), λ _ => rfl⟩
 | [], _ :: _, h, _ => by simp at h
 | _ :: _, [], h, _ => by simp at h
 | (j, w) :: kvs, (j', v) :: us, h, r => by
  simp only [List.map_cons, List.cons.injEq] at h
  obtain ⟨v', rr, e, h1, h2⟩ := r
  simp only [List.map_cons, List.cons.injEq] at e
  obtain ⟨rfl, rfl⟩ := e
  have ih := zg1 k h.2 h2
  have hj : j' = j := h.1
  subst hj
  by_cases hk : j' = k
  ·refine ⟨λ w' hw => ⟨v, zgq hk, ?_⟩, λ hn => ?_⟩
   ·unfold valK at hw; rw [if_pos hk] at hw; cases hw; exact h1
   ·unfold valK at hn; rw [if_pos hk] at hn; cases hn
  ·unfold valK
   rw [if_neg hk, zgt (p := (j', v)) hk]
   exact ih
theorem Sim.dct {φ : List Addr} {A : Hx} {H : Hp} {n : Nat} {kvs : List (Key × W)} {v : V} (S : Sim K φ A H) (q : RV K φ H (.ref n) v) (e : A[n]? = some (.dct kvs)) : ∃ p us, v = .ref p /\ φ[n]? = some p /\ H p = some (.dK us) /\ us.map (·.1) = kvs.map (·.1) /\ RVs K φ H (kvs.map (·.2)) (us.map (·.2)) := by
 obtain ⟨p, rfl, h1⟩ := q
 obtain ⟨p', h2, us, h3, h4, h5⟩ := S.ob n _ e
 rw [h1] at h2; cases h2
 exact ⟨p, us, rfl, h1, h3, h4, h5⟩
noncomputable def zpS : W -> W -> Hx -> R W := λ d k A => match d, keyW k with
 | .ref n, some k => match A[n]? with
  | some (.dct kvs) => match valK k kvs with
   | some w => .ok w A
   | none => .bad
  | _ => .bad
 | _, _ => .bad
noncomputable def znm : V -> List V -> Hp -> VK -> Prop := λ x vs H Q => ∃ p us k d, x = .ref p /\ vs = [kV k, d] /\ H p = some (.dK us) /\ us.length < sizeLine /\ (∀ v, valV us k = some v -> Q v H) /\ (valV us k = none -> Q d (upd H p (.dK (putK us k d))))
theorem zko : MtR X "dict.setdefault" znm := by
 intro pins s σ H x vs v us Q I rx rv h
 obtain ⟨p, kvs, k, d, rfl, rfl, hp, hl, q1, q2⟩ := h
 cases rx
 obtain ⟨u1, u2, rfl, r1, r2⟩ := rv.two
 obtain ⟨z, hd, ws, rel, dd⟩ := znP I.hok hp
 refine call_meetsIn PySem.F.slot_dict_setdefault dd.typeIs PySem.F.entry_dict_setdefault (PySem.F.args_dict_setdefault_3 _ _ _) (kt_meets_setdefault (zcn X.prog X.w) p (zpF r1) hd u2) ⟨ws, dd, by rw [<- rel.length]; exact z, λ v hv => ?_, λ hn h' dd' hs => ?_⟩
 ·have rr := rel.val k
  rw [hv] at rr
  cases e : valV kvs k with
  | none => rw [e] at rr; exact rr.elim
  | some v' => rw [e] at rr; exact ⟨v', H, I.tok _, rr, q1 v' e⟩
 ·have rr := rel.val k
  rw [hn] at rr
  cases e : valV kvs k with
  | some v' => rw [e] at rr; exact rr.elim
  | none =>
   have hl' : (putK kvs k d).length <= sizeLine := by have := zh9 kvs k d; omega
   have he : ∃ q, h'.get? p = some q := let ⟨q, _, _, hq, _⟩ := dd'; ⟨q, hq⟩
   exact ⟨d, _, znj I (by rw [hp]; exact True.intro) hs he (znT hl' hd (rel.put k r2) dd'), r2, q2 e⟩
noncomputable def isD (x : W) (A : Hx) : Bool := match x with
 | .ref n => match A[n]? with
  | some (.dct _) => true
  | _ => false
 | _ => false
noncomputable def zbO : W -> W -> W -> Hx -> R W := λ d k v A => match d, keyW k with
 | .ref n, some k => match A[n]? with
  | some (.dct kvs) => if kvs.length < zR then (match valK k kvs with
   | some w => .ok w A
   | none => .ok v (A.set n (.dct (kvs ++ [(k, v)])))) else .bad
  | _ => .bad
 | _, _ => .bad
noncomputable def zfO (g : W -> W -> W -> Hx -> R W) (a b c : Ev) : Ev := λ ρ A => (a ρ A).bind λ x A1 => if isD x A1 then (b ρ A1).bind λ y A2 => (c ρ A2).bind λ z A3 => g x y z A3 else .bad
theorem zkS {φ : List Addr} {A : Hx} {H : Hp} {w : W} {v : V} (S : Sim K φ A H) (q : RV K φ H w v) (e : isD w A = true) : tyV K "dict" v H := by
 unfold isD at e
 cases w with
 | ref n =>
  dsimp only at e
  cases e1 : A[n]? with
  | none => rw [e1] at e; cases e
  | some o => cases o with
   | dct ws => obtain ⟨p, us, rfl, _, h, _⟩ := S.dct q e1; exact .inr (.inr (.inl ⟨rfl, .inl ⟨us, h⟩⟩))
   | _ => rw [e1] at e; cases e
 | _ => cases e
theorem ze8 {apos cpos : Pos} (ho : SE X xr a ma) (he : SE X xr b mb) (hf : SE X xr c mc) (h1 : starEach [b, c] X.env = (false, eval b X.env) :: starEach [c] X.env := by rfl) (h2 : starEach [c] X.env = (false, eval c X.env) :: starEach [] X.env := by rfl)
  (hbase : attributeBase a "setdefault" X.env (eval a X.env) = eval a X.env := by rfl)
  (hfew : ((backTo cpos (starEach [b, c] X.env)).all (λ x => !x.1) && (backToKw cpos (keywordEach [] X.env)).all (λ x => x.1.isSome)
   && decide ([b, c].length + ([] : List Keyword).length + (if ([] : List Keyword).isEmpty then 0 else 1) < 30)) = true := by rfl) (hline : (apos.endLine == cpos.line) = true := by rfl) (hpl : (backTo cpos (starEach [c] X.env)).any (·.1) = false := by rfl) :
  SE X xr (.Call (.Attribute a "setdefault" apos) [b, c] [] cpos) (zfO zbO ma mb mc) :=
 PE.imp (zoY PySem.F.plainAttrs_dict PySem.F.slot_dict_setdefault PySem.F.type_dict_setdefault zko ho (zar he (zar hf zbh h2) h1) hbase hfew hline h1 hpl) λ σ H Q ⟨φ, A, ρ, S, re, h⟩ => by
  refine tM.go S re (zM.mp h) λ w A1 φ1 H1 v h1 l1 S1 q1 => ?_
  by_cases hd : isD w A1 = true
  ·rw [if_pos hd] at h1
   refine ⟨zkS S1 q1 hd, ?_⟩
   refine tM.go S1 (re.mono l1) (zS (zM.mp h1) (λ _ _ z => z) λ _ _ z => z.mono l1) λ w2 A2 φ2 H2 v2 h2 l2 S2 q2 => ?_
   have l02 := l1.trans l2
   refine tM.go S2 (re.mono l02) (zS (zM.mp h2) (λ _ _ z => z) λ _ _ z => z.mono l02) λ w3 A3 φ3 H3 v3 h3 l3 S3 q3 => ?_
   have l03 := l02.trans l3
   unfold zbO at h3
   cases w with
   | ref n => cases w2 with
    | int i =>
     obtain rfl := q2
     dsimp only [keyW] at h3
     cases e1 : A3[n]? with
     | none => rw [e1] at h3; exact h3.elim
     | some o => cases o with
      | dct kvs =>
       rw [e1] at h3
       dsimp only at h3
       obtain ⟨p, us, rfl, f1, g1, g2, g3⟩ := S3.dct ((q1.mono l2).mono l3) e1
       have hlen : us.length = kvs.length := by have := congrArg List.length g2; simpa using this
       by_cases hz : kvs.length < zR
       ·rw [if_pos hz] at h3
        have rd := zg1 (.inl i) g2 g3
        refine ⟨p, us, .inl i, v3, rfl, rfl, g1, ?_, λ v' hv => ?_, λ hn => ?_⟩
        ·rw [hlen]
         have : sizeLine = 16777216 := sizeLine_eq
         unfold zR at hz
         omega
        ·cases e2 : valK (.inl i) kvs with
         | none => rw [rd.2 e2] at hv; cases hv
         | some w' =>
          rw [e2] at h3
          obtain ⟨v'', hv2, rv⟩ := rd.1 w' e2
          rw [hv] at hv2; cases hv2
          exact h3 φ3 H3 _ l03 S3 rv
        ·cases e2 : valK (.inl i) kvs with
         | some w' => obtain ⟨v'', hv2, rv⟩ := rd.1 w' e2; rw [hn] at hv2; cases hv2
         | none =>
          rw [e2] at h3
          dsimp only at h3
          rw [zk6 v3 hn]
          have ln : Le X.K φ3 H3 φ3 (upd H3 p (.dK (us ++ [(.inl i, v3)]))) := Le.upd f1 (λ xs z => by rw [g1] at z; cases z) (λ _ _ z => by rw [g1] at z; cases z)
          obtain ⟨w1, w2⟩ := S3.write (o := .dct kvs) (o' := .dct (kvs ++ [(.inl i, w3)])) e1 rfl rfl f1 (u := .dK (us ++ [(.inl i, v3)])) ⟨us ++ [(.inl i, v3)], zal, by simp [g2], by
           rw [List.map_append, List.map_append]
           exact (g3.mono ln).append (.one (q3.mono ln))⟩
          exact h3 _ _ _ (l03.trans w1) w2 (q3.mono w1)
       ·rw [if_neg hz] at h3; exact h3.elim
      | _ => rw [e1] at h3; exact h3.elim
    | _ => exact h3.elim
   | _ => exact h3.elim
  ·rw [if_neg hd] at h1; exact h1.elim
end
end Mi
namespace Mi
open PySem PySem.Spec PyProof.Rows L2
section
variable {X : Cx} {pins : List (Addr × Obj)} {σ : St} {H : Hp} {s : Shared}
end
section
variable {X : Cx} {xr : XR} {e a b : Expr} {m ma mb : Ev} {pos : Pos}
end
end Mi
namespace Mi
open PySem PySem.Spec PyProof.Rows L2
mutual
noncomputable def W.beq : W -> W -> Bool
 | .non, .non => true
 | .bl a, .bl b => a == b
 | .int a, .int b => decide (a = b)
 | .str a, .str b => decide (a = b)
 | .tup a, .tup b => beqs a b
 | _, _ => false
noncomputable def beqs : List W -> List W -> Bool
 | [], [] => true
 | a :: as, b :: bs => a.beq b && beqs as bs
 | _, _ => false
end
mutual
theorem W.eq_of : ∀ {a b : W}, a.beq b = true -> a = b
 | .non, .non, _ => rfl
 | .bl a, .bl b, h => by have h' : (a == b) = true := h; rw [beq_iff_eq] at h'; rw [h']
 | .int a, .int b, h => by have h' : decide (a = b) = true := h; rw [decide_eq_true_iff] at h'; rw [h']
 | .str a, .str b, h => by have h' : decide (a = b) = true := h; rw [decide_eq_true_iff] at h'; rw [h']
 | .tup a, .tup b, h => by have h' : beqs a b = true := h; rw [zlC h']
 | .non, .bl _, h => nomatch h | .non, .int _, h => nomatch h | .non, .str _, h => nomatch h | .non, .tup _, h => nomatch h | .non, .ref _, h => nomatch h
 | .bl _, .non, h => nomatch h | .bl _, .int _, h => nomatch h | .bl _, .str _, h => nomatch h | .bl _, .tup _, h => nomatch h | .bl _, .ref _, h => nomatch h
 | .int _, .non, h => nomatch h | .int _, .bl _, h => nomatch h | .int _, .str _, h => nomatch h | .int _, .tup _, h => nomatch h | .int _, .ref _, h => nomatch h
 | .str _, .non, h => nomatch h | .str _, .bl _, h => nomatch h | .str _, .int _, h => nomatch h | .str _, .tup _, h => nomatch h | .str _, .ref _, h => nomatch h
 | .tup _, .non, h => nomatch h | .tup _, .bl _, h => nomatch h | .tup _, .int _, h => nomatch h | .tup _, .str _, h => nomatch h | .tup _, .ref _, h => nomatch h
 | .ref _, .non, h => nomatch h | .ref _, .bl _, h => nomatch h | .ref _, .int _, h => nomatch h | .ref _, .str _, h => nomatch h | .ref _, .tup _, h => nomatch h | .ref _, .ref _, h => nomatch h
theorem zlC : ∀ {a b : List W}, beqs a b = true -> a = b
 | [], [], _ => rfl
 | a :: as, b :: bs, h => by
  have h' : (a.beq b && beqs as bs) = true := h
  rw [Bool.and_eq_true] at h'
  rw [W.eq_of h'.1, zlC h'.2]
 | [], _ :: _, h => nomatch h
 | _ :: _, [], h => nomatch h
end
section
variable {P : Program} {w : World} {K : Frag} {mg : Str -> Option Value} {base : Heap}
noncomputable def FD (K : Frag) (x : Str) (st : Stmt) : Prop := ∃ f fd, Fun K x x st f fd /\ PySem.W.nsIn K mainGlobals x = some (some (.ref f))
theorem zbj {x : Str} {st : Stmt} {f : Addr} {oc : Value} {od an : Option Addr} {osl : Array (Option Value)} {kV doc pm cdv ct : Value} (a : PySem.W.nsIn K mainGlobals x = some (some (.ref f)))
  (l : K.lookup f = some ⟨oc, od, .func (PySem.W.fnOf x x (zb5 st) (zaG st) (zO st) .none kV doc pm an cdv ct), osl⟩) (c : PySem.W.codeIn K cdv x = true) (k : PySem.W.keepIn K (.ref f) = true) : FD K x st := ⟨f, _, zoy l c k, a⟩
noncomputable def CD (K : Frag) (x : Str) (i : Int) : Prop := ∃ t, PySem.W.nsIn K mainGlobals x = some (some (.int i t))
theorem zo7 {x : Str} {i : Int} {t : Tok} (a : PySem.W.nsIn K mainGlobals x = some (some (.int i t))) : CD K x i := ⟨t, a⟩
theorem len1 {us : List Value} (h : us.length = 1) : ∃ a, us = [a] := List.length_eq_one_iff.mp h
theorem len2 {us : List Value} (h : us.length = 2) : ∃ a b, us = [a, b] := by
 obtain ⟨a, t, rfl⟩ := List.exists_cons_of_length_eq_add_one h
 exact (len1 (Nat.succ.inj h)).elim λ b e => ⟨a, b, by rw [e]⟩
theorem len3 {us : List Value} (h : us.length = 3) : ∃ a b c, us = [a, b, c] := by
 obtain ⟨a, t, rfl⟩ := List.exists_cons_of_length_eq_add_one h
 obtain ⟨b, c, rfl⟩ := len2 (Nat.succ.inj h)
 exact ⟨a, b, c, rfl⟩
end
end Mi
namespace Y
open PySem PySem.Spec PyProof.Rows L2 Mi
@[irreducible] noncomputable def YE (X : Cx) (xr : XR) (e : Expr) (m : Ev) : Prop := Mi.SE X xr e m
theorem zw : @YE = @Mi.SE := by
 funext X xr e m
 unfold YE
 rfl
@[irreducible] noncomputable def YA (X : Cx) (xr : XR) (es : List Expr) (m : Ea) : Prop := Mi.SA X xr es m
theorem zB : @YA = @Mi.SA := by
 funext X xr es m
 unfold YA
 rfl
@[irreducible] noncomputable def YT (X : Cx) (xr : XR) (e : Expr) (m : Ev) : Prop := Mi.ST X xr e m
theorem zA : @YT = @Mi.ST := by
 funext X xr e m
 unfold YT
 rfl
@[irreducible] noncomputable def YW (X : Cx) (xr : XR) (e : Expr) (m : Ev) : Prop := Mi.SW X xr e m
theorem zH : @YW = @Mi.SW := by
 funext X xr e m
 unfold YW
 rfl
@[irreducible] noncomputable def YS (X : Cx) (xr : XR) (st : Stmt) (m : Ex) : Prop := Mi.SS X xr st m
theorem zG : @YS = @Mi.SS := by
 funext X xr st m
 unfold YS
 rfl
@[irreducible] noncomputable def YSs (X : Cx) (xr : XR) (st : List Stmt) (m : Ex) : Prop := Mi.SSs X xr st m
theorem zz : @YSs = @Mi.SSs := by
 funext X xr st m
 unfold YSs
 rfl
@[irreducible] noncomputable def YI (X : Cx) (xr : XR) (tg e : Expr) (m : Ei) : Prop := Mi.SI X xr tg e m
theorem zE : @YI = @Mi.SI := by
 funext X xr tg e m
 unfold YI
 rfl
@[irreducible] noncomputable def YG (X : Cx) (tg : Expr) (m : Tg) : Prop := Mi.SG X tg m
theorem zI : @YG = @Mi.SG := by
 funext X tg m
 unfold YG
 rfl
@[irreducible] noncomputable def YF (X : Cx) (xr : XR) (e : Expr) (m : Eq') : Prop := Mi.SF X xr e m
theorem zF : @YF = @Mi.SF := by
 funext X xr e m
 unfold YF
 rfl
@[irreducible] noncomputable def YQ (X : Cx) (xr : XR) (e : Expr) (m : Eq') : Prop := Mi.SQ X xr e m
theorem zC : @YQ = @Mi.SQ := by
 funext X xr e m
 unfold YQ
 rfl
@[irreducible] noncomputable def YTs (X : Cx) (es : List Expr) (m : Ev) : Prop := Mi.STs X es m
theorem zy : @YTs = @Mi.STs := by
 funext X es m
 unfold YTs
 rfl
@[irreducible] noncomputable def YM (X : Cx) (elt : Expr) (gens : List Comprehension) (sc : Scope) (cpos : Pos) (d : Nat) (em : Em) : Prop := Mi.SM X elt gens sc cpos d em
theorem zD : @YM = @Mi.SM := by
 funext X elt gens sc cpos d em
 unfold YM
 rfl
section
variable {X : Cx} {xr : XR} {K : Frag} {e a b c : Expr} {es : List Expr} {m ma mb mc : Ev} {m1 m2 : Ex} {pos : Pos} {st : Stmt} {rest : List Stmt}
theorem zi {mr : Ea} (ha : YE X xr e ma) (hr : YA X xr es mr) (hs : starEach (e :: es) X.env = (false, eval e X.env) :: starEach es X.env := by rfl) : YA X xr (e :: es) (zc ma mr) := by
 (try simp only [zw, zB, zA, zH, zG, zz, zE, zI, zF, zC, zy, zD] at *)
 exact Mi.zi ha hr hs
theorem zm : YA X xr [] aNil := by
 (try simp only [zw, zB, zA, zH, zG, zz, zE, zI, zF, zC, zy, zD] at *)
 exact Mi.zm
theorem za5 (ha : YE X xr a ma) (hb : YE X xr b mb) : YE X xr (.BinOp a .Add b pos) (mBin gAdd ma mb) := by
 (try simp only [zw, zB, zA, zH, zG, zz, zE, zI, zF, zC, zy, zD] at *)
 exact Mi.za5 ha hb
theorem zfg {p : Pos} {q : Eq'} (hc : X.calm = true) (hm : X.mg "all" = none) (ha : YQ X xr e q) (hg : Gl X "all" := by rfl) (he : starEach [e] X.env = (false, eval e X.env) :: starEach [] X.env := by rfl) :
  YE X xr (.Call (.Name "all" p) [e] [] pos) (mQ gAll q) := by
 (try simp only [zw, zB, zA, zH, zG, zz, zE, zI, zF, zC, zy, zD] at *)
 exact Mi.zfg hc hm ha hg he
theorem zdQ {rest : List Expr} (ha : YE X xr a ma) (hb : YE X xr (.BoolOp .And (b :: rest) pos) mb) : YE X xr (.BoolOp .And (a :: b :: rest) pos) (mAnd ma mb) := by
 (try simp only [zw, zB, zA, zH, zG, zz, zE, zI, zF, zC, zy, zD] at *)
 exact Mi.zdQ ha hb
theorem zdk {i j} : YE X xr (.Constant (.bool i) j pos) (mLit (.bl i)) := by
 (try simp only [zw, zB, zA, zH, zG, zz, zE, zI, zF, zC, zy, zD] at *)
 exact Mi.zdk
theorem se_c {op : CmpOp} {g : W -> W -> Hx -> R W} (h : zch X op g) (ha : YE X xr a ma) (hb : YE X xr b mb) (h1 : op ≠ .In := by decide) (h2 : op ≠ .NotIn := by decide) : YE X xr (.Compare a [op] [b] pos) (mBin g ma mb) := by
 (try simp only [zw, zB, zA, zH, zG, zz, zE, zI, zF, zC, zy, zD] at *)
 exact Mi.se_c h ha hb h1 h2
theorem zmu {op op' : CmpOp} {g g' : W -> W -> Hx -> R W} (h : zch X op g) (h' : zch X op' g') (ha : YE X xr a ma) (hb : YE X xr b mb) (hc : YE X xr c mc) (hm : lastMarks [op, op'] [b, c] = false := by with_unfolding_all rfl) :
  YE X xr (.Compare a [op, op'] [b, c] pos) (zbG g g' ma mb mc) := by
 (try simp only [zw, zB, zA, zH, zG, zz, zE, zI, zF, zC, zy, zD] at *)
 exact Mi.zmu h h' ha hb hc hm
theorem zX {k n : Nat} {x : Str} {p : Pos} {f : Fn} {mr : Ea} (F : FnM X.prog X.w X.K X.mg X.base k x n f) (hr : Room k X.A) (ha : YA X xr0 (e :: es) mr) (hl : ALen mr n) (hg : Gl X x := by rfl)
  (hdb : (x == ("__debug__" : Str)) = false := by decide) (he : starEach (e :: es) X.env = (false, eval e X.env) :: starEach es X.env := by rfl) (hpl : (backTo pos (starEach es X.env)).any (·.1) = false := by rfl) :
  YE X xr0 (.Call (.Name x p) (e :: es) [] pos) (zt f mr) := by
 (try simp only [zw, zB, zA, zH, zG, zz, zE, zI, zF, zC, zy, zD] at *)
 exact Mi.zX F hr ha hl hg hdb he hpl
theorem zmf {op : CmpOp} {g : W -> W -> Hx -> R W} (h : InOk X op g) (ha : YE X xr a ma) (hb : YE X xr b mb) (hm : behindInMarks op b = false := by rfl) : YE X xr (.Compare a [op] [b] pos) (mBin g ma mb) := by
 (try simp only [zw, zB, zA, zH, zG, zz, zE, zI, zF, zC, zy, zD] at *)
 exact Mi.zmf h ha hb hm
theorem ziK : YE X xr (.Dict [] [] pos) mDct := by
 (try simp only [zw, zB, zA, zH, zG, zz, zE, zI, zF, zC, zy, zD] at *)
 exact Mi.ziK
theorem zef (ha : YE X xr a ma) (hb : YE X xr b mb) : YE X xr (.BinOp a .FloorDiv b pos) (mBin gDiv ma mb) := by
 (try simp only [zw, zB, zA, zH, zG, zz, zE, zI, zF, zC, zy, zD] at *)
 exact Mi.zef ha hb
theorem zgp {x : Str} {i : Int} {t : Tok} (hg : Gl X x) (hm : X.mg x = some (.int i t)) (hd : (x == ("__debug__" : Str)) = false := by decide) : YE X xr (.Name x pos) (mLit (.int i)) := by
 (try simp only [zw, zB, zA, zH, zG, zz, zE, zI, zF, zC, zy, zD] at *)
 exact Mi.zgp hg hm hd
theorem ziT {c : Expr} (hc : YT X xr c mc) (ha : YE X xr a ma) (hb : YE X xr b mb) : YE X xr (.IfExp c a b pos) (mIf mc ma mb) := by
 (try simp only [zw, zB, zA, zH, zG, zz, zE, zI, zF, zC, zy, zD] at *)
 exact Mi.ziT hc ha hb
theorem zq {i j} : YE X xr (.Constant (.int i) j pos) (mLit (.int i)) := by
 (try simp only [zw, zB, zA, zH, zG, zz, zE, zI, zF, zC, zy, zD] at *)
 exact Mi.zq
theorem zex (t : Ty) {x : Str} {p p' : Pos} (hm : X.mg "isinstance" = none) (hm' : X.mg x = none) (hx : bootBuiltins x = some (.type t.nm)) (ha : YE X xr e m) (hg : Gl X "isinstance" := by rfl) (hg' : Gl X x := by rfl)
  (hn : x ≠ "__name__" := by decide) (hd : (x == ("__debug__" : Str)) = false := by decide)
  (h1 : starEach [e, .Name x p'] X.env = (false, eval e X.env) :: starEach [.Name x p'] X.env := by rfl) (h2 : (backTo pos (starEach [.Name x p'] X.env)).any (·.1) = false := by rfl) :
  YE X xr (.Call (.Name "isinstance" p) [e, .Name x p'] [] pos) (mIs t m) := by
 (try simp only [zw, zB, zA, zH, zG, zz, zE, zI, zF, zC, zy, zD] at *)
 exact Mi.zex t hm hm' hx ha hg hg' hn hd h1 h2
theorem za7 (ha : YE X xr a ma) (hb : YE X xr b mb) (hs : zhE b := by intro _ _; rfl) : YE X xr (.Subscript a b pos) (mBin gIx ma mb) := by
 (try simp only [zw, zB, zA, zH, zG, zz, zE, zI, zF, zC, zy, zD] at *)
 exact Mi.za7 ha hb hs
theorem zaI {p : Pos} {q : Eq'} (hm : X.mg "len" = none) (ha : YQ X xr e q) (hg : Gl X "len" := by rfl) (he : starEach [e] X.env = (false, eval e X.env) :: starEach [] X.env := by rfl) :
  YE X xr (.Call (.Name "len" p) [e] [] pos) (mQ gLen q) := by
 (try simp only [zw, zB, zA, zH, zG, zz, zE, zI, zF, zC, zy, zD] at *)
 exact Mi.zaI hm ha hg he
theorem ze4 {q : Eq'} (h : YF X xr e q) : YE X xr e (zb7 q) := by
 (try simp only [zw, zB, zA, zH, zG, zz, zE, zI, zF, zC, zy, zD] at *)
 exact Mi.ze4 h
theorem zaz {mr : Ea} {n : Nat} (h : YA X xr es mr) (hl : ALen mr n) (hn : n <= zR := by decide) : YE X xr (.List es pos) (mLst mr) := by
 (try simp only [zw, zB, zA, zH, zG, zz, zE, zI, zF, zC, zy, zD] at *)
 exact Mi.zaz h hl hn
theorem zdx {p : Pos} {q : Eq'} (hc : X.calm = true) (hm : X.mg "max" = none) (ha : YQ X xr e q) (hg : Gl X "max" := by rfl) (he : starEach [e] X.env = (false, eval e X.env) :: starEach [] X.env := by rfl) :
  YE X xr (.Call (.Name "max" p) [e] [] pos) (mQ gMax q) := by
 (try simp only [zw, zB, zA, zH, zG, zz, zE, zI, zF, zC, zy, zD] at *)
 exact Mi.zdx hc hm ha hg he
theorem zfe {p : Pos} (hc : X.calm = true) (hm : X.mg "min" = none) (ha : YE X xr a ma) (hb : YE X xr b mb) (hgl : Gl X "min" := by rfl) (h1 : starEach [a, b] X.env = (false, eval a X.env) :: starEach [b] X.env := by rfl) (h2 : starEach [b] X.env = (false, eval b X.env) :: starEach [] X.env := by rfl) (hpl : (backTo pos (starEach [b] X.env)).any (·.1) = false := by rfl) :
  YE X xr (.Call (.Name "min" p) [a, b] [] pos) (mBin zfm ma mb) := by
 (try simp only [zw, zB, zA, zH, zG, zz, zE, zI, zF, zC, zy, zD] at *)
 exact Mi.zfe hc hm ha hb hgl h1 h2 hpl
theorem zbX (ha : YE X xr a ma) (hb : YE X xr b mb) : YE X xr (.BinOp a .Mod b pos) (mBin zbU ma mb) := by
 (try simp only [zw, zB, zA, zH, zG, zz, zE, zI, zF, zC, zy, zD] at *)
 exact Mi.zbX ha hb
theorem zby (ha : YE X xr a ma) (hb : YE X xr b mb) : YE X xr (.BinOp a .Mult b pos) (mBin gMul ma mb) := by
 (try simp only [zw, zB, zA, zH, zG, zz, zE, zI, zF, zC, zy, zD] at *)
 exact Mi.zby ha hb
theorem zeq {j} : YE X xr (.Constant .none j pos) (mLit .non) := by
 (try simp only [zw, zB, zA, zH, zG, zz, zE, zI, zF, zC, zy, zD] at *)
 exact Mi.zeq
theorem zjW (ha : YE X xr a ma) : YE X xr (.UnaryOp .Not a pos) (mNot ma) := by
 (try simp only [zw, zB, zA, zH, zG, zz, zE, zI, zF, zC, zy, zD] at *)
 exact Mi.zjW ha
theorem zer {op} (h : YE X xr a ma) : YE X xr (.BoolOp op [a] pos) ma := by
 (try simp only [zw, zB, zA, zH, zG, zz, zE, zI, zF, zC, zy, zD] at *)
 exact Mi.zer h
theorem ze8 {apos cpos : Pos} (ho : YE X xr a ma) (he : YE X xr b mb) (hf : YE X xr c mc) (h1 : starEach [b, c] X.env = (false, eval b X.env) :: starEach [c] X.env := by rfl) (h2 : starEach [c] X.env = (false, eval c X.env) :: starEach [] X.env := by rfl)
  (hbase : attributeBase a "setdefault" X.env (eval a X.env) = eval a X.env := by rfl)
  (hfew : ((backTo cpos (starEach [b, c] X.env)).all (λ x => !x.1) && (backToKw cpos (keywordEach [] X.env)).all (λ x => x.1.isSome)
   && decide ([b, c].length + ([] : List Keyword).length + (if ([] : List Keyword).isEmpty then 0 else 1) < 30)) = true := by rfl) (hline : (apos.endLine == cpos.line) = true := by rfl) (hpl : (backTo cpos (starEach [c] X.env)).any (·.1) = false := by rfl) :
  YE X xr (.Call (.Attribute a "setdefault" apos) [b, c] [] cpos) (zfO zbO ma mb mc) := by
 (try simp only [zw, zB, zA, zH, zG, zz, zE, zI, zF, zC, zy, zD] at *)
 exact Mi.ze8 ho he hf h1 h2 hbase hfew hline hpl
theorem zep (ha : YE X xr a ma) (hb : YE X xr b mb) : YE X xr (.BinOp a .Sub b pos) (mBin gSub ma mb) := by
 (try simp only [zw, zB, zA, zH, zG, zz, zE, zI, zF, zC, zy, zD] at *)
 exact Mi.zep ha hb
theorem zak {x1} {mr : Ea} {n : Nat} (h : YA X xr es mr) (hl : ALen mr n) (hn : n <= zR := by decide) : YE X xr (.Tuple es x1 pos) (mTup mr) := by
 (try simp only [zw, zB, zA, zH, zG, zz, zE, zI, zF, zC, zy, zD] at *)
 exact Mi.zak h hl hn
theorem zaJ {p : Pos} {q : Eq'} (hm : X.mg "tuple" = none) (ha : YQ X xr e q) (hg : Gl X "tuple" := by rfl) (he : starEach [e] X.env = (false, eval e X.env) :: starEach [] X.env := by rfl) :
  YE X xr (.Call (.Name "tuple" p) [e] [] pos) (mQ gTup q) := by
 (try simp only [zw, zB, zA, zH, zG, zz, zE, zI, zF, zC, zy, zD] at *)
 exact Mi.zaJ hm ha hg he
theorem zh (i : Nat) {x : Str} (hN : X.N[i]? = some x := by rfl) (hv : Vis X.env.scope x := by first | exact Or.inl rfl | exact Or.inr (Or.inl rfl) | exact Or.inr (Or.inr rfl)) (hd : (x == ("__debug__" : Str)) = false := by decide)
  (hcd : (x == ("__classdict__" : Str)) = false := by decide) : YE X xr (.Name x pos) (mVar i) := by
 (try simp only [zw, zB, zA, zH, zG, zz, zE, zI, zF, zC, zy, zD] at *)
 exact Mi.zh i hN hv hd hcd
theorem zaH {elt tg iter : Expr} {ifs : List Expr} {gs : List Comprehension} {sc : Scope} {mi : Ei} {tw : Tg} {mf : Ev} {em : Em} {N : List Str} (nl : Nat) (cap : List Nat) (hc : X.calm = true) (S : zbt X sc) (hcap : zeZ X.N N sc nl cap = true) (hw : YI X xr tg iter mi)
  (hin : ∀ s H fp, YG (cpCx X N sc s H fp noxe) tg tw /\ YTs (cpCx X N sc s H fp noxe) ifs mf /\ YM (cpCx X N sc s H fp noxe) elt (⟨tg, iter, ifs, 0⟩ :: gs) sc pos 0 em)
  (ha : ∀ g', gs[0]? = some g' -> g'.is_async = 0 := by intro _ h; cases h <;> rfl)
  (hs : ∀ x, foldedSetIterable iter X.env x = pure x := by intro _; rfl) : YF X xr (.ListComp elt (⟨tg, iter, ifs, 0⟩ :: gs) sc pos) (zT nl cap mi tw mf em) := by
 (try simp only [zw, zB, zA, zH, zG, zz, zE, zI, zF, zC, zy, zD] at *)
 exact Mi.zaH nl cap hc S hcap hw hin ha hs
theorem zbP (i j : Nat) {x y : Str} {p q : Pos} {k : Nat} (hc : X.calm = true) (hN : X.N.Nodup) (hi : X.N[i]? = some x := by rfl) (hx : Loc X.env.scope x := by first | exact Or.inl rfl | exact Or.inr rfl) (hf : X.fn x = true ∨ X.env.scope.names.lookup x = some .local := by first | exact .inl rfl | exact .inr rfl)
  (hj : X.N[j]? = some y := by rfl) (hy : Loc X.env.scope y := by first | exact Or.inl rfl | exact Or.inr rfl) (hg : X.fn y = true ∨ X.env.scope.names.lookup y = some .local := by first | exact .inl rfl | exact .inr rfl) : YG X (.Tuple [.Name x p, .Name y q] k pos) (zbE i j) := by
 (try simp only [zw, zB, zA, zH, zG, zz, zE, zI, zF, zC, zy, zD] at *)
 exact Mi.zbP i j hc hN hi hx hf hj hy hg
theorem zaL (i : Nat) {x : Str} (hN : X.N.Nodup) (hi : X.N[i]? = some x := by rfl) (hx : Loc X.env.scope x := by first | exact Or.inl rfl | exact Or.inr rfl) (hf : X.fn x = true ∨ X.env.scope.names.lookup x = some .local := by first | exact .inl rfl | exact .inr rfl) : YG X (.Name x pos) (gVar i) := by
 (try simp only [zw, zB, zA, zH, zG, zz, zE, zI, zF, zC, zy, zD] at *)
 exact Mi.zaL i hN hi hx hf
theorem si_E {tg : Expr} (h : YE X xr e m) : YI X xr tg e (mIt m) := by
 (try simp only [zw, zB, zA, zH, zG, zz, zE, zI, zF, zC, zy, zD] at *)
 exact Mi.si_E h
theorem zfY {elts : List Expr} {kk : Nat} {tpos p : Pos} (hg : Gl X "enumerate") (hm : X.mg "enumerate" = none) (ha : YE X xr a ma) (hs : starEach [a] X.env = [(false, eval a X.env)] := by rfl) : YI X xr (.Tuple elts kk tpos) (.Call (.Name "enumerate" p) [a] [] pos) (zh8 ma) := by
 (try simp only [zw, zB, zA, zH, zG, zz, zE, zI, zF, zC, zy, zD] at *)
 exact Mi.zfY hg hm ha hs
theorem zaU {tg : Expr} {p : Pos} (hg : Gl X "range") (hm : X.mg "range" = none) (ha : YE X xr a ma) (hs : starEach [a] X.env = [(false, eval a X.env)] := by rfl) : YI X xr tg (.Call (.Name "range" p) [a] [] pos) (zbq ma) := by
 (try simp only [zw, zB, zA, zH, zG, zz, zE, zI, zF, zC, zy, zD] at *)
 exact Mi.zaU hg hm ha hs
theorem zhW {tg : Expr} {p : Pos} (hg : Gl X "range") (hm : X.mg "range" = none) (ha : YE X xr a ma) (hb : YE X xr b mb) (hs : starEach [a, b] X.env = [(false, eval a X.env), (false, eval b X.env)] := by rfl) (hs2 : starEach [b] X.env = [(false, eval b X.env)] := by rfl) : YI X xr tg (.Call (.Name "range" p) [a, b] [] pos) (zi6 ma mb) := by
 (try simp only [zw, zB, zA, zH, zG, zz, zE, zI, zF, zC, zy, zD] at *)
 exact Mi.zhW hg hm ha hb hs hs2
theorem zjk {elts : List Expr} {kk : Nat} {tpos p : Pos} (hg : Gl X "zip") (hm : X.mg "zip" = none) (ha : YE X xr a ma) (hb : YE X xr b mb) (hs : starEach [a, b] X.env = (false, eval a X.env) :: starEach [b] X.env := by rfl) (hs2 : starEach [b] X.env = (false, eval b X.env) :: starEach [] X.env := by rfl) (hp : (backTo pos (starEach [b] X.env)).any (·.1) = false := by rfl) :
  YI X xr (.Tuple elts kk tpos) (.Call (.Name "zip" p) [a, b] [] pos) (mZip ma mb) := by
 (try simp only [zw, zB, zA, zH, zG, zz, zE, zI, zF, zC, zy, zD] at *)
 exact Mi.zjk hg hm ha hb hs hs2 hp
theorem za1 {elt : Expr} {gens : List Comprehension} {sc : Scope} {d : Nat} {me : Ev} (hx : ∀ e s, X.xe e s -> False) (he : YE X xr0 elt me) (hg : gens[d + 1]? = none) : YM X elt gens sc pos d (zN me) := by
 (try simp only [zw, zB, zA, zH, zG, zz, zE, zI, zF, zC, zy, zD] at *)
 exact Mi.za1 hx he hg
theorem zik {elt tg iter : Expr} {ifs : List Expr} {gens : List Comprehension} {sc : Scope} {d : Nat} {mi : Ei} {tw : Tg} {mf : Ev} {em : Em} (hx : ∀ e s, X.xe e s -> False) (hc : X.calm = true) (hg : gens[d + 1]? = some ⟨tg, iter, ifs, 0⟩) (ha : ∀ g', gens[d + 2]? = some g' -> g'.is_async = 0)
  (hw : YI X xr0 tg iter mi) (hgt : YG X tg tw) (hi : YTs X ifs mf) (hm : YM X elt gens sc pos (d + 1) em) (hs : ∀ x, foldedSetIterable iter X.env x = pure x := by intro _; rfl) : YM X elt gens sc pos d (zeB mi tw mf em) := by
 (try simp only [zw, zB, zA, zH, zG, zz, zE, zI, zF, zC, zy, zD] at *)
 exact Mi.zik hx hc hg ha hw hgt hi hm hs
theorem sq_E (h : YE X xr e m) : YQ X xr e (mSeq m) := by
 (try simp only [zw, zB, zA, zH, zG, zz, zE, zI, zF, zC, zy, zD] at *)
 exact Mi.sq_E h
theorem sq_F {q : Eq'} (h : YF X xr e q) : YQ X xr e q := by
 (try simp only [zw, zB, zA, zH, zG, zz, zE, zI, zF, zC, zy, zD] at *)
 exact Mi.sq_F h
theorem zl (h1 : YS X xr st m1) (h2 : YSs X xr rest m2) : YSs X xr (st :: rest) (xSeq m1 m2) := by
 (try simp only [zw, zB, zA, zH, zG, zz, zE, zI, zF, zC, zy, zD] at *)
 exact Mi.zl h1 h2
theorem zbl (he : YE X xr e m) (hs : swapsWith e none pos.line X.env = pure false := by rfl) : YS X xr (.Expr e pos) (xDo m) := by
 (try simp only [zw, zB, zA, zH, zG, zz, zE, zI, zF, zC, zy, zD] at *)
 exact Mi.zbl he hs
theorem zcK {tg iter : Expr} {body : List Stmt} {mi : Ei} {tw : Tg} (hp : PassesOwn (model X.prog X.w) X.A X.env X.xe) (hc : X.calm = true) (hi : YI X xr tg iter mi) (hg : YG X tg tw) (hb : YSs X xr body m1)
  (hs : ∀ x, foldedSetIterable iter X.env x = pure x := by intro _; rfl) : YS X xr (.For tg iter body [] pos) (xFor mi tw m1) := by
 (try simp only [zw, zB, zA, zH, zG, zz, zE, zI, zF, zC, zy, zD] at *)
 exact Mi.zcK hp hc hi hg hb hs
theorem zci {sa sb : List Stmt} (hc : YT X xr c mc) (ha : YSs X xr sa m1) (hb : YSs X xr sb m2) : YS X xr (.If c sa sb pos) (xIf mc m1 m2) := by
 (try simp only [zw, zB, zA, zH, zG, zz, zE, zI, zF, zC, zy, zD] at *)
 exact Mi.zci hc ha hb
theorem zJ : YSs X xr [] xNil := by
 (try simp only [zw, zB, zA, zH, zG, zz, zE, zI, zF, zC, zy, zD] at *)
 exact Mi.zJ
theorem zU (he : YE X xr e m) : YS X xr (.Return (some e) pos) (xRet m) := by
 (try simp only [zw, zB, zA, zH, zG, zz, zE, zI, zF, zC, zy, zD] at *)
 exact Mi.zU he
theorem zat (i : Nat) {x : Str} {pos' : Pos} (hN : X.N.Nodup) (he : YE X xr e m) (hi : X.N[i]? = some x := by rfl) (hx : Loc X.env.scope x := by first | exact Or.inl rfl | exact Or.inr rfl) (hs : swapsWith e (some (.Name x pos')) pos.line X.env = pure false := by rfl)
  (hf : X.fn x = true ∨ X.env.scope.names.lookup x = some .local := by first | exact .inl rfl | exact .inr rfl) : YS X xr (.Assign [.Name x pos'] e pos) (xSet i m) := by
 (try simp only [zw, zB, zA, zH, zG, zz, zE, zI, zF, zC, zy, zD] at *)
 exact Mi.zat i hN he hi hx hs hf
theorem zdW (i : Nat) {x : Str} {elt tg iter : Expr} {ifs : List Expr} {gs : List Comprehension} {sc : Scope} {mi : Ei} {tw : Tg} {mf : Ev} {em : Em} {N : List Str} {px spos : Pos} (nl : Nat) (cap : List Nat) (hN : X.N.Nodup)
  (hc : X.calm = true) (S : zbt X sc) (hcap : zeZ X.N N sc nl cap = true) (hw : YI X xr tg iter mi)
  (hin : ∀ s H fp, YG (cpCx X N sc s H fp noxe) tg tw /\ YTs (cpCx X N sc s H fp noxe) ifs mf /\ YM (cpCx X N sc s H fp noxe) elt (⟨tg, iter, ifs, 0⟩ :: gs) sc pos 0 em)
  (hi' : X.N[i]? = some x := by rfl) (hx : X.env.scope.names.lookup x = some .local := by rfl)
  (hsw : swapsWith (.ListComp elt (⟨tg, iter, ifs, 0⟩ :: gs) sc pos) (some (.Name x px)) spos.line X.env = pure true := by rfl)
  (ha : ∀ g', gs[0]? = some g' -> g'.is_async = 0 := by intro _ h; cases h <;> rfl)
  (hs : ∀ x, foldedSetIterable iter X.env x = pure x := by intro _; rfl) : YS X xr (.Assign [.Name x px] (.ListComp elt (⟨tg, iter, ifs, 0⟩ :: gs) sc pos) spos) (xSet i (zb7 (zT nl cap mi tw mf em))) := by
 (try simp only [zw, zB, zA, zH, zG, zz, zE, zI, zF, zC, zy, zD] at *)
 exact Mi.zdW i nl cap hN hc S hcap hw hin hi' hx hsw ha hs
theorem zeT (h : YW X xr e m) : YT X xr e m := by
 (try simp only [zw, zB, zA, zH, zG, zz, zE, zI, zF, zC, zy, zD] at *)
 exact Mi.zeT h
theorem st_c {op : CmpOp} {g : W -> W -> Hx -> R W} (h : zch X op g) (ha : YE X xr a ma) (hb : YE X xr b mb) (h1 : op ≠ .In := by decide) (h2 : op ≠ .NotIn := by decide) : YT X xr (.Compare a [op] [b] pos) (mBin g ma mb) := by
 (try simp only [zw, zB, zA, zH, zG, zz, zE, zI, zF, zC, zy, zD] at *)
 exact Mi.st_c h ha hb h1 h2
theorem zmB {op op' : CmpOp} {g g' : W -> W -> Hx -> R W} (h : zch X op g) (h' : zch X op' g') (ha : YE X xr a ma) (hb : YE X xr b mb) (hc : YE X xr c mc) (hm : lastMarks [op, op'] [b, c] = false := by with_unfolding_all rfl) :
  YT X xr (.Compare a [op, op'] [b, c] pos) (zbG g g' ma mb mc) := by
 (try simp only [zw, zB, zA, zH, zG, zz, zE, zI, zF, zC, zy, zD] at *)
 exact Mi.zmB h h' ha hb hc hm
theorem zdS (ha : YT X xr a ma) : YT X xr (.UnaryOp .Not a pos) (mNot ma) := by
 (try simp only [zw, zB, zA, zH, zG, zz, zE, zI, zF, zC, zy, zD] at *)
 exact Mi.zdS ha
theorem zcf (h : YE X xr e m) (he : ∀ whole, isTrue e X.env whole = (do let v <- whole; standAt e.pos; holding [v] (truthy v)) := by intro _; rfl) : YT X xr e m := by
 (try simp only [zw, zB, zA, zH, zG, zz, zE, zI, zF, zC, zy, zD] at *)
 exact Mi.zcf h he
theorem zav : YTs X [] (mLit (.bl true)) := by
 (try simp only [zw, zB, zA, zH, zG, zz, zE, zI, zF, zC, zy, zD] at *)
 exact Mi.zav
theorem zhI (h : YT X xr0 c mc) : YTs X [c] mc := by
 (try simp only [zw, zB, zA, zH, zG, zz, zE, zI, zF, zC, zy, zD] at *)
 exact Mi.zhI h
theorem zkf {rest : List Expr} (ha : YT X xr a ma) (hb : YW X xr (.BoolOp .Or (b :: rest) pos) mb) : YW X xr (.BoolOp .Or (a :: b :: rest) pos) (mOr ma mb) := by
 (try simp only [zw, zB, zA, zH, zG, zz, zE, zI, zF, zC, zy, zD] at *)
 exact Mi.zkf ha hb
theorem zgy (ha : YT X xr a ma) : YW X xr (.BoolOp .Or [a] pos) ma := by
 (try simp only [zw, zB, zA, zH, zG, zz, zE, zI, zF, zC, zy, zD] at *)
 exact Mi.zgy ha
theorem fnM {P : Program} {w : World} {K : Frag} {mg : Str -> Option Value} {base : Heap} {x : Str} {st : Stmt} {f : Addr} {fd : FuncData} {N ps : List Str} {k : Nat} {m : Ex} (F : Fun K x x st f fd) (hm : mg x = some (.ref f)) (S : zai N ps (zO st))
  (hb : ∀ (kV doc pm : Value) (an : Option Addr) (cdv ct : Value) (us : List Value), us.length = ps.length -> bindArgs (PySem.W.fnOf x x (zb5 st) (zaG st) (zO st) .none kV doc pm an cdv ct) ⟨us, []⟩ = pure (ps.zip us))
  (hbody : ∀ (cdv : Value) (A : Around) (outer : List Env) (s : Shared) (H : Hp) (E : XK), Room k (A.deeper (envOfC x (zO st) s.heap.objs.size f cdv)) -> YSs (cxOf CX0 P w K mg base N x (zO st) f cdv A outer s H E).nox xr0 (zaG st) m) :
  FnM P w K mg base (k + 1) x ps.length (runB N.length m) := by
 (try simp only [zw, zB, zA, zH, zG, zz, zE, zI, zF, zC, zy, zD] at *)
 exact Mi.fnM F hm S hb hbody
theorem zbi {apos cpos : Pos} (ho : YE X xr a ma) (he : YE X xr b mb) (hs : starEach [b] X.env = (false, eval b X.env) :: starEach [] X.env := by rfl)
  (hbase : attributeBase a "append" X.env (eval a X.env) = eval a X.env := by rfl)
  (hfew : ((backTo cpos (starEach [b] X.env)).all (λ x => !x.1) && (backToKw cpos (keywordEach [] X.env)).all (λ x => x.1.isSome)
   && decide ([b].length + ([] : List Keyword).length + (if ([] : List Keyword).isEmpty then 0 else 1) < 30)) = true := by rfl) (hline : (apos.endLine == cpos.line) = true := by rfl) :
  YE X xr (.Call (.Attribute a "append" apos) [b] [] cpos) (zcq zaM ma mb) := by
 (try simp only [zw, zB, zA, zH, zG, zz, zE, zI, zF, zC, zy, zD] at *)
 exact Mi.zbi ho he hs hbase hfew hline
theorem zge {p : Pos} (hm : X.mg "int" = none) (ha : YE X xr e m) (hgl : Gl X "int" := by rfl) (he : starEach [e] X.env = (false, eval e X.env) :: starEach [] X.env := by rfl) : YE X xr (.Call (.Name "int" p) [e] [] pos) (mUn gInt m) := by
 (try simp only [zw, zB, zA, zH, zG, zz, zE, zI, zF, zC, zy, zD] at *)
 exact Mi.zge hm ha hgl he
theorem zfS {p : Pos} (hc : X.calm = true) (hm : X.mg "max" = none) (ha : YE X xr a ma) (hb : YE X xr b mb) (hgl : Gl X "max" := by rfl) (h1 : starEach [a, b] X.env = (false, eval a X.env) :: starEach [b] X.env := by rfl) (h2 : starEach [b] X.env = (false, eval b X.env) :: starEach [] X.env := by rfl) (hpl : (backTo pos (starEach [b] X.env)).any (·.1) = false := by rfl) :
  YE X xr (.Call (.Name "max" p) [a, b] [] pos) (mBin zf0 ma mb) := by
 (try simp only [zw, zB, zA, zH, zG, zz, zE, zI, zF, zC, zy, zD] at *)
 exact Mi.zfS hc hm ha hb hgl h1 h2 hpl
theorem zil (ha : YE X xr a ma) (hb : YE X xr b mb) : YE X xr (.BinOp a .Pow b pos) (mBin gPow ma mb) := by
 (try simp only [zw, zB, zA, zH, zG, zz, zE, zI, zF, zC, zy, zD] at *)
 exact Mi.zil ha hb
theorem zgW {x j} : YE X xr (.Constant (.str x) j pos) (mLit (.str x)) := by
 (try simp only [zw, zB, zA, zH, zG, zz, zE, zI, zF, zC, zy, zD] at *)
 exact Mi.zgW
theorem zj3 (ha : YE X xr a ma) (hb : YE X xr b mb) : YE X xr (.BinOp a .BitXor b pos) (mBin gXor ma mb) := by
 (try simp only [zw, zB, zA, zH, zG, zz, zE, zI, zF, zC, zy, zD] at *)
 exact Mi.zj3 ha hb
theorem zfz {o i : Expr} {mo mi : Ev} {tpos : Pos} (he : YE X xr e m) (ho : YE X xr o mo) (hi : YE X xr i mi)
  (hs : swapsWithSole [.Subscript o i tpos] e pos.line X.env = pure false := by rfl) (hw : swappedStores [.Subscript o i tpos] e X.env = pure none := by rfl)
  (h1 : (assignEach [.Subscript o i tpos] X.env).map (·.2) = [assign (.Subscript o i tpos) X.env] := by rfl)
  (ha : ∀ v, assign (.Subscript o i tpos) X.env v = (do
   let ov <- holding [v] (eval o X.env)
   let iv <- holding [v, ov] (eval i X.env)
   standAt tpos
   holding [v, ov, iv] (setItem ov iv v)
   release [v, ov, iv] []) := by intro _; rfl) : YS X xr (.Assign [.Subscript o i tpos] e pos) (zce gPut m mo mi) := by
 (try simp only [zw, zB, zA, zH, zG, zz, zE, zI, zF, zC, zy, zD] at *)
 exact Mi.zfz he ho hi hs hw h1 ha
end
end Y
set_option maxHeartbeats 400000
namespace Mi
open PySem L2
section
variable {ρ ρ1 ρ2 : En} {A A1 A2 A3 : Hx} {w x y z : W} {m ma mb mc : Ev} {m1 m2 : Ex} {i n : Nat} {f : Fn} {ws : List W} {fl : Fl}
theorem zo (h : ρ[i]? = some (some w)) : mVar i ρ A = .ok w A := by unfold mVar; rw [h]
theorem zaT : mLit w ρ A = .ok w A := rfl
theorem zL {g : W -> W -> Hx -> R W} (h1 : ma ρ A = .ok x A1) (h2 : mb ρ A1 = .ok y A2) : mBin g ma mb ρ A = g x y A2 := by unfold mBin; rw [h1, zr, h2, zr]
theorem zc6 {k : Bool} (h : ma ρ A = .ok (.bl k) A1) : mNot ma ρ A = .ok (.bl (!k)) A1 := by unfold mNot; rw [h, zr]
theorem zfF (h : ma ρ A = .ok (.bl true) A1) : mAnd ma mb ρ A = mb ρ A1 := by unfold mAnd; rw [h, zr]
theorem zlQ (h : ma ρ A = .ok (.bl false) A1) : mAnd ma mb ρ A = .ok (.bl false) A1 := by unfold mAnd; rw [h, zr]
theorem zpD (h : ma ρ A = .ok (.bl true) A1) : mOr ma mb ρ A = .ok (.bl true) A1 := by unfold mOr; rw [h, zr]
theorem znd (h : ma ρ A = .ok (.bl false) A1) : mOr ma mb ρ A = mb ρ A1 := by unfold mOr; rw [h, zr]
theorem zkv (h : mc ρ A = .ok (.bl true) A1) : mIf mc ma mb ρ A = ma ρ A1 := by unfold mIf; rw [h, zr]
theorem zkF (h : mc ρ A = .ok (.bl false) A1) : mIf mc ma mb ρ A = mb ρ A1 := by unfold mIf; rw [h, zr]
theorem zQ {a : Ea} (h : a ρ A = .ok ws A1) : zt f a ρ A = f ws A1 := by unfold zt; rw [h, zr]
theorem zjo : aNil ρ A = .ok [] A := rfl
theorem zay {r : Ea} (h1 : ma ρ A = .ok x A1) (h2 : r ρ A1 = .ok ws A2) : zc ma r ρ A = .ok (x :: ws) A2 := by unfold zc; rw [h1, zr, h2, zr]
theorem zmP {a : Ea} (h : a ρ A = .ok ws A1) : mTup a ρ A = .ok (.tup ws) A1 := by unfold mTup; rw [h, zr]
theorem zbN {a : Ea} (h : a ρ A = .ok ws A1) : mLst a ρ A = .ok (.ref A1.length) (A1 ++ [.lst ws]) := by unfold mLst; rw [h, zr]
theorem zu (h : m1 ρ A = .ok (.nx ρ1) A1) : xSeq m1 m2 ρ A = m2 ρ1 A1 := by unfold xSeq; rw [h, zr]
theorem zaj (h : m1 ρ A = .ok (.rt w) A1) : xSeq m1 m2 ρ A = .ok (.rt w) A1 := by unfold xSeq; rw [h, zr]
theorem zap (h : m ρ A = .ok w A1) : xSet i m ρ A = .ok (.nx (ρ.set i (some w))) A1 := by unfold xSet; rw [h, zr]
theorem zdM (h : m ρ A = .ok w A1) : xDo m ρ A = .ok (.nx ρ) A1 := by unfold xDo; rw [h, zr]
theorem zaw (h : m ρ A = .ok w A1) : xRet m ρ A = .ok (.rt w) A1 := by unfold xRet; rw [h, zr]
theorem zfq (h : mc ρ A = .ok (.bl true) A1) : xIf mc m1 m2 ρ A = m1 ρ A1 := by unfold xIf; rw [h, zr]
theorem zdf (h : mc ρ A = .ok (.bl false) A1) : xIf mc m1 m2 ρ A = m2 ρ A1 := by unfold xIf; rw [h, zr]
theorem zcI {mi : Ei} {tw : Tg} {j : Itx} (h : mi ρ A = .ok j A1) : xFor mi tw m1 ρ A = zbJ j (turn tw m1) j.len 0 ρ A1 := by unfold xFor; rw [h, zr]
theorem zb6 {tw : Tg} (h : tw w ρ = some ρ1) : turn tw m1 w ρ A = m1 ρ1 A := by unfold turn; rw [h]
theorem zbL {j : Itx} {st : W -> Ex} (h : j.at_ A i = some none) : zbJ j st n i ρ A = .ok (.nx ρ) A := by
 cases n with
 | zero => unfold zbJ; rw [h]
 | succ n => unfold zbJ; rw [h]
theorem zc7 {j : Itx} {st : W -> Ex} (h : j.at_ A i = some (some w)) (hs : st w ρ A = .ok (.nx ρ1) A1) : zbJ j st (n + 1) i ρ A = zbJ j st n (i + 1) ρ1 A1 := by
 rw [zbJ, h]; dsimp only; rw [hs, zr]
theorem zcy {k : Int} (h : m ρ A = .ok (.int k) A1) (hk : zaO k = true) : zbq m ρ A = .ok (zbI 0 k.toNat) A1 := by unfold zbq; rw [h, zr]; dsimp only; rw [if_pos hk]
theorem zdn {lo : Int} {k : Nat} (h : i < k) : (zbI lo k).at_ A i = some (some (.int (lo + i))) := by unfold zbI; dsimp only; rw [if_pos h]
theorem zb4 {lo : Int} {k : Nat} (h : ¬ i < k) : (zbI lo k).at_ A i = some none := by unfold zbI; dsimp only; rw [if_neg h]
theorem zaq (h : m1 (ws.map some ++ List.replicate (n - ws.length) none) A = .ok (.rt w) A1) : runB n m1 ws A = .ok w A1 := by unfold runB; rw [h]; rfl
theorem zbH {w : W} (hn : nrs ws = true) (hw : w.nr = true) (h : f ws [] = .ok w A1) : iso f ws A = .ok w A := by
 unfold iso
 rw [if_pos hn, h]
 cases w with
 | ref k => cases hw
 | _ => dsimp only; rw [if_pos hw]
end
end Mi
set_option maxHeartbeats 400000
namespace Mi
open PySem L2
theorem zk9 {j : Itx} {ifs me : Ev} {c : En} {A : Hx} {N : Nat} {item g : Nat -> W} {keep : Nat -> Bool} (hat : ∀ i, i < N -> j.at_ A i = some (some (item i))) (hend : j.at_ A N = some none)
  (hi : ∀ i, i < N -> ifs (some (item i) :: c) A = .ok (.bl (keep i)) A) (he : ∀ i, i < N -> keep i = true -> me (some (item i) :: c) A = .ok (g i) A) :
  ∀ (n i : Nat) (x : Option W) (acc : List W), i + n = N -> acc.length + n <= zR -> ∃ y, emGo j (gVar 0) ifs (zN me) n i (x :: c) acc A = .ok (y :: c, acc ++ ((List.range' i n).filter keep).map g) A := by
 intro n
 induction n with
 | zero =>
  intro i x acc h _
  have : i = N := by omega
  subst this
  refine ⟨x, ?_⟩
  unfold emGo
  rw [hend]
  simp
 | succ n ih =>
  intro i x acc h hl
  have hlt : i < N := by omega
  rw [emGo, hat i hlt]
  dsimp only [gVar, List.set]
  rw [hi i hlt, zr]
  rw [List.range'_succ]
  cases hk : keep i with
  | true =>
   dsimp only
   obtain ⟨y, e⟩ := ih (i + 1) (some (item i)) (acc ++ [g i]) (by omega) (by rw [List.length_append, List.length_singleton]; omega)
   refine ⟨y, ?_⟩
   have ee : zN me (some (item i) :: c) acc A = .ok (some (item i) :: c, acc ++ [g i]) A := by
    unfold zN
    rw [he i hlt hk, zr, if_pos (by omega)]
   rw [ee, zr]
   dsimp only
   rw [e, List.filter_cons_of_pos hk, List.map_cons, List.append_assoc]
   rfl
  | false =>
   dsimp only
   obtain ⟨y, e⟩ := ih (i + 1) (some (item i)) acc (by omega) (by omega)
   exact ⟨y, by rw [e, List.filter_cons_of_neg (by rw [hk]; exact Bool.false_ne_true)]⟩
theorem zfQ {cap : List Nat} {mi : Ei} {j : Itx} {ifs me : Ev} {ρ : En} {A : Hx} {N : Nat} {item g : Nat -> W} {keep : Nat -> Bool} (hm : mi ρ A = .ok j A) (hj : j.len = N) (hN : N <= zR)
  (hat : ∀ i, i < N -> j.at_ A i = some (some (item i))) (hend : j.at_ A N = some none) (hi : ∀ i, i < N -> ifs (some (item i) :: cap.map λ i => (ρ[i]?).join) A = .ok (.bl (keep i)) A)
  (he : ∀ i, i < N -> keep i = true -> me (some (item i) :: cap.map λ i => (ρ[i]?).join) A = .ok (g i) A) :
  zT 1 cap mi (gVar 0) ifs (zN me) ρ A = .ok (((List.range N).filter keep).map g) A := by
 obtain ⟨y, e⟩ := zk9 hat hend hi he N 0 none [] (Nat.zero_add N) (by simpa using hN)
 unfold zT
 rw [hm, zr, hj]
 have hc : zf3 1 cap ρ = none :: cap.map λ i => (ρ[i]?).join := rfl
 rw [hc, e, List.nil_append, <- List.range_eq_range']
 rfl
theorem zd5 {cap : List Nat} {mi : Ei} {j : Itx} {me : Ev} {ρ : En} {A : Hx} {N : Nat} {item g : Nat -> W} (hm : mi ρ A = .ok j A) (hj : j.len = N) (hN : N <= zR)
  (hat : ∀ i, i < N -> j.at_ A i = some (some (item i))) (hend : j.at_ A N = some none) (he : ∀ i, i < N -> me (some (item i) :: cap.map λ i => (ρ[i]?).join) A = .ok (g i) A) :
  zT 1 cap mi (gVar 0) (mLit (.bl true)) (zN me) ρ A = .ok ((List.range N).map g) A := by
 have h := zfQ (ifs := mLit (.bl true)) (keep := λ _ => true) hm hj hN hat hend (λ _ _ => rfl) λ i hi _ => he i hi
 have f : (List.range N).filter (λ _ => true) = List.range N := List.filter_eq_self.mpr λ _ _ => rfl
 rw [f] at h
 exact h
theorem zcC {g : List W -> Hx -> R W} {q : Eq'} {ρ : En} {A A1 : Hx} {ws : List W} (h : q ρ A = .ok ws A1) : mQ g q ρ A = g ws A1 := by unfold mQ; rw [h, zr]
theorem zdH {q : Eq'} {ρ : En} {A A1 : Hx} {ws : List W} (h : q ρ A = .ok ws A1) : zb7 q ρ A = .ok (.ref A1.length) (A1 ++ [.lst ws]) := by unfold zb7; rw [h, zr]
theorem zbd {m : Ev} {ρ : En} {A A1 : Hx} {w : W} {ws : List W} (h : m ρ A = .ok w A1) (hs : zK w A1 = some ws) : mSeq m ρ A = .ok ws A1 := by unfold mSeq; rw [h, zr, hs]
end Mi
namespace Mi
open PySem PySem.Spec PyProof.Rows L2
inductive TbLy (H : Hp) (h g : Heap) (e : Addr) (vs : Array Value) : Prop
 | mk (T : Addr) (oT : Obj) (ts : Array Value) (h1 : vs[1]? = some (.ref T)) (ne : T ≠ e) (ng : g.get? T = none) (nH : H T = none) (hT : h.get? T = some oT) (hd : oT.data = .fields ts) (h3 : ts[3]? = some .none)
inductive zdX (H : Hp) (h g : Heap) (e : Addr) (C : Value) : Prop
 | mk (ng : g.get? e = none) (nH : H e = none) (oe : Obj) (vs : Array Value) (a0 : Value) (he : h.get? e = some oe) (hc : oe.cls = C) (hd : oe.data = .fields vs) (h0 : vs[0]? = some a0) (h1 : vs[1]? = some .none ∨ TbLy H h g e vs)
inductive Tr (h : Heap) (e : Addr) : Prop
 | mk (oe : Obj) (vs : Array Value) (T : Addr) (he : h.get? e = some oe) (hd : oe.data = .fields vs) (h1 : vs[1]? = some (.ref T))
section
variable {M : Model} {A : Around} {E : Value -> Shared -> Prop} {s : Shared} {env : Env} {outer : List Env} {L e : Addr} {C : Value} {H : Hp} {g : Heap}
theorem frames_at {base base' : Heap} : ∀ {l : List Env}, s.heap.FunFrames base l -> (∀ b ∈ frs l, base'.get? b = none) -> s.heap.FunFrames base' l
 | [], _, _ => trivial
 | en :: r, ⟨hk, ⟨L, o, hf, hn, ho, hd⟩, hr⟩, h => ⟨hk, ⟨L, o, hf, h L (by unfold frs; rw [List.filterMap_cons, hf]; exact List.mem_cons_self ..), ho, hd⟩, frames_at hr λ b hb => h b (by
   unfold frs
   rw [List.filterMap_cons, hf]
   exact List.mem_cons_of_mem _ hb)⟩
theorem zlB {base : Heap} {Q : Unit -> Shared -> Prop} (hfr : A.frames = some (env :: outer)) (hf : env.frame = some L) (hl : s.heap.FunFrames base (env :: outer)) (x : zdX H s.heap g e C)
  (tr : ∀ b u, H b = some u -> ∃ o, s.heap.get? b = some o) (th : ∀ b o, g.get? b = some o -> ∃ o', s.heap.get? b = some o')
  (hQ : ∀ h', (∀ b o, s.heap.get? b = some o -> b ∉ frs (env :: outer) -> ((∃ o', g.get? b = some o') ∨ ∃ u, H b = some u) -> h'.get? b = some o) -> (∀ b o, s.heap.get? b = some o -> b ∈ frs (env :: outer) -> ∃ sl, h'.get? b = some { o with slots := sl }) ->
   zdX H h' g e C -> Tr h' e -> Q () { s with heap := h' }) : wpAny M A (leaving env (.ref e)) Q E s := by
 obtain ⟨hg, hH, oe, vs, a0, he, hc, hd, h0, h1⟩ := x
 have fin : ∀ (hid : List Addr), (∀ b ∈ frs (env :: outer), b ∈ hid) -> (∀ b ∈ hid, b ∉ frs (env :: outer) -> g.get? b = none /\ H b = none) -> ∀ h', Heap.LeftW (PySem.W.hideAll s.heap hid) (env :: outer) e C a0 s.heap h' -> Q () { s with heap := h' } := by
  intro hid hi1 hi2 h' ⟨st, ff, tr', us⟩
  refine hQ h' (λ b o hb nb hx => ?_) (λ b o hb mb => ?_) ?_ (by obtain ⟨oe', vs', T, oT, ts, he', _, hd', h1', _⟩ := tr'; exact ⟨oe', vs', T, he', hd', h1'⟩)
  ·refine st b o (PySem.W.hideAll_get hid hb λ hm => ?_)
   obtain ⟨z1, z2⟩ := hi2 b hm nb
   rcases hx with ⟨o', q⟩ | ⟨u, q⟩
   ·rw [z1] at q; cases q
   ·rw [z2] at q; cases q
  ·obtain ⟨_, o', ho', hnf⟩ := hl.mem mb
   rw [hb] at ho'; cases ho'
   exact us b o hb hnf
  ·obtain ⟨oe', vs', T, oT, ts, he', ⟨hc', h0'⟩, hd', h1', hT0, hTe, hT, hdT, h3⟩ := tr'
   have nT : T ∉ frs (env :: outer) := λ hm => by
    obtain ⟨_, o', ho', hnf⟩ := hl.mem hm
    obtain ⟨sl, z⟩ := us T o' ho' hnf
    rw [hT] at z; cases z
    exact hnf ts hdT
   have both : g.get? T = none /\ H T = none := by
    cases q : s.heap.get? T with
    | some o =>
     by_cases hm : T ∈ hid
     ·exact hi2 T hm nT
     ·rw [PySem.W.hideAll_get hid q hm] at hT0; cases hT0
    | none =>
     constructor
     ·cases z : g.get? T with
      | none => rfl
      | some o => obtain ⟨o', z'⟩ := th T o z; rw [q] at z'; cases z'
     ·cases z : H T with
      | none => rfl
      | some u => obtain ⟨o', z'⟩ := tr T u z; rw [q] at z'; cases z'
   exact ⟨hg, hH, oe', vs', a0, he', hc', hd', h0', .inr ⟨T, oT, ts, h1', hTe, both.1, both.2, hT, hdT, h3⟩⟩
 have stay : ∀ hid : List Addr, (PySem.W.hideAll s.heap hid).StaysIn s.heap := λ hid b o q => PySem.W.of_hideAll hid q
 rcases h1 with h1 | ⟨T, oT, ts, h1, hTe, hgT, hHT, hT, hdT, h3⟩
 ·have hn : ∀ b ∈ e :: frs (env :: outer), (PySem.W.hideAll s.heap (e :: frs (env :: outer))).get? b = none := λ b hb => PySem.W.hideAll_none _ hb
  refine wpAny_leaving_firstW (base := PySem.W.hideAll s.heap (e :: frs (env :: outer))) hfr (frames_at hl λ b hb => hn b (List.mem_cons_of_mem _ hb)) hf he (stay _) (hn e (List.mem_cons_self ..)) hd h1 h0 ?_
  rw [hc]
  refine fin _ (λ b hb => List.mem_cons_of_mem _ hb) λ b hb nb => ?_
  rcases List.mem_cons.mp hb with rfl | hb
  ·exact ⟨hg, hH⟩
  ·exact absurd hb nb
 ·have hn : ∀ b ∈ e :: T :: frs (env :: outer), (PySem.W.hideAll s.heap (e :: T :: frs (env :: outer))).get? b = none := λ b hb => PySem.W.hideAll_none _ hb
  refine wpAny_leaving_nextW (base := PySem.W.hideAll s.heap (e :: T :: frs (env :: outer))) hfr (frames_at hl λ b hb => hn b (List.mem_cons_of_mem _ (List.mem_cons_of_mem _ hb))) hf
   ⟨oe, vs, T, oT, ts, he, ⟨hc, h0⟩, hd, h1, hn T (List.mem_cons_of_mem _ (List.mem_cons_self ..)), hTe, hT, hdT, h3⟩ (stay _) (hn e (List.mem_cons_self ..)) ?_
  refine fin _ (λ b hb => List.mem_cons_of_mem _ (List.mem_cons_of_mem _ hb)) λ b hb nb => ?_
  rcases List.mem_cons.mp hb with rfl | hb
  ·exact ⟨hg, hH⟩
  ·rcases List.mem_cons.mp hb with rfl | hb
   ·exact ⟨hgT, hHT⟩
   ·exact absurd hb nb
end
inductive MX (P : Program) (w : World) (outer : List Env) (H : Hp) (s : Shared) (E : XK) (e : Value) (s' : Shared) : Prop
 | mk (ea C : Addr) (H' : Hp) (he : e = .ref ea) (os : s'.os = s.os) (b : AllBare s'.gens) (un : Un (frs outer) [] H H' s.heap s'.heap) (hk : HOk P w H' s'.heap) (ly : zdX H' s'.heap s.heap ea (.ref C)) (tr : Tr s'.heap ea) (q : E (.ref C) none H')
noncomputable def CXe (P : Program) (w : World) : CXT := λ outer H s E e s' => MX P w outer H s E e s'
end Mi
namespace Mi
open PySem PySem.Spec PyProof.Rows L2
theorem _root_.L2.zZ.obj {P : Program} {w : World} {H : Hp} {h : Heap} {a : Addr} {o : HO} (x : zZ P w H h a o) : ∃ ob, h.get? a = some ob := by
 cases o with
 | lst xs => obtain ⟨_, _, _, _, e⟩ := x; exact ⟨_, e⟩
 | tup xs => obtain ⟨_, _, _, o, e, _⟩ := x; exact ⟨o, e⟩
 | dK kvs => obtain ⟨_, _, _, _, o, _, _, e, _⟩ := x; exact ⟨o, e⟩
 | dT kvs => obtain ⟨_, _, _, _, o, _, _, e, _⟩ := x; exact ⟨o, e⟩
 | set S n => obtain ⟨o, _, _, _, e, _⟩ := x; exact ⟨o, e⟩
 | ins C dx fs => obtain ⟨_, _, _, e, _⟩ := x; exact ⟨_, e⟩
 | own y => exact x
 | xd fs => obtain ⟨_, ⟨o, _, _, e, _⟩, _⟩ := x; exact ⟨o, e⟩
 | rng lo hi => obtain ⟨_, _, _, e⟩ := x; exact ⟨_, e⟩
 | frz ob u => exact ⟨ob, x.1⟩
 | tbl ps => exact ⟨_, (show h.get? a = some _ from x)⟩
 | met f y => exact ⟨_, (show h.get? a = some _ from x)⟩
 | ext φ => exact x.2.1
theorem zjg {P : Program} {w : World} {K : Frag} {mg : Str -> Option Value} {base : Heap} {N : List Str} {qual : Str} {scope : Scope} {f : Addr} {cd : Value} {A : Around} {outer : List Env} {s : Shared} {H : Hp} {E : XK}
  {pins : List (Addr × Obj)} {σ : St} {H' : Hp} {s' : Shared} {ea C : Addr} (I : Inv (cxOf (CXe P w) P w K mg base N qual scope f cd A outer s H E) pins σ H' s') (x : zdX H' s'.heap s.heap ea (.ref C)) (hE : E (.ref C) none H') :
  (cxOf (CXe P w) P w K mg base N qual scope f cd A outer s H E).xe (.ref ea) s' := by
 have bs : Un (frs outer) [] H H' s.heap s'.heap := I.base
 have stk : ∀ b ∈ frs (envOfC qual scope s.heap.objs.size f cd :: outer), H' b = none := I.stkFree
 have hL : s.heap.get? s.heap.objs.size = none := Heap.get?_none_of_le (Nat.le_refl _)
 have hfe : (envOfC qual scope s.heap.objs.size f cd).frame = some s.heap.objs.size := rfl
 have mem : ∀ b, b ∈ frs (envOfC qual scope s.heap.objs.size f cd :: outer) ↔ b = s.heap.objs.size ∨ b ∈ frs outer := λ b => by
  unfold frs
  rw [List.filterMap_cons, hfe]
  exact List.mem_cons
 show wpAny (model P w) (A.deeper (envOfC qual scope s.heap.objs.size f cd)) (leaving (envOfC qual scope s.heap.objs.size f cd) (.ref ea)) _ _ s'
 refine zlB (base := base) (L := s.heap.objs.size) I.ok.frames rfl I.stack x (λ b u e => (I.hok b u e).obj) (λ b o e => bs.there b o e (by simp)) λ h' k1 k2 x' tr' => ?_
 have nfr : ∀ b u, H' b = some u -> b ∉ frs (envOfC qual scope s.heap.objs.size f cd :: outer) := λ b u e hm => by rw [stk b hm] at e; cases e
 refine ⟨ea, C, H', rfl, I.os, I.bare, ⟨λ b o e n nb _ => ?_, λ b o e n mb _ => ?_, λ b o e n hx => bs.free b o e n hx, λ b o e hx => ?_, bs.tups, bs.frzs, bs.tbls⟩, λ b u e => ?_, x', tr', hE⟩
 ·have nL : b ≠ s.heap.objs.size := λ z => by rw [z, hL] at e; cases e
  exact k1 b o (bs.keep b o e n nb (by simp)) (λ hm => (mem b).mp hm |>.elim nL nb) (.inl ⟨o, e⟩)
 ·obtain ⟨sl, q⟩ := bs.slot b o e n mb (by simp)
  obtain ⟨sl', q'⟩ := k2 b _ q ((mem b).mpr (.inr mb))
  exact ⟨sl', q'⟩
 ·obtain ⟨o', q⟩ := bs.there b o e hx
  by_cases hm : b ∈ frs (envOfC qual scope s.heap.objs.size f cd :: outer)
  ·obtain ⟨sl, z⟩ := k2 b o' q hm; exact ⟨_, z⟩
  ·exact ⟨o', k1 b o' q hm (.inl ⟨o, e⟩)⟩
 ·refine (I.hok b u e).stay (λ c v hc q => ?_) (λ _ q => q) λ _ _ q => q
  rcases hc with z | z
  ·rw [z] at q ⊢; exact k1 b v q (nfr b u e) (.inr ⟨u, e⟩)
  ·exact k1 c v q (nfr c _ z) (.inr ⟨_, z⟩)
theorem zg9 {X : Cx} {pins : List (Addr × Obj)} {σ : St} {H : Hp} {s s' : Shared} {E : XK} {e : Value} (I : Inv X pins σ H s) (h : CXe X.prog X.w X.stack H s E e s') (g : Heap) (hg : ∀ b o, g.get? b = some o -> ∃ o', s.heap.get? b = some o') :
  ∃ ea C H', e = .ref ea /\ Inv X pins σ H' s' /\ zdX H' s'.heap g ea (.ref C) /\ Tr s'.heap ea /\ E (.ref C) none H' := by
 obtain ⟨ea, C, H', rfl, os, bare, un, hok, x, tr, hE⟩ := h
 obtain ⟨hh, gg, d, t, os'⟩ := s'
 obtain rfl : os' = s.os := os
 refine ⟨ea, C, H', rfl, I.call (h' := hh) (g' := gg) (d' := d) (t' := t) (ch := []) un hok bare (λ b z => absurd z (by simp)), ?_, tr, hE⟩
 have up : ∀ b, s.heap.get? b = none -> g.get? b = none := λ b n => by
  cases z : g.get? b with
  | none => rfl
  | some o => obtain ⟨o', q⟩ := hg b o z; rw [n] at q; cases q
 obtain ⟨a1, a2, oe, vs, a0, b1, b2, b3, b4, b5⟩ := x
 refine ⟨up ea a1, a2, oe, vs, a0, b1, b2, b3, b4, ?_⟩
 rcases b5 with b5 | ⟨T, oT, ts, c1, c2, c3, c4, c5, c6, c7⟩
 ·exact .inl b5
 ·exact .inr ⟨T, oT, ts, c1, c2, up T c3, c4, c5, c6, c7⟩
end Mi
namespace Mi
open PySem PySem.Spec PyProof.Rows L2
noncomputable def XE1 (K : Frag) (E : XK) : XR := λ x H => ∀ Ca : Addr, zbW K x (.ref Ca) -> E (.ref Ca) none H
inductive spX (K : Frag) (n : Nat) (f : Fn) (vs : List V) (H : Hp) (Q : VK) (E : XK) : Prop
 | mk (len : vs.length = n) (φ : List Addr) (A : Hx) (ws : List W) (S : Sim K φ A H) (r : RVs K φ H ws vs) (q : (f ws A).post (PB K φ H Q) (EB K φ H (XE1 K E)))
theorem spX.len {K : Frag} {n : Nat} {f : Fn} {vs : List V} {H : Hp} {Q : VK} {E : XK} (h : spX K n f vs H Q E) : vs.length = n := by cases h; assumption
inductive FnX (P : Program) (w : World) (K : Frag) (mg : Str -> Option Value) (base : Heap) (k : Nat) (x : Str) (n : Nat) (f : Fn) : Prop
 | mk (fa : Addr) (fd : FuncData) (ps : List Str) (F : FnOk P w K mg base (CXe P w) k fa fd ps (spX K n f)) (at_ : mg x = some (.ref fa)) (kp : PySem.W.keepIn K (.ref fa) = true) (bi : Binds K fd ps [])
structure XeOk (X : Cx) (g : Heap) (xr : XR) : Prop where
 th : ∀ pins σ H s, Inv X pins σ H s -> ∀ b o, g.get? b = some o -> ∃ o', s.heap.get? b = some o'
 out : ∀ pins σ H s ea C x, Inv X pins σ H s -> zdX H s.heap g ea (.ref C) -> zbW X.K x (.ref C) -> xr x H -> X.xe (.ref ea) s
theorem xeOk {P : Program} {w : World} {K : Frag} {mg : Str -> Option Value} {base : Heap} {N : List Str} {qual : Str} {scope : Scope} {f : Addr} {cd : Value} {A : Around} {outer : List Env} {s : Shared} {H : Hp} {E : XK} :
  XeOk (cxOf (CXe P w) P w K mg base N qual scope f cd A outer s H E) s.heap (XE1 K E) where
 th := λ pins σ H' s' I b o e => (show Un (frs outer) [] H H' s.heap s'.heap from I.base).there b o e (by simp)
 out := λ pins σ H' s' ea C x I ly c hx => zjg I ly (hx C c)
section
variable {X : Cx} {g : Heap} {xr : XR} {e a b c : Expr} {es : List Expr} {m ma mb mc : Ev} {m1 m2 : Ex} {pos : Pos} {st : Stmt}
noncomputable def Eup (K : Frag) (xr : XR) : XK := λ Cv _ H => ∃ x Ca, Cv = .ref Ca /\ zbW K x (.ref Ca) /\ xr x H
theorem XeOk.passes (x : XeOk X g xr) : Passes (CXe X.prog X.w) X (Eup X.K xr) := λ pins σ H s e s' I h => by
 obtain ⟨ea, C, H', rfl, I', ly, _, nm, Ca, ec, c, hx⟩ := zg9 I h g (x.th pins σ H s I)
 cases ec
 exact x.out pins σ H' s' ea C nm I' ly c hx
theorem za9 {k n : Nat} {x : Str} {p : Pos} {f : Fn} {mr : Ea} (xo : XeOk X g xr) (F : FnX X.prog X.w X.K X.mg X.base k x n f) (hr : Room k X.A) (ha : SA X xr (e :: es) mr) (hl : ALen mr n) (hg : Gl X x := by rfl)
  (hdb : (x == ("__debug__" : Str)) = false := by decide) (he : starEach (e :: es) X.env = (false, eval e X.env) :: starEach es X.env := by rfl) (hpl : (backTo pos (starEach es X.env)).any (·.1) = false := by rfl) :
  SE X xr (.Call (.Name x p) (e :: es) [] pos) (zt f mr) := by
 obtain ⟨fa, fd, ps, F, hm, hk, hb⟩ := F
 refine PE.imp (zjS F hr hg hm hk hb .nil xo.passes ha hdb he hpl) λ σ H Q ⟨φ, A, ρ, S, re, h⟩ => ?_
 have h' := zM.mp h
 refine ⟨φ, A, ρ, S, re, ?_⟩
 cases er : mr ρ A with
 | ok ws A1 =>
  rw [er] at h'
  intro φ1 H1 vs l1 S1 q1
  have hv : vs.length = n := by rw [<- q1.length]; exact hl ρ A ws A1 er
  rw [List.append_nil]
  refine ⟨hv, φ1, A1, ws, S1, q1, zS h' (λ _ _ z => z.mono l1) λ y A2 z φ2 H2 l2 S2 Ca hC => ?_⟩
  exact ⟨y, Ca, rfl, hC, z φ2 H2 (l1.trans l2) S2⟩
 | exc y A1 => rw [er] at h'; exact h'
 | bad => rw [er] at h'; exact h'
theorem zij (h : ST X.nox xr0 e m) : ST X xr e λ ρ A => (m ρ A).nox := by
 refine PT.imp (PT.nox h) λ σ H Q ⟨φ, A, ρ, S, re, q⟩ => ⟨φ, A, ρ, S, re, ?_⟩
 cases er : m ρ A with
 | ok w A1 => (try dsimp only at q); rw [er] at q; exact q
 | exc y A1 => (try dsimp only at q); rw [er] at q; exact q.elim
 | bad => (try dsimp only at q); rw [er] at q; exact q.elim
theorem zgs {sts : List Stmt} (h : SSs X.nox xr0 sts m1) : SSs X xr sts λ ρ A => (m1 ρ A).nox := by
 refine PSs.imp (PSs.nox h) λ D σ H ⟨φ, A, ρ, S, re, q⟩ => ⟨φ, A, ρ, S, re, ?_⟩
 cases er : m1 ρ A with
 | ok w A1 => (try dsimp only at q); rw [er] at q; exact q
 | exc y A1 => (try dsimp only at q); rw [er] at q; exact q.elim
 | bad => (try dsimp only at q); rw [er] at q; exact q.elim
end
noncomputable def runX (n : Nat) (m : Ex) : Fn := λ ws A => (m (ws.map some ++ List.replicate (n - ws.length) none) A).bind λ fl A1 => match fl with
 | .rt w => .ok w A1
 | .nx _ => .ok .non A1
 | _ => .bad
section
variable {P : Program} {w : World} {K : Frag} {mg : Str -> Option Value} {base : Heap}
theorem fnX {x : Str} {st : Stmt} {f : Addr} {fd : FuncData} {N ps : List Str} {k : Nat} {m : Ex} (F : Fun K x x st f fd) (hm : mg x = some (.ref f)) (S : zai N ps (zO st))
  (hb : ∀ (kV doc pm : Value) (an : Option Addr) (cdv ct : Value) (us : List Value), us.length = ps.length -> bindArgs (PySem.W.fnOf x x (zb5 st) (zaG st) (zO st) .none kV doc pm an cdv ct) ⟨us, []⟩ = pure (ps.zip us))
  (hbody : ∀ (cdv : Value) (A : Around) (outer : List Env) (s : Shared) (H : Hp) (E : XK), Room k (A.deeper (envOfC x (zO st) s.heap.objs.size f cdv)) ->
   XeOk (cxOf (CXe P w) P w K mg base N x (zO st) f cdv A outer s H E) s.heap (XE1 K E) -> SSs (cxOf (CXe P w) P w K mg base N x (zO st) f cdv A outer s H E) (XE1 K E) (zaG st) m) :
  FnX P w K mg base (k + 1) x ps.length (runX N.length m) := by
 refine ⟨f, fd, ps, ?_, hm, F.kp, F.binds hb⟩
 obtain ⟨oc, od, kV, doc, pm, an, cdv, ct, osl, rfl, lk, hcd⟩ := F.ex
 refine zmL lk hcd S (λ vs H Q E h => h.len) λ A outer s H vs Q E hr ⟨hl, φ, A1, ws, Sm, r, h⟩ => ⟨_, hbody cdv A outer s H E hr xeOk, ?_⟩
 refine ⟨φ, A1, ws.map some ++ List.replicate (N.length - ws.length) none, Sm, RE.start r, ?_⟩
 have h' := zM.mp h
 show R.post _ (FB K φ H _) _
 cases er : m (ws.map some ++ List.replicate (N.length - ws.length) none) A1 with
 | ok fl A2 =>
  rw [er] at h'
  cases fl with
  | rt w => exact h'
  | nx ρ => exact λ φ' H' σ' l S' _ => h' φ' H' .non l S' rfl
  | bk ρ => exact h'.elim
  | ct ρ => exact h'.elim
 | exc y A2 => rw [er] at h'; exact h'
 | bad => rw [er] at h'; exact h'.elim
end
end Mi
namespace Mi
open PySem PySem.Spec PyProof.Rows L2
inductive zmo (C : Addr) (bmB : List Value) (newId : String) (h : Heap) : Prop
 | mk (tl N nm q bs hdct sn sub ab col dd k0 k1 k2 k3 k5 mN : _) (obj : h.get? C = some (excClassObj nm q C N bs tl hdct sn sub ab col dd k0 k1 k2 k3 k5 newId)) (ns : h.Ns N mN) (init : mN "__init__" = none) (tail : OwnTail h bmB tl)
noncomputable def clsD (d : Data) : Option { c : ClassData // d = .cls c } := match d with
 | .cls c => some ⟨c, rfl⟩
 | _ => none
noncomputable def excB (K : Frag) (C : Addr) (bmB : List Value) (newId : String) : Bool := (K.lookup C).any λ o => (clsD o.data).any λ c =>
 o.cls == .type "type" && c.1.mro == .ref C :: c.1.mro.tail && o.slots.toList == [o.slots.toList.getD 0 none, o.slots.toList.getD 1 none, o.slots.toList.getD 2 none, o.slots.toList.getD 3 none, some (.builtin newId), o.slots.toList.getD 5 none]
  && c.1.hasDel == false && PySem.W.tailIn K bmB c.1.mro.tail && PySem.W.nsOkIn K c.1.ns && PySem.W.nsIn K c.1.ns "__init__" == some none
theorem zmZ {K : Frag} {h : Heap} {C : Addr} {bmB : List Value} {newId : String} (X : K.In h) (q : excB K C bmB newId = true) : zmo C bmB newId h := by
 obtain ⟨⟨oc, dd, dat, ⟨sl⟩⟩, ho, q⟩ := (Option.any_eq_true _ _).mp q
 obtain ⟨⟨⟨nm, bs, mro, ns, qn, hd, sn, sub, ab, col, del⟩, e0⟩, -, q⟩ := (Option.any_eq_true _ _).mp q
 simp only [Bool.and_eq_true, beq_iff_eq] at q
 obtain ⟨⟨⟨⟨⟨⟨e1, e2⟩, e3⟩, e4⟩, e5⟩, e6⟩, e7⟩ := q
 cases e0; cases e1; cases e4
 exact ⟨mro.tail, ns, nm, qn, bs, hd, sn, sub, ab, col, dd, _, _, _, _, _, _, X _ _ (by rw [ho, e2, e3]; rfl), .of_isNs (PySem.W.isNs_of_in X e6), PySem.W.nsMap_none_of_in X e6 e7, PySem.W.tail_of_in X e5⟩
noncomputable def zg0 (x : Str) (mr : Ea) : Ex := λ ρ A => (mr ρ A).bind λ _ A1 => .exc x A1
section
variable {X : Cx} {g : Heap} {xr : XR} {e : Expr} {es : List Expr} {mr : Ea} {x : Str} {np cpos pos : Pos} {C : Addr} {B newId initId : String} {bmB : List Value} {n : Nat}
theorem zm4 {pins : List (Addr × Obj)} {σ : St} {H : Hp} {s : Shared} {h' : Heap} {ea : Addr} {vs : List Value} (xo : XeOk X g xr) (I : Inv X pins σ H s) (m : Heap.MadeExcOf s.heap h' ea (.ref C) vs) :
  Inv X pins σ H { s with heap := h' } /\ zdX H h' g ea (.ref C) := by
 have nH : ∀ b, s.heap.get? b = none -> H b = none := λ b z => by
  cases q : H b with
  | none => rfl
  | some u => obtain ⟨o, k⟩ := (I.hok b u q).obj; rw [z] at k; cases k
 have ng : ∀ b, s.heap.get? b = none -> g.get? b = none := λ b z => by
  cases q : g.get? b with
  | none => rfl
  | some o => obtain ⟨o', k⟩ := xo.th pins σ H s I b o q; rw [z] at k; cases k
 obtain ⟨t, he, ht, ht'⟩ := m.there
 refine ⟨I.call' (s' := { s with heap := h' }) (ch := []) rfl ⟨λ b o q _ _ _ => m.keeps b o q, λ b o q _ _ _ => ⟨o.slots, m.keeps b o q⟩, λ b o q z _ => z, λ b o q _ => ⟨o, m.keeps b o q⟩, λ _ _ q => q, λ _ _ _ q => q, λ b ps q => ⟨#[], by rw [Array.append_empty]; exact q⟩⟩
  (λ b u q => (I.hok b u q).stay (λ c v _ z => m.keeps c v z) (λ _ z => z) λ _ _ z => z) I.bare (λ b z => absurd z (by simp)), ?_⟩
 exact ⟨ng ea m.new, nH ea m.new, _, _, _, he, rfl, rfl, rfl, .inl rfl⟩
theorem zkV (xo : XeOk X g xr) (hc : zbW X.K x (.ref C)) (ex : excB X.K C bmB newId = true) (FB : ExcBaseFacts B newId initId bmB) (ha : SA X xr (e :: es) mr) (hl : ALen mr n) (hn : n <= sizeLine := by decide) (hg : Gl X x := by rfl) (hcalm : X.calm = true := by rfl)
  (hdb : (x == ("__debug__" : Str)) = false := by decide) (he : starEach (e :: es) X.env = (false, eval e X.env) :: starEach es X.env := by rfl) (hpl : (backTo cpos (starEach es X.env)).any (·.1) = false := by rfl) :
  SS X xr (.Raise (some (.Call (.Name x np) (e :: es) [] cpos)) none pos) (zg0 x mr) := by
 intro pins s σ H D I ⟨φ, A, ρ, S, re, h⟩
 have hm : X.mg x = some (.ref C) := PySem.W.mg_of I.mod.kin I.mod.glob hc
 obtain ⟨tl, N, nm, q, bs, hdct, sn, sub, ab, col, dd, k0, k1, k2, k3, k5, mN, hC, hN, hni, T⟩ := zmZ I.mod.kin ex
 refine wpAny_Raise_call_subT (C := C) (nm := nm) (q := q) (N := N) (bs := bs) (bm := tl) (hdct := hdct) (sn := sn) (sub := sub) (ab := ab) (col := col) (dd := dd) (k0 := k0) (k1 := k1) (k2 := k2) (k3 := k3) (k5 := k5)
  FB (mN := mN) (T.hasType FB.hasBase) (I.ok.hd hcalm) (by rw [he]; show (false || (backTo cpos (starEach es X.env)).any (·.1)) = false; rw [hpl]; rfl) hni (zd2 I hg hm ⟨rfl, ?_⟩ hdb)
 have h' := zM.mp h
 have hA := ha cpos pins s σ H (λ vs H1 => vs.length <= sizeLine /\ xr x H1) I ⟨φ, A, ρ, S, re, ?_⟩
 ·rw [he] at hA ⊢
  refine Calls.evalArgs_plain (wpAny_mono hA (λ us s2 h2 => ?_) λ _ _ y => y)
  obtain ⟨vs, H2, I2, rv, hlen, hx⟩ := h2
  refine ⟨rfl, ?_, I2.bk _ _ hC, hN.keeps I2.bk, T.keeps I2.bk, λ h3 ea m => ?_⟩
  ·rw [<- rv.length]; exact hlen
  ·obtain ⟨I3, ly⟩ := zm4 xo I2 m
   exact xo.out pins σ H2 _ ea C x I3 ly hc hx
 ·cases er : mr ρ A with
  | ok ws A1 =>
   rw [er] at h'
   intro φ1 H1 vs l1 S1 q1
   refine ⟨?_, h' φ1 H1 l1 S1⟩
   rw [<- q1.length, hl ρ A ws A1 er]
   exact hn
  | exc y A1 => rw [er] at h'; exact h'
  | bad => rw [er] at h'; exact h'
end
end Mi
namespace Mi
open PySem PySem.Spec PyProof.Rows L2
noncomputable def mJ : List Ev -> Str -> Ev
 | [], acc => λ _ A => .ok (.str acc) A
 | m :: ms, acc => λ ρ A => (m ρ A).bind λ w A1 => match w with
  | .str y => if (acc ++ y).length <= sizeLine then mJ ms (acc ++ y) ρ A1 else .bad
  | _ => .bad
section
variable {X : Cx} {xr : XR} {e v₁ v₂ : Expr} {es : List Expr} {m m₁ m₂ : Ev} {ms : List Ev} {pos : Pos}
inductive SJ (X : Cx) (xr : XR) : List Expr -> List Ev -> Prop where
 | nil : SJ X xr [] []
 | cons {e : Expr} {es : List Expr} {m : Ev} {ms : List Ev} (h : SE X xr e m) (r : SJ X xr es ms) : SJ X xr (e :: es) (m :: ms)
end
end Mi
namespace Mi
open PySem PySem.Spec PyProof.Rows L2
end Mi
namespace Mi
open PySem PySem.Spec PyProof.Rows L2
section
variable {M : Model} {A : Around} {E : Value -> Shared -> Prop} {s : Shared} {e C D : Addr} {oe : Obj} {bmB bmD : List Value} {newId newD : String} {Q : Bool -> Shared -> Prop}
noncomputable def zlU (h : Heap) (C D : Addr) : Prop := ∃ oC cd, h.get? C = some oC /\ oC.data = .cls cd /\ cd.mro.contains (.ref D) = true
theorem zjb (lc : zmo C bmB newId s.heap) (ld : zmo D bmD newD s.heap) (hbD : bmD.contains (.type "BaseException") = true) (he : s.heap.get? e = some oe) (hcls : oe.cls = .ref C) (up : zlU s.heap C D) (hq : Q true s) :
  wpAny M A (excMatches (.ref e) (.ref D)) Q E s := by
 obtain ⟨h, g, d, t, os⟩ := s
 obtain ⟨tl, N, nm, q, bs, hdct, sn, sub, ab, col, dd, k0, k1, k2, k3, k5, mN, hC, _, _, _⟩ := lc
 obtain ⟨tl2, N2, nm2, q2, bs2, hdct2, sn2, sub2, ab2, col2, dd2, l0, l1, l2, l3, l5, mN2, hD, _, _, T2⟩ := ld
 obtain ⟨oC, cd, hC', hd, hm⟩ := up
 rw [hC] at hC'
 cases hC'
 have hdd : (excClassObj nm q C N bs tl hdct sn sub ab col dd k0 k1 k2 k3 k5 newId).data = .cls cd := hd
 unfold excClassObj at hdd
 cases hdd
 have hcB : (Value.ref D :: tl2).contains (.type "BaseException") = true := by rw [List.contains_cons, T2.hasType hbD, Bool.or_true]
 have hcC : (Value.ref C :: tl).contains (.ref D) = true := hm
 have f := tc_notTuple
 unfold excMatches
 repeat (first | (with_reducible refine wpAny_loadPart_at he ?_; rw [hcls]) | with_reducible refine wpAny_loadPart_at hD ?_ | with_reducible refine wpAny_loadPart_at hC ?_ | (with_reducible refine wpAny_isSubtype_exc hD ?_; rw [hcB]) | (with_reducible refine wpAny_isSubtype_exc hC ?_; rw [hcC]) | wp_step)
 exact hq
end
end Mi
namespace Mi
open PySem PySem.Spec PyProof.Rows L2
section
variable {X : Cx} {pins : List (Addr × Obj)} {σ : St} {H0 H : Hp} {s0 s : Shared} {ea C L : Addr} {M : Model} {A : Around} {E : Value -> Shared -> Prop}
theorem landed {h' : Heap} {T : Addr} {a0 : Value} (I0 : Inv X pins σ H0 s0) (I : Inv X pins σ H s) (x : zdX H s.heap s0.heap ea (.ref C)) (nT : s0.heap.get? T = none) (hT : H T = none)
  (th : ∀ b o, s0.heap.get? b = some o -> ∃ o', s.heap.get? b = some o')
  (fl : Heap.FlyingW (PySem.W.hideAll s.heap (ea :: T :: frs X.stack)) X.stack ea (.ref C) a0 h') (us : s.heap.UpToSlots h') :
  Inv X pins σ H { s with heap := h' } /\ zdX H h' s0.heap ea (.ref C) /\ Tr h' ea /\ ∀ b o, s0.heap.get? b = some o -> ∃ o', h'.get? b = some o' := by
 obtain ⟨st, _, ff, oe, vs, T', oT, ts, he, ⟨hcls, h0⟩, hd, h1, hnT, hTe, hT', hdT, h3⟩ := fl
 have ng : s0.heap.get? ea = none := by cases x; assumption
 have nH : H ea = none := by cases x; assumption
 have kept : ∀ b o, s.heap.get? b = some o -> b ∉ frs X.stack -> b ≠ ea -> b ≠ T -> h'.get? b = some o := λ b o q n1 n2 n3 => st b o (PySem.W.hideAll_get _ q λ hm => by
  rcases List.mem_cons.mp hm with z | hm
  ·exact n2 z
  rcases List.mem_cons.mp hm with z | hm
  ·exact n3 z
  ·exact n1 hm)
 have slot : ∀ b o, s.heap.get? b = some o -> b ∈ frs X.stack -> ∃ sl, h'.get? b = some { o with slots := sl } := λ b o q hm => by
  obtain ⟨_, o', ho', hnf⟩ := I.stack.mem hm
  rw [q] at ho'; cases ho'
  exact us b o q hnf
 have off : ∀ b u, H b = some u -> b ∉ frs X.stack /\ b ≠ ea /\ b ≠ T := λ b u q => ⟨λ hm => (by rw [I.stkFree b hm] at q; cases q), λ z => (by rw [z, nH] at q; cases q), λ z => (by rw [z, hT] at q; cases q)⟩
 have ne : ∀ b o, s0.heap.get? b = some o -> b ≠ ea /\ b ≠ T := λ b o q => ⟨λ z => (by rw [z, ng] at q; cases q), λ z => (by rw [z, nT] at q; cases q)⟩
 have any : ∀ b o o', s0.heap.get? b = some o' -> s.heap.get? b = some o -> ∃ sl, h'.get? b = some { o with slots := sl } := λ b o o' q0 q => by
  by_cases hm : b ∈ frs X.stack
  ·exact slot b o q hm
  ·exact ⟨o.slots, kept b o q hm (ne b o' q0).1 (ne b o' q0).2⟩
 have cell : ∀ y c, X.env.cells.lookup y = some c -> ∀ v, s.heap.IsCell c v -> h'.IsCell c v := λ y c e v ⟨o, ho, hd⟩ => by
  obtain ⟨_, o0, ho0, _⟩ := I0.cell y c e
  obtain ⟨sl, z⟩ := any c o o0 ho0 ho
  exact ⟨_, z, hd⟩
 have inv : Inv X pins σ H { s with heap := h' } := by
  refine ⟨I.ok, I.os, I.bare, ⟨λ b o q n nf nx => ?_, λ b o q n hf nx => ?_, I.base.free, λ b o q nx => ?_, I.base.tups, I.base.frzs, I.base.tbls⟩, ?_, λ y c e => ?_, I.free, I.freeC, λ p hp => ?_, λ b u q => ?_, I.len⟩
  ·have q1 := I.base.keep b o q n nf nx
   have q0 := I0.base.keep b o q n nf nx
   refine kept b o q1 (λ hm => ?_) (ne b o q0).1 (ne b o q0).2
   rcases List.mem_cons.mp (I.stkSub b hm) with z | z
   ·exact absurd (Nat.lt_of_lt_of_le (Heap.lt_size q) I.ok.above) (by rw [z]; exact Nat.lt_irrefl _)
   ·exact nf z
  ·obtain ⟨sl, q1⟩ := I.base.slot b o q n hf nx
   obtain ⟨sl0, q0⟩ := I0.base.slot b o q n hf nx
   obtain ⟨sl', z⟩ := any b _ _ q0 q1
   exact ⟨sl', z⟩
  ·obtain ⟨o1, q1⟩ := I.base.there b o q nx
   obtain ⟨o0, q0⟩ := I0.base.there b o q nx
   obtain ⟨sl, z⟩ := any b o1 o0 q0 q1
   exact ⟨_, z⟩
  ·obtain ⟨m, ⟨o, es, ep, ho, r⟩, k⟩ := I.loc
   obtain ⟨_, ⟨o0, _, _, ho0, _⟩, _⟩ := I0.loc
   obtain ⟨sl, z⟩ := any _ o o0 ho0 ho
   refine ⟨m, ⟨_, es, ep, z, r⟩, λ i y v e1 e2 e3 => ?_⟩
   obtain ⟨u, ru, lk⟩ := k i y v e1 e2 e3
   refine ⟨u, ru, ?_⟩
   rcases lk with lk | ⟨lk, c, ec, hc⟩
   ·exact .inl lk
   ·exact .inr ⟨lk, c, ec, cell y c ec _ hc⟩
  ·obtain ⟨v, hv⟩ := I.cell y c e
   exact ⟨v, cell y c e v hv⟩
  ·obtain ⟨p1, p2, p3, p4, p5⟩ := I.pin p hp
   have p0 := (I0.pin p hp).1
   refine ⟨kept _ _ p1 (λ hm => ?_) (ne _ _ p0).1 (ne _ _ p0).2, p2, p3, p4, p5⟩
   rcases List.mem_cons.mp (I.stkSub _ hm) with z | z
   ·exact p3 z
   ·exact p4 z
  ·refine (I.hok b u q).stay (λ c v hc z => ?_) (λ _ z => z) λ _ _ z => z
   rcases hc with e | e
   ·obtain ⟨n1, n2, n3⟩ := off b u q
    rw [e] at z ⊢
    exact kept b v z n1 n2 n3
   ·obtain ⟨n1, n2, n3⟩ := off c _ e
    exact kept c v z n1 n2 n3
 have both : s0.heap.get? T' = none /\ H T' = none := by
  cases q : s.heap.get? T' with
  | some o =>
   by_cases hm : T' ∈ ea :: T :: frs X.stack
   ·rcases List.mem_cons.mp hm with z | hm
    ·exact absurd z hTe
    rcases List.mem_cons.mp hm with z | hm
    ·rw [z]; exact ⟨nT, hT⟩
    ·obtain ⟨sl, z⟩ := slot T' o q hm
     obtain ⟨_, o', ho', hnf⟩ := I.stack.mem hm
     rw [q] at ho'; cases ho'
     rw [hT'] at z; cases z
     exact absurd hdT (hnf ts)
   ·rw [PySem.W.hideAll_get _ q hm] at hnT; cases hnT
  | none =>
   constructor
   ·cases z : s0.heap.get? T' with
    | none => rfl
    | some o => obtain ⟨o', k⟩ := th T' o z; rw [q] at k; cases k
   ·cases z : H T' with
    | none => rfl
    | some u => obtain ⟨o', k⟩ := (I.hok T' u z).obj; rw [q] at k; cases k
 exact ⟨inv, ⟨ng, nH, oe, vs, a0, he, hcls, hd, h0, .inr ⟨T', oT, ts, h1, hTe, both.1, both.2, hT', hdT, h3⟩⟩, ⟨oe, vs, T', he, hd, h1⟩, λ b o q => by
  obtain ⟨o1, q1⟩ := th b o q
  obtain ⟨sl, z⟩ := any b o1 o q q1
  exact ⟨_, z⟩⟩
theorem flying (I : Inv X pins σ H s) (x : zdX H s.heap s0.heap ea (.ref C)) (tr : Tr s.heap ea) :
  ∃ T a0, s0.heap.get? T = none /\ H T = none /\ Heap.FlyingW (PySem.W.hideAll s.heap (ea :: T :: frs X.stack)) X.stack ea (.ref C) a0 s.heap := by
 obtain ⟨hg, hH, oe, vs, a0, he, hc, hd, h0, h1⟩ := x
 obtain ⟨oe', vs', T', he', hd', h1'⟩ := tr
 rw [he] at he'; cases he'
 rw [hd] at hd'; cases hd'
 rcases h1 with h1 | ⟨T, oT, ts, h1, hTe, hgT, hHT, hT, hdT, h3⟩
 ·rw [h1] at h1'; cases h1'
 ·have hn : ∀ b ∈ ea :: T :: frs X.stack, (PySem.W.hideAll s.heap (ea :: T :: frs X.stack)).get? b = none := λ b hb => PySem.W.hideAll_none _ hb
  exact ⟨T, a0, hgT, hHT, λ b o q => PySem.W.of_hideAll _ q, hn ea (List.mem_cons_self ..), frames_at I.stack λ b hb => hn b (List.mem_cons_of_mem _ (List.mem_cons_of_mem _ hb)),
   oe, vs, T, oT, ts, he, ⟨hc, h0⟩, hd, h1, hn T (List.mem_cons_of_mem _ (List.mem_cons_self ..)), hTe, hT, hdT, h3⟩
end
end Mi
namespace Mi
open PySem PySem.Spec PyProof.Rows L2
noncomputable def excO (oe : Obj) : HO := .frz oe (.own 0)
noncomputable def upIn (K : Frag) (C D : Addr) : Bool := match K.lookup C with
 | some ⟨_, _, .cls cd, _⟩ => cd.mro.contains (.ref D)
 | _ => false
theorem zpO {K : Frag} {h : Heap} {C D : Addr} (X : K.In h) (e : upIn K C D = true) : zlU h C D := by
 unfold upIn at e
 split at e
 ·rename_i ho
  exact ⟨_, _, X _ _ ho, rfl, e⟩
 ·cases e
section
variable {X : Cx} {pins : List (Addr × Obj)} {σ : St} {H0 H : Hp} {s0 s : Shared} {ea C L : Addr}
theorem zi0 (I0 : Inv X pins σ H0 s0) (I : Inv X pins σ H s) (x : zdX H s.heap s0.heap ea (.ref C)) : ∃ oe, oe.cls = .ref C /\ H ea = none /\ Inv X pins σ (upd H ea (excO oe)) s := by
 obtain ⟨ng, nH, oe, vs, a0, he, hc, _⟩ := x
 refine ⟨oe, hc, nH, ?_⟩
 have ne : ∀ b o, s0.heap.get? b = some o -> b ≠ ea := λ b o q z => by rw [z, ng] at q; cases q
 have at_ : ∀ b, b ≠ ea -> upd H ea (excO oe) b = H b := λ b n => by unfold upd; exact if_neg n
 have nt : ∀ b u, H b = some u -> upd H ea (excO oe) b = some u := λ b u q => by
  rw [at_ b λ z => by rw [z, nH] at q; cases q]; exact q
 refine ⟨I.ok, I.os, I.bare, ⟨I.base.keep, I.base.slot, λ b o q n nx => ?_, I.base.there, λ b xs q => nt _ _ (I.base.tups b xs q), λ b o u q => nt _ _ (I.base.frzs b o u q), λ b ps q => ?_⟩, I.loc, I.cell, ?_, λ y c e => ?_, λ p hp => ?_, λ b u q => ?_, I.len⟩
 ·obtain ⟨o0, q0⟩ := I0.base.there b o q nx
  rw [at_ b (ne b o0 q0)]
  exact I.base.free b o q n nx
 ·obtain ⟨more, z⟩ := I.base.tbls b ps q
  exact ⟨more, nt _ _ z⟩
 ·obtain ⟨m, ⟨o0, _, _, ho0, _⟩, _⟩ := I0.loc
  rw [at_ _ (ne _ o0 ho0)]
  exact I.free
 ·obtain ⟨v, o0, ho0, _⟩ := I0.cell y c e
  rw [at_ _ (ne _ o0 ho0)]
  exact I.freeC y c e
 ·obtain ⟨p1, p2, p3⟩ := I.pin p hp
  refine ⟨p1, ?_, p3⟩
  rw [at_ _ (ne _ _ (I0.pin p hp).1)]
  exact p2
 ·by_cases z : b = ea
  ·subst z
   have : u = excO oe := by
    unfold upd at q
    rw [if_pos rfl] at q
    exact (Option.some.inj q).symm
   subst this
   exact ⟨he, ⟨oe, he⟩⟩
  ·rw [at_ b z] at q
   exact (I.hok b u q).stay (λ _ _ _ z => z) (λ c z => nt c _ z) λ c xs z => nt c _ z
noncomputable def znC (X : Cx) (pins : List (Addr × Obj)) (σ : St) (s0 : Shared) (D : Addr) (k : Addr -> Addr -> Hp -> Prop) (e : Value) (s : Shared) : Prop :=
 ∃ ea C H bmC newC, e = .ref ea /\ Inv X pins σ H s /\ zdX H s.heap s0.heap ea (.ref C) /\ Tr s.heap ea /\ (∀ b o, s0.heap.get? b = some o -> ∃ o', s.heap.get? b = some o') /\ Mi.excB X.K C bmC newC = true /\ upIn X.K C D = true /\ ∀ oe, oe.cls = .ref C -> H ea = none -> k ea C (upd H ea (excO oe))
theorem zof {i : Nat} {xD n : Str} {D : Addr} {bmD : List Value} {newD : String} {body suite : List Stmt} {b₀ : Stmt} {np hp pos : Pos} {Q : Flow -> Shared -> Prop} {k : Addr -> Addr -> Hp -> Prop}
  (I0 : Inv X pins σ H0 s0) (hst : X.stack = X.env :: X.outer) (hL : X.env.frame = some L) (hD : zbW X.K xD (.ref D)) (exD : Mi.excB X.K D bmD newD = true) (hbD : bmD.contains (.type "BaseException") = true)
  (hN : X.N.Nodup) (hi : X.N[i]? = some n) (hx : Loc X.env.scope n)
  (hbody : wpAny (model X.prog X.w) X.A (execs body X.env) (λ f s1 => f = .next /\ Q .next s1) (znC X pins σ s0 D k) s0)
  (hsuite : ∀ ea C H s2, Inv X pins (σ.set i (some (.ref ea))) H s2 -> k ea C H -> ∀ E', wpAny (model X.prog X.w) (X.A.mark (some (.ref ea))) (execs (b₀ :: suite) X.env)
   (λ f s4 => wpAny (model X.prog X.w) X.A (do bindName X.env n .none; unbindBehindTheSuite X.env n hp) (λ _ s5 => Q f s5) X.xe s4) E' s2)
  (hg : Gl X xD) (hdb : (xD == ("__debug__" : Str)) = false := by decide) (hf : X.fn n = true ∨ X.env.scope.names.lookup n = some .local := by first | exact .inl rfl | exact .inr rfl | assumption) :
  wpAny (model X.prog X.w) X.A (exec (.Try body [.ExceptHandler (some (.Name xD np)) (some n) (b₀ :: suite) hp] [] [] pos) X.env) Q X.xe s0 := by
 refine wpAny_Try_except (wpAny_mono hbody (λ f s1 ⟨ef, q⟩ => ?_) λ e s1 h => ?_)
 ·subst ef
  exact wpAny_execs_nil q
 obtain ⟨ea, C, H, bmC, newC, rfl, I, x, tr, th, exC, up, hk⟩ := h
 have hm : X.mg xD = some (.ref D) := PySem.W.mg_of I.mod.kin I.mod.glob hD
 obtain ⟨T, a0, nT, hT, fl⟩ := flying I x tr
 have hfr : X.A.frames = some (X.env :: X.outer) := by rw [<- hst]; exact I.ok.frames
 refine wpAny_looks_onW hfr hL (by rw [<- hst]; exact fl) λ h₄ hh₄ us₄ => ?_
 refine wpAny_landsW hh₄ λ h₅ fl₅ us₅ => ?_
 obtain ⟨I5, x5, tr5, th5⟩ := landed I0 I x nT hT th (by rw [<- hst] at fl₅; exact fl₅) (us₄.trans us₅)
 obtain ⟨_, _, oe, _, _, he, hc, _⟩ := id x5
 refine wpAny_handleBy_cons (codeAny_handlers_test (Calls.Name_function_global I5.ok.kind hg (Calls.loadGlobal_global (by rw [I5.ok.glob]; exact I5.mod.glob.keeps I5.bk) hm ?_) hdb)) (by intro q; cases q)
 refine zjb (s := { s1 with heap := h₅ }) (zmZ I5.kIn exC) (zmZ I5.kIn exD) hbD he hc (zpO I5.kIn up) ?_
 refine codeAny_handlers_suite_as ?_
 obtain ⟨T', a0', nT', hT', fl'⟩ := flying I5 x5 tr5
 refine lands_againW fl' λ h₆ fl₆ us₆ => ?_
 obtain ⟨I6, x6, _, _⟩ := landed I0 I5 x5 nT' hT' th5 fl₆ us₆
 obtain ⟨of, hof, nea, I7⟩ := zi0 I0 I6 x6
 exact zda (v := .ref ea) I7 hN hi hx rfl (λ s7 I7 => hsuite ea C _ s7 I7 (hk of hof nea) _) hf
end
end Mi
namespace Mi
open PySem PySem.Spec PyProof.Rows L2
section
variable {X : Cx} {pins : List (Addr × Obj)} {σ : St} {H : Hp} {s : Shared} {M : Model} {A : Around} {E : Value -> Shared -> Prop}
theorem name_goes {i : Nat} {n : Str} {pos : Pos} {Q : Unit -> Shared -> Prop} (I : Inv X pins σ H s) (hN : X.N.Nodup) (hi : X.N[i]? = some n) (hk : X.env.scope.names.lookup n = some .local)
  (h : ∀ s', Inv X pins (σ.set i none) H s' -> Q () s') : wpAny M A (do bindName X.env n .none; unbindBehindTheSuite X.env n pos) Q E s := by
 obtain ⟨m, hn, hl⟩ := id I.loc
 have hiσ : i < σ.length := by rw [I.len]; exact (List.getElem?_eq_some_iff.mp hi).1
 refine wpAny_nameGoes_keeps hk hn (by rw [I.ok.kind]; rfl) λ h' v hn' hs => h _ ?_
 have old : ∀ b o, b ≠ X.env.locals -> s.heap.get? b = some o -> h'.get? b = some o := λ b o n q => (hs.2 b n).trans q
 have nl : ∀ {b : Addr} {u : HO}, H b = some u -> b ≠ X.env.locals := λ q z => by rw [z, I.free] at q; cases q
 have ab : ∀ {b : Addr} {k : Nat}, b < k -> k <= X.env.locals -> b ≠ X.env.locals := λ l g => Nat.ne_of_lt (Nat.lt_of_lt_of_le l g)
 refine ⟨I.ok, I.os, I.bare, ⟨λ b o e z hb hx => ?_, λ b o e z hb hx => ?_, I.base.free, λ b o e hx => ?_, I.base.tups, I.base.frzs, I.base.tbls⟩, ⟨_, hn', λ j y v' e1 e2 e3 => ?_⟩, λ y c e => ?_, I.free, I.freeC, λ p hp => ?_, λ b u q => ?_, by simpa using I.len⟩
 ·exact old b o (ab (Heap.lt_size e) I.ok.above) (I.base.keep b o e z hb hx)
 ·obtain ⟨sl, e1⟩ := I.base.slot b o e z hb hx
  exact ⟨sl, old b _ (ab (Heap.lt_size e) I.ok.above) e1⟩
 ·obtain ⟨o', e1⟩ := I.base.there b o e hx
  exact ⟨o', old b _ (ab (Heap.lt_size e) I.ok.above) e1⟩
 ·by_cases hj : j = i
  ·subst hj
   rw [List.getElem?_set_self hiσ] at e2
   cases e2
  ·rw [List.getElem?_set_ne (Ne.symm hj)] at e2
   obtain ⟨u', r', q⟩ := hl j y v' e1 e2 e3
   refine ⟨u', r', ?_⟩
   rcases q with ⟨k, e⟩ | ⟨k, c, e, z⟩
   ·have : y ≠ n := λ e => hj (zgd hN e1 (e ▸ hi))
    exact .inl ⟨k, by simp [this, e]⟩
   ·exact .inr ⟨k, c, e, z.sameBut hs (I.cne y c e)⟩
 ·obtain ⟨w', z⟩ := I.cell y c e
  exact ⟨w', z.sameBut hs (I.cne y c e)⟩
 ·obtain ⟨e, z, ne, nf, d⟩ := I.pin p hp
  exact ⟨old _ _ ne e, z, ne, nf, d⟩
 ·refine (I.hok b u q).stay (λ c v hc z => old c v ?_ z) (λ _ z => z) λ _ _ z => z
  rcases hc with e | e
  ·rw [e]; exact nl q
  ·exact nl e
theorem ziP {i j : Nat} {n y : Str} {ea : Addr} {np yp ap hp : Pos} {Q : Flow -> Shared -> Prop} {E' : Value -> Shared -> Prop} (I : Inv X pins (σ.set i (some (.ref ea))) H s) (hN : X.N.Nodup) (hi : X.N[i]? = some n) (hj : X.N[j]? = some y)
  (hk : X.env.scope.names.lookup n = some .local) (hy : Loc X.env.scope y) (hq : ∀ s', Inv X pins (((σ.set i (some (.ref ea))).set j (some (.ref ea))).set i none) H s' -> Q .next s')
  (hs : swapsWith (.Name n np) (some (.Name y yp)) ap.line X.env = pure false) (hf : X.fn y = true ∨ X.env.scope.names.lookup y = some .local)
  (hdb : (n == ("__debug__" : Str)) = false := by decide) :
  wpAny (model X.prog X.w) A (execs [.Assign [.Name y yp] (.Name n np) ap] X.env) (λ f s4 => wpAny (model X.prog X.w) X.A (do bindName X.env n .none; unbindBehindTheSuite X.env n hp) (λ _ s5 => Q f s5) X.xe s4) E' s := by
 obtain ⟨m, hn, hl⟩ := I.loc
 have hiσ : i < σ.length := by have := I.len; rw [List.length_set] at this; rw [this]; exact (List.getElem?_eq_some_iff.mp hi).1
 obtain ⟨u, r, l⟩ := hl i n (.ref ea) hi (List.getElem?_set_self hiσ) (.inl hk)
 obtain rfl : u = Value.ref ea := r
 have hm : m n = some (.ref ea) := by
  rcases l with ⟨_, e⟩ | ⟨k | k, _⟩
  ·exact e
  ·rw [show X.env.kindOf n = some .local from hk] at k; cases k
  ·rw [show X.env.kindOf n = some .local from hk] at k; cases k
 refine wpAny_execs_cons (wpAny_Assign_Name (wpAny_Name (wpAny_loadName_local I.ok.kind hk hn hm ?_) hdb) hs)
 exact zda (v := .ref ea) I hN hj hy rfl (λ s5 I5 => wpAny_execs_nil (name_goes I5 hN hi hk hq)) hf
end
end Mi
namespace Mi
open PySem PySem.W PySem.Spec PySem.Calls PyProof.Rows Builtin Builtin.ObjectAttr Builtin.Getset_descriptor
section
variable {prog : Program} {w : World} {A : Around} {E : Value -> Shared -> Prop} {s : Shared} {K : Frag} {x D : Addr} {name : Str}
theorem zoC {M : Model} {h : Heap} {a g : Value} (X : K.In h) (ha : findIn K (.ref D) name = some (some a)) (hn : specialIn K a "__get__" = some (some g)) (htk : takesIn K a = some true) : Looks M h (find (.ref x) (.ref D) name) (.bind g a) :=
 (looks_findIn (M := M) X ha).andThen ((show Looks M h (getOf (some a)) (some g) from looks_specialIn X hn).andThen
  ((show Looks M h (dataDescriptor? (some a) (some g)) (some (g, a)) from (looks_takesIn (M := M) X htk).andThen .now).andThen (Looks.tag .now)))
theorem zm7 {tp : Value} {R : Result -> Shared -> Prop} (X : K.In s.heap) (L0 : Looks (model prog w) s.heap (typeOf (.ref x)) (.ref D)) (hm : mroIn K D (.type "object") = some true) (h : R (.ok (.ret (.ref D))) s) :
  codeAny (model prog w) A (.call (.builtin "getset_descriptor.__get__") ⟨[.builtin "object.__class__", .ref x, tp], []⟩) R s := by
 obtain ⟨h0, g0, d0, t0, o0⟩ := s
 have Ls := looks_mroIn (M := model prog w) X hm
 have sl := KF.slot_gs
 refine codeAny_call_builtin sl.plain KF.entry_gs (sl.check _ _ _ _ _ _ _ _ KF.type_class (KF.args_gs _ _ _) ?_)
 unfold «getset_descriptor.__get__» descrGet
 rw [dga_obj]
 refine wpAny_bind (wpAny_pure ?_)
 unfold descrGetter descrCheckInstance isInstance descrNameAndClass
 simp only [KF.owner_class]
 repeat lk
 refine And.intro (Code.quiet_builtin _ (by decide +kernel)) (codeAny_builtin KF.entry_class ?_)
 unfold «object.__class__» shownTypeOf
 repeat lk
 exact h
theorem ziR {M : Model} {rest : List Value} {kw : List (Str × Value)} {Q : Unit -> Shared -> Prop} (X : K.In s.heap) (L0 : Looks M s.heap (typeOf (.ref x)) (.ref D)) (hm : mroIn K D (.type "BaseException") = some true)
  (ok : argsOk "BaseException.__getattribute__" ⟨.ref x :: rest, kw⟩) (hQ : Q () s) : wpAny M A (checkBuiltinCall "BaseException.__getattribute__" ⟨.ref x :: rest, kw⟩) Q E s := by
 have cut : splitId "BaseException.__getattribute__" = some ("BaseException", "__getattribute__") := by first | rfl | decide +kernel
 have kinds : builtinKind "BaseException.__getattribute__" = some .slot ∨ builtinKind "BaseException.__getattribute__" = some .method := by
  simp only [builtinKind, cut]
  first | exact .inl (by decide +kernel) | exact .inr (by decide +kernel)
 have Ls := looks_mroIn (M := M) X hm
 have rest' : wpAny M A (match Manifest.signature? "BaseException.__getattribute__" with | some sig => Bind.checkArgs "BaseException.__getattribute__" sig ⟨.ref x :: rest, kw⟩ | none => pure ()) Q E s := wpAny_of_eq ok hQ
 rcases kinds with kd | kd
 all_goals
  unfold checkBuiltinCall
  rw [kd, cut]
  dsimp only
  unfold isInstance
  refine wpAny_bind (wpAny_bind (L0.at (Ls.at ?_)))
  exact rest'
theorem zhe {Q : Option Value -> Shared -> Prop} (hga : findIn K (.ref D) "__getattribute__" = some (some (.builtin "BaseException.__getattribute__"))) (hgn : findIn K (.ref D) "__getattr__" = some none)
  (ha : findIn K (.ref D) "__class__" = some (some (.builtin "object.__class__")))
  (hn : specialIn K (.builtin "object.__class__") "__get__" = some (some (.builtin "getset_descriptor.__get__"))) (htk : takesIn K (.builtin "object.__class__") = some true) (hm : mroIn K D (.type "object") = some true) (hm2 : mroIn K D (.type "BaseException") = some true)
  (X : K.In s.heap) (L0 : Looks (model prog w) s.heap (typeOf (.ref x)) (.ref D)) (h : Q (some (.ref D)) { s with toks := s.toks + 1 }) : wpAny (model prog w) A (getAttr? (.ref x) "__class__") Q E s := by
 obtain ⟨hh, g, d, t, os⟩ := s
 have Lg := looks_findIn (M := model prog w) X hga
 have L2 := zoC (M := model prog w) (x := x) X ha hn htk
 have L3 := looks_findIn (M := model prog w) X hgn
 unfold getAttr?; unfold getAttrBy?; unfold getAttrBy
 refine wpAny_bind (wpAny_mkText (wpAny_bind (wpAny_attempt (wpAny_holding (wpAny_bind (L0.at (wpAny_bind (Lg.at ?_))))))))
 show wpAny _ _ (getAttrByItsOwn (.ref x) (.str "__class__" t) (.ref D) (.builtin "BaseException.__getattribute__") false false) _ _ _
 unfold getAttrByItsOwn
 refine wpAny_bind ?_
 show wpAny _ _ (typeLookup (.ref D) "__getattr__") _ _ _
 refine L3.at (wpAny_bind (wpAny_attempt (wpAny_holding ?_)))
 show wpAny _ _ (bindSpecial (.builtin "BaseException.__getattribute__") (.ref x) >>= _) _ _ _
 refine wpAny_bind (wpAny_of_eq (F.excAttr_ValueError.ga.bind _) ?_)
 refine wpAny_call (codeAny_call_builtin F.excAttr_ValueError.ga.plain F.entry_bexc_ga (ziR X L0 hm2 (F.args_bexc_ga _ _) ?_))
 unfold «object.__getattribute__»
 refine wpAny_bind (wpAny_of_eq (show slotArgs "__getattribute__" 1 ⟨[.ref x] ++ [.str "__class__" t], []⟩ = pure (.ref x, [.str "__class__" t]) from rfl) ?_)
 refine wpAny_bind (wpAny_of_eq (show attrName (.str "__class__" t) = pure ("__class__" : Str) from rfl) (wpAny_bind (L0.at (wpAny_bind (L2.at ?_)))))
 show wpAny _ _ (holding [Value.builtin "object.__class__"] (call (.builtin "getset_descriptor.__get__") [.builtin "object.__class__", .ref x, .ref D]) >>= ret) _ _ _
 refine wpAny_bind (wpAny_holding (wpAny_call (zm7 (s := ⟨hh, g, d, t + 1, os⟩) X L0 hm ?_)))
 refine wpAny_pure ?_
 exact handed_on rfl (wpAny_pure h)
end
noncomputable def ziG (x D : Addr) (h : Heap) : Prop := ∃ o, h.get? x = some o /\ o.cls = .ref D
theorem ziG.ty {x D : Addr} {M : Model} {h : Heap} (p : ziG x D h) : Looks M h (typeOf (.ref x)) (.ref D) := by
 obtain ⟨o, ho, hc⟩ := p
 rw [<- hc]
 exact (Looks.ld ho).andThen .now
theorem zk4 {K : Frag} {x D : Addr} (hc : (clsIn K D).isSome = true) (hga : findIn K (.ref D) "__getattribute__" = some (some (.builtin "BaseException.__getattribute__"))) (hgn : findIn K (.ref D) "__getattr__" = some none) (ha : findIn K (.ref D) "__class__" = some (some (.builtin "object.__class__")))
  (hn : specialIn K (.builtin "object.__class__") "__get__" = some (some (.builtin "getset_descriptor.__get__"))) (htk : takesIn K (.builtin "object.__class__") = some true) (hm : mroIn K D (.type "object") = some true) (hm2 : mroIn K D (.type "BaseException") = some true) :
  KitX K (.ref x) (.ref D) (ziG x D) where
 ty := λ _ _ _ p => p.ty
 it := λ _ _ X _ => by
  obtain ⟨cdD, hcD⟩ := Option.isSome_iff_exists.mp hc
  unfold clsIn at hcD
  split at hcD
  ·rename_i c' d' cd' sl' ho
   intro A' Q' E' s' k q
   unfold isType loadHead
   exact wpAny_bind (wpAny_loadPart (k _ _ (X D _ ho)) (wpAny_pure q))
  ·cases hcD
 ne := λ _ tp dd its n sl X ht => by
  obtain ⟨cdD, hcD⟩ := Option.isSome_iff_exists.mp hc
  rw [Bool.eq_false_iff]
  intro q
  cases Value.ref.inj (beq_iff_eq.mp q)
  unfold clsIn at hcD
  split at hcD
  ·rename_i ho
   cases (X _ _ ho).symm.trans ht
  ·cases hcD
 ca := λ X p k => zhe hga hgn ha hn htk hm hm2 X p.ty k
end Mi
namespace Mi
open PySem PySem.Spec PyProof.Rows L2
noncomputable def zgF (K : Frag) (C : Addr) : Bool := (PySem.W.clsIn K C).isSome && (PySem.W.findIn K (.ref C) "__getattribute__" == some (some (.builtin "BaseException.__getattribute__"))) && (PySem.W.findIn K (.ref C) "__getattr__" == some none) && (PySem.W.findIn K (.ref C) "__class__" == some (some (.builtin "object.__class__"))) &&
 (PySem.W.specialIn K (.builtin "object.__class__") "__get__" == some (some (.builtin "getset_descriptor.__get__"))) && (PySem.W.takesIn K (.builtin "object.__class__") == some true) && (PySem.W.mroIn K C (.type "object") == some true) && (PySem.W.mroIn K C (.type "BaseException") == some true)
section
variable {X : Cx} {pins : List (Addr × Obj)} {σ : St} {H : Hp} {s : Shared} {A : Around} {E : Value -> Shared -> Prop} {Q : Value -> Shared -> Prop} {c : Value} {b : Bool} {ea C : Addr}
theorem zon {oe : Obj} {uo : HO} (I : Inv X pins σ H s) (e : H ea = some (.frz oe uo)) (hoe : oe.cls = .ref C) (k : zgF X.K C = true) (q : PySem.W.kitOne X.K (.ref C) c = some b) (h : ∀ tk, Q (.bool b) { s with toks := tk }) :
  wpAny (model X.prog X.w) A (call (.builtin "isinstance") [.ref ea, c]) Q E s := by
 have p : ziG ea C s.heap := ⟨oe, (show zZ X.prog X.w H s.heap ea (.frz oe uo) from I.hok ea _ e).1, hoe⟩
 unfold zgF at k
 simp only [Bool.and_eq_true, beq_iff_eq] at k
 obtain ⟨⟨⟨⟨⟨⟨⟨k1, k2⟩, k22⟩, k3⟩, k4⟩, k5⟩, k6⟩, k7⟩ := k
 exact PySem.W.kia_one (zk4 k1 k2 k22 k3 k4 k5 k6 k7) I.kIn p q (λ z => nomatch z) h
theorem zoP (I : Inv X pins σ H s) (q : PySem.W.kitOne X.K (.type "NoneType") c = some b) (h : ∀ tk, Q (.bool b) { s with toks := tk }) : wpAny (model X.prog X.w) A (call (.builtin "isinstance") [.none, c]) Q E s :=
 zho I (x := .non) rfl .non q h
end
end Mi
namespace Mi
open PySem PySem.Spec PyProof.Rows L2
noncomputable def cxL (P : Program) (w : World) (K : Frag) (mg : Str -> Option Value) (base : Heap) (N : List Str) (qual : Str) (scope : Scope) (f : Addr) (cd : Value) (cl : List (Str × Addr)) (A : Around) (outer : List Env) (s : Shared) (H : Hp) (E : XK) : Cx where
 prog := P
 w := w
 K := K
 mg := mg
 base := base
 A := A.deeper (PySem.W.envX qual scope s.heap.objs.size f cd cl)
 N := N
 s0 := s
 H0 := H
 env := PySem.W.envX qual scope s.heap.objs.size f cd cl
 outer := outer
 stack := PySem.W.envX qual scope s.heap.objs.size f cd cl :: outer
 ex := []
 calm := true
 fn := λ _ => false
 pn := []
 xe := λ e s' => wpAny (model P w) (A.deeper (PySem.W.envX qual scope s.heap.objs.size f cd cl)) (leaving (PySem.W.envX qual scope s.heap.objs.size f cd cl) e) (λ _ s'' => CXe P w outer H s E e s'') (λ e' s'' => CXe P w outer H s E e' s'') s'
section
variable {P : Program} {w : World} {K : Frag} {mg : Str -> Option Value} {base : Heap} {N : List Str} {qual : Str} {scope : Scope} {f : Addr} {cd : Value} {cl : List (Str × Addr)} {A : Around} {outer : List Env} {s : Shared} {H : Hp} {E : XK}
theorem zjn {pins : List (Addr × Obj)} {σ : St} {H' : Hp} {s' : Shared} {ea C : Addr} (I : Inv (cxL P w K mg base N qual scope f cd cl A outer s H E) pins σ H' s') (x : zdX H' s'.heap s.heap ea (.ref C)) (hE : E (.ref C) none H') :
  (cxL P w K mg base N qual scope f cd cl A outer s H E).xe (.ref ea) s' := by
 have bs : Un (frs outer) [] H H' s.heap s'.heap := I.base
 have stk : ∀ b ∈ frs (PySem.W.envX qual scope s.heap.objs.size f cd cl :: outer), H' b = none := I.stkFree
 have hL : s.heap.get? s.heap.objs.size = none := Heap.get?_none_of_le (Nat.le_refl _)
 have hfe : (PySem.W.envX qual scope s.heap.objs.size f cd cl).frame = some s.heap.objs.size := rfl
 have mem : ∀ b, b ∈ frs (PySem.W.envX qual scope s.heap.objs.size f cd cl :: outer) ↔ b = s.heap.objs.size ∨ b ∈ frs outer := λ b => by
  unfold frs
  rw [List.filterMap_cons, hfe]
  exact List.mem_cons
 show wpAny (model P w) (A.deeper (PySem.W.envX qual scope s.heap.objs.size f cd cl)) (leaving (PySem.W.envX qual scope s.heap.objs.size f cd cl) (.ref ea)) _ _ s'
 refine zlB (base := base) (L := s.heap.objs.size) I.ok.frames rfl I.stack x (λ b u e => (I.hok b u e).obj) (λ b o e => bs.there b o e (by simp)) λ h' k1 k2 x' tr' => ?_
 have nfr : ∀ b u, H' b = some u -> b ∉ frs (PySem.W.envX qual scope s.heap.objs.size f cd cl :: outer) := λ b u e hm => by rw [stk b hm] at e; cases e
 refine ⟨ea, C, H', rfl, I.os, I.bare, ⟨λ b o e n nb _ => ?_, λ b o e n mb _ => ?_, λ b o e n hx => bs.free b o e n hx, λ b o e hx => ?_, bs.tups, bs.frzs, bs.tbls⟩, λ b u e => ?_, x', tr', hE⟩
 ·have nL : b ≠ s.heap.objs.size := λ z => by rw [z, hL] at e; cases e
  exact k1 b o (bs.keep b o e n nb (by simp)) (λ hm => (mem b).mp hm |>.elim nL nb) (.inl ⟨o, e⟩)
 ·obtain ⟨sl, q⟩ := bs.slot b o e n mb (by simp)
  obtain ⟨sl', q'⟩ := k2 b _ q ((mem b).mpr (.inr mb))
  exact ⟨sl', q'⟩
 ·obtain ⟨o', q⟩ := bs.there b o e hx
  by_cases hm : b ∈ frs (PySem.W.envX qual scope s.heap.objs.size f cd cl :: outer)
  ·obtain ⟨sl, z⟩ := k2 b o' q hm; exact ⟨_, z⟩
  ·exact ⟨o', k1 b o' q hm (.inl ⟨o, e⟩)⟩
 ·refine (I.hok b u e).stay (λ c v hc q => ?_) (λ _ q => q) λ _ _ q => q
  rcases hc with z | z
  ·rw [z] at q ⊢; exact k1 b v q (nfr b u e) (.inr ⟨u, e⟩)
  ·exact k1 c v q (nfr c _ z) (.inr ⟨_, z⟩)
theorem zpd : XeOk (cxL P w K mg base N qual scope f cd cl A outer s H E) s.heap (XE1 K E) where
 th := λ pins σ H' s' I b o e => (show Un (frs outer) [] H H' s.heap s'.heap from I.base).there b o e (by simp)
 out := λ pins σ H' s' ea C x I ly c hx => zjn I ly (hx C c)
structure zfX (N : List Str) (sc : Scope) : Prop where
 kind : sc.kind = .function
 co : sc.isCoroutine = false
 gen : sc.isGenerator = false
 nocell : ∀ y ∈ sc.names, y.2 ≠ .cell
structure zeG (base : Heap) (N : List Str) (scope : Scope) (cl : List (Str × Addr)) (vs : List V) : Prop where
 len : vs.length = N.length
 inj : ∀ x y c, cl.lookup x = some c -> cl.lookup y = some c -> x = y
 has : ∀ x, scope.names.lookup x = some .free -> ∃ c, cl.lookup x = some c
 cell : ∀ x c, cl.lookup x = some c -> ∃ v, base.IsCell c v
 val : ∀ (i : Nat) (x : Str) (v : V), N[i]? = some x -> vs[i]? = some v -> ∃ c u, scope.names.lookup x = some .free /\ cl.lookup x = some c /\ base.IsCell c (some u) /\ RelV v u
theorem zmC {vs : List V} {h1 : Heap} {tk : Tok} (S : zfX N scope) (hd : A.handled = none) (e0 : Env0 P w K mg base A outer s H) (C : zeG base N scope cl vs) (hns : ∃ m, h1.Ns s.heap.objs.size m) (hk : ∀ b o, s.heap.get? b = some o -> h1.get? b = some o) :
  Inv (cxL P w K mg base N qual scope f cd cl A outer s H E) [] (L2.start N vs) H { s with heap := h1, toks := tk } := by
 have noA : ∀ b : Addr, b ∉ (cxL P w K mg base N qual scope f cd cl A outer s H E).ex := λ b z => absurd (show b ∈ ([] : List Addr) from z) (by simp)
 have bk : ∀ c v, base.IsCell c v -> h1.IsCell c v /\ H c = none := λ c v ⟨o, ho, hd⟩ => ⟨⟨o, hk _ _ (e0.bs _ _ ho).1, hd⟩, (e0.bs _ _ ho).2⟩
 obtain ⟨m, hm⟩ := hns
 refine ⟨⟨e0.mod, S.kind, rfl, rfl, Nat.le_refl _, C.inj, λ y hy => ?_, λ y c z _ => (nomatch z), λ _ => hd, Around.frames_deeper e0.frames, .inr ⟨rfl, rfl⟩, λ b z => absurd z (noA b), e0.bs, e0.bsz, λ b _ _ => noA b, λ b z => absurd z (noA b), e0.funs, e0.frf⟩,
  rfl, e0.bare, Un.kept hk, ⟨m, hm, λ i y v h1 h2 h3 => ?_⟩, λ y c h => ?_, e0.hok.fresh (Nat.le_refl _), λ y c h => ?_, λ p hp => absurd (show p ∈ ([] : List (Addr × Obj)) from hp) (by simp), e0.hok.kept hk, ?_⟩
 ·have hy : scope.names.lookup y = some .cell ∨ scope.names.lookup y = some .free := hy
  rcases hy with hy | hy
  ·exact absurd rfl (S.nocell _ (PySem.mem_of_lookup hy))
  ·exact C.has y hy
 ·have hi : i < vs.length := by
   unfold L2.start at h2
   by_cases hi : i < vs.length
   ·exact hi
   ·rw [List.getElem?_append_right (by simpa using hi)] at h2
    rw [List.getElem?_replicate] at h2
    split at h2 <;> cases h2
  have ha : vs[i]? = some v := by
   unfold L2.start at h2
   rw [List.getElem?_append_left (by simpa using hi), List.getElem?_map] at h2
   cases e : vs[i]? with
   | none => rw [e] at h2; cases h2
   | some a => rw [e] at h2; cases h2; rfl
  obtain ⟨c, u, k, e, z, r⟩ := C.val i y v h1 ha
  exact ⟨u, r, .inr ⟨.inr k, c, e, (bk _ _ z).1⟩⟩
 ·obtain ⟨v, z⟩ := C.cell y c h
  exact ⟨v, (bk _ _ z).1⟩
 ·obtain ⟨v, z⟩ := C.cell y c h
  exact (bk _ _ z).2
 ·unfold L2.start
  show _ = N.length
  rw [List.length_append, List.length_map, List.length_replicate, C.len]
  omega
noncomputable def zl1 (oc : Obj) (q : Str) : Prop := ∃ vs t, oc.data = .fields vs /\ vs[1]? = some (.str q t)
theorem zoo {k : Nat} {name : Str} {params : Arguments} {body : Expr} {pm ctv : Value} {a c : Addr} {oc : Obj} {u uc : HO} {vs : List V} {m : Ev} (S : zfX N scope) (C : zeG base N scope cl vs) (hoc : zl1 oc qual)
  (hbody : ∀ (A : Around) (outer : List Env) (s : Shared) (H : Hp) (E : XK), Room k (A.deeper (PySem.W.envX qual scope s.heap.objs.size a (.ref c) cl)) -> XeOk (cxL P w K mg base N qual scope a (.ref c) cl A outer s H E) s.heap (XE1 K E) ->
   SE (cxL P w K mg base N qual scope a (.ref c) cl A outer s H E) (XE1 K E) body m) :
  FnOk P w K mg base (CXe P w) (k + 1) a (PySem.W.kla_fn name qual params body scope cl pm (.ref c) ctv) [] (λ us H Q E => us = [] /\ H a = some (.frz (PySem.W.kla_obj name qual params body scope cl pm c ctv) u) /\ H c = some (.frz oc uc) /\
   ∃ φ A ws, Sim K φ A H /\ RVs K φ H ws vs /\ (m (ws.map some) A).post (PB K φ H Q) (EB K φ H (XE1 K E))) := by
 refine ⟨λ us H Q E h => by rw [h.1]; rfl, λ A outer s H args us vs' Q E hr e0 hb r h => ?_⟩
 obtain ⟨rfl, h1, h2, φ, A1, ws, Sm, rv, hp⟩ := h
 cases r
 have ho : s.heap.get? a = some (PySem.W.kla_obj name qual params body scope cl pm c ctv) := (show zZ P w H s.heap a (.frz _ u) from e0.hok a _ h1).1
 have hc : s.heap.get? c = some oc := (show zZ P w H s.heap c (.frz oc uc) from e0.hok c _ h2).1
 have lim : s.heap.NoLimit := e0.mod.nolimit.keeps λ b o e => (e0.bs b o e).1
 obtain ⟨vc, tc, hd1, hd2⟩ := hoc
 refine PySem.W.kla_callFunE hr.depth ho rfl S.co S.gen rfl ⟨c, oc, vc, tc, rfl, hc, hd1, hd2⟩ (hb _ _ _ _ ?_)
 refine wpAny_newFunctionEnv S.nocell (λ y hy => absurd (show y ∈ ([] : List (Str × Value)) from hy) (by simp)) (λ h₁ hns hsb => ⟨lim.fresh _ hsb, ?_⟩) S.kind
 show codeAny _ _ (.expr body (PySem.W.envX qual scope s.heap.objs.size a (.ref c) cl)) _ _
 have hk₁ : ∀ b o, s.heap.get? b = some o -> h₁.get? b = some o := λ b o e => hsb.extBut b o (Nat.ne_of_lt (Heap.lt_size e)) (Heap.get?_push_of_some _ e)
 have I : ∀ tk, Inv (cxL P w K mg base N qual scope a (.ref c) cl A outer s H E) [] (L2.start N vs) H { s with heap := h₁, toks := tk } := λ tk => zmC S hr.hd e0 C ⟨_, hns⟩ hk₁
 refine PySem.W.kla_codeExpr (wpAny_mono (hbody A outer s H E (hr.deeper _) zpd [] _ (L2.start N vs) H Q (I _) ⟨φ, A1, _, Sm, RE.start (N := N) rv, ?_⟩) (λ v s' hv => ?_) λ _ _ y => y)
 ·have : N.length - ws.length = 0 := by rw [rv.length, C.len]; omega
  rw [this, List.replicate_zero, List.append_nil]
  exact hp
 ·obtain ⟨x, H', J, rx, q⟩ := hv
  exact ⟨x, H', J.os, J.bare, J.base, J.hok, rx, q⟩
end
end Mi
namespace Mi
open PySem PySem.Spec PyProof.Rows L2
inductive zpw (K : Frag) (a : Addr) (ob : Obj) (u : HO) (c : Addr) (oc : Obj) (uc : HO) (vs : List V) (g : Fn) (us : List V) (H : Hp) (Q : VK) (E : XK) : Prop
 | mk (e : us = []) (h1 : H a = some (.frz ob u)) (h2 : H c = some (.frz oc uc)) (φ : List Addr) (A : Hx) (ws : List W) (S : Sim K φ A H) (r : RVs K φ H ws vs) (q : (g ws A).post (PB K φ H Q) (EB K φ H (XE1 K E)))
noncomputable def zck (P : Program) (w : World) (K : Frag) (mg : Str -> Option Value) (base : Heap) (j : Nat) (Pk : Obj -> Addr -> Obj -> List V -> Prop) (g : Fn) : Prop :=
 ∀ a ob u c oc uc vs, Pk ob c oc vs -> (∃ fd, ob.data = .func fd) /\ ∃ fd, FnOk P w K mg base (CXe P w) j a fd [] (zpw K a ob u c oc uc vs g) /\ ∀ s, BindsTo s fd ⟨[], []⟩ []
open Classical in
noncomputable def mClo (i : Nat) (PG : Nat -> Obj -> Addr -> Obj -> List V -> Prop) (lam : Nat -> Fn) : Ev := λ ρ A => match ρ[i]? with
 | some (some (.clo k ws P)) => if P = PG k then lam k ws A else .bad
 | _ => .bad
noncomputable def xTry (i j l : Nat) (cs : List Str) (PG : Nat -> Obj -> Addr -> Obj -> List V -> Prop) (lam : Nat -> Fn) : Ex := λ ρ A => match mClo i PG lam ρ A with
 | .ok _ A1 => .ok (.nx ρ) A1
 | .exc x A1 => if cs.contains x then .ok (.nx (((ρ.set l (some (.xc x))).set j (some (.xc x))).set l none)) A1 else .bad
 | .bad => .bad
section
variable {K : Frag} {φ : List Addr} {H : Hp} {ρ : En} {σ : St}
theorem RE.unset {i : Nat} (r : RE K φ H ρ σ) : RE K φ H (ρ.set i none) (σ.set i none) :=
 ⟨by simp [r.len], λ j u e => by
  by_cases h : i = j
  ·subst h
   have hi : i < ρ.length := by
    have := (List.getElem?_eq_some_iff.mp e).1
    simpa using this
   rw [List.getElem?_set_self hi] at e
   cases e
  ·rw [List.getElem?_set_ne h] at e
   obtain ⟨x, h1, h2⟩ := r.get j u e
   exact ⟨x, by rw [List.getElem?_set_ne h]; exact h1, h2⟩⟩
end
noncomputable def TryN (K : Frag) (φ : List Addr) (H : Hp) (ρ : En) (j l : Nat) (D0 : Ends) (xn : Str) (A' : Hx) : Prop := ∀ φ2 H2 σ2, Le K φ H φ2 H2 -> Sim K φ2 A' H2 -> RE K φ2 H2 (((ρ.set l (some (.xc xn))).set j (some (.xc xn))).set l none) σ2 -> D0.nx σ2 H2
inductive TryK (K : Frag) (φ : List Addr) (H : Hp) (ρ : En) (j l : Nat) (D0 : Ends) (ea C : Addr) (H' : Hp) : Prop
 | mk (xn : Str) (φ' : List Addr) (A' : Hx) (le : Le K φ H φ' H') (S : Sim K φ' A' H') (rv : RV K φ' H' (.xc xn) (.ref ea)) (n : TryN K φ H ρ j l D0 xn A')
inductive TryE (K : Frag) (φ : List Addr) (H : Hp) (ρ : En) (j l : Nat) (D0 : Ends) (cs : List Str) (Cv : Value) (d : Option Addr) (H1 : Hp) : Prop
 | mk (xn : Str) (Ca : Addr) (e : Cv = .ref Ca) (hC : zbW K xn (.ref Ca)) (hc : cs.contains xn = true) (φ1 : List Addr) (A1 : Hx) (le : Le K φ H φ1 H1) (S : Sim K φ1 A1 H1) (n : TryN K φ H ρ j l D0 xn A1)
section
variable {X : Cx} {xr : XR} {L D : Addr} {i j l kk : Nat} {x n y xD : Str} {cs : List Str} {PG : Nat -> Obj -> Addr -> Obj -> List V -> Prop} {lam : Nat -> Fn} {bmD : List Value} {newD : String} {np cp ep dp yp np2 ap hp pos : Pos}
theorem zjC (hL : ∀ k, zck X.prog X.w X.K X.mg X.base kk (PG k) (lam k)) (hr : Room kk X.A) (hst : X.stack = X.env :: X.outer) (hFr : X.env.frame = some L) (hD : zbW X.K xD (.ref D)) (exD : Mi.excB X.K D bmD newD = true) (hbD : bmD.contains (.type "BaseException") = true)
  (hcs : ∀ c, cs.contains c = true -> ∀ C, zbW X.K c (.ref C) -> ∃ bmC newC, Mi.excB X.K C bmC newC = true /\ upIn X.K C D = true)
  (hN : X.N.Nodup) (hi : X.N[i]? = some x) (hx : X.env.scope.names.lookup x = some .local) (hl : X.N[l]? = some n) (hn : X.env.scope.names.lookup n = some .local) (hj : X.N[j]? = some y) (hy : X.env.scope.names.lookup y = some .local)
  (hg : Gl X xD) (hs1 : swapsWith (.Call (.Name x np) [] [] cp) none ep.line X.env = pure false := by rfl) (hs2 : swapsWith (.Name n np2) (some (.Name y yp)) ap.line X.env = pure false := by rfl)
  (hdx : (x == ("__debug__" : Str)) = false := by decide) (hdn : (n == ("__debug__" : Str)) = false := by decide) (hdD : (xD == ("__debug__" : Str)) = false := by decide) :
  SS X xr (.Try [.Expr (.Call (.Name x np) [] [] cp) ep] [.ExceptHandler (some (.Name xD dp)) (some n) [.Assign [.Name y yp] (.Name n np2) ap] hp] [] [] pos) (xTry i j l cs PG lam) := by
 intro pins s σ H D0 I ⟨φ, A, ρ, S, re, h⟩
 unfold xTry mClo at h
 cases ei : ρ[i]? with
 | none => rw [ei] at h; exact h.elim
 | some ow =>
  cases ow with
  | none => rw [ei] at h; exact h.elim
  | some w =>
   rw [ei] at h
   cases w with
   | clo k ws P =>
    dsimp only at h
    by_cases hP : P = PG k
    ·rw [if_pos hP] at h
     subst hP
     obtain ⟨v, hv, a, ob, u, c, oc, uc, vs, rfl, h1, h2, hp', rvs⟩ := re.get i _ ei
     obtain ⟨⟨fd0, hfd⟩, fd, F, hb⟩ := hL k a ob u c oc uc vs hp'
     have ho : s.heap.get? a = some ob := (show zZ X.prog X.w H s.heap a (.frz ob u) from I.hok a _ h1).1
     refine zof (i := l) (L := L) (k := TryK X.K φ H ρ j l D0)
      I hst hFr hD exD hbD hN hl (.inl hn) ?body ?suite hg hdD (.inr hn)
     case body =>
      refine wpAny_execs_cons (wpAny_Expr_any ?_ I.quiet hs1)
      obtain ⟨m, hns, hloc⟩ := I.loc
      obtain ⟨u', r', lk⟩ := hloc i x (.ref a) hi hv (.inl hx)
      obtain rfl : u' = Value.ref a := r'
      have hm : m x = some (.ref a) := by
       rcases lk with ⟨_, e⟩ | ⟨q | q, _⟩
       ·exact e
       ·rw [show X.env.kindOf x = some .local from hx] at q; cases q
       ·rw [show X.env.kindOf x = some .local from hx] at q; cases q
      refine wpAny_Call_Name_kw (wpAny_Name (wpAny_loadName_local I.ok.kind hx hns hm ?_) hdx)
      have hK : Frag.In [(a, ob)] s.heap := λ b o e => by
       rw [List.lookup_cons] at e
       by_cases hb : b = a
       ·subst hb; simp at e; subst e; exact ho
       ·have : (b == a) = false := by simpa using hb
        rw [this] at e; cases e
      have hkp : PySem.W.keepIn [(a, ob)] (.ref a) = true := by
       unfold PySem.W.keepIn
       obtain ⟨o1, o2, o3, o4⟩ := ob
       cases (show o3 = _ from hfd)
       simp [List.lookup_cons]
      refine PySem.W.callWith_K0 (K := [(a, ob)]) (first := []) hK hkp ?_
      refine wpAny_call (codeAny_mono (F.run X.A X.stack s H ⟨[], []⟩ [] [] (λ _ H1 => D0.nx σ H1)
       (TryE X.K φ H ρ j l D0 cs)
       hr I.env0 (hb s) .nil ⟨rfl, h1, h2, φ, A, ws, S, rvs, ?_⟩) λ r s' hq => ?_)
      ·cases er : lam k ws A with
       | ok w1 A1 =>
        rw [er] at h
        exact λ φ' H' v' l' S' _ => h φ' H' σ l' S' (re.mono l')
       | exc xn A1 =>
        rw [er] at h
        dsimp only at h
        by_cases hc : cs.contains xn = true
        ·rw [if_pos hc] at h
         exact λ φ' H' l' S' Ca hCa => ⟨xn, Ca, rfl, hCa, hc, φ', A1, l', S', h⟩
        ·rw [if_neg hc] at h; exact h.elim
       | bad => rw [er] at h; exact h.elim
      ·cases r with
       | error e =>
        unfold CR at hq
        dsimp only at hq
        have un : ∀ b o, s.heap.get? b = some o -> ∃ o', s'.heap.get? b = some o' := by
         obtain ⟨_, _, _, _, _, _, un, _⟩ := hq
         exact λ b o e => un.there b o e (by simp)
        obtain ⟨ea, C, H', rfl, I', ly, tr, xn, Ca, ec, hCa, hc, φ1, A1, l1, S1, hn1⟩ := zg9 I hq s.heap λ b o e => ⟨o, e⟩
        cases ec
        obtain ⟨bmC, newC, exC, up⟩ := hcs xn hc C hCa
        exact ⟨ea, C, H', bmC, newC, rfl, I', ly, tr, un, exC, up, λ oe hoe nea => ⟨xn, φ1, A1, l1.trans (Le.new nea), S1.lay nea, ⟨ea, oe, .own 0, C, rfl, zal, hoe, hCa⟩, hn1⟩⟩
       | ok fl =>
        cases fl with
        | ret u1 =>
         obtain ⟨v1, H1, I1, _, q1⟩ := I.after hq
         exact wpAny_execs_nil ⟨rfl, σ, H1, I1, q1⟩
        | next => exact False.elim hq
        | brk => exact False.elim hq
        | cont => exact False.elim hq
     case suite =>
      rintro ea C H2 s2 I2 ⟨xn, φ', A', l', S', rx, hn'⟩ E'
      refine ziP (i := l) (j := j) I2 hN hl hj hn (.inl hy) (λ s' I' => ?_) hs2 (.inr hy) hdn
      exact ⟨_, H2, I', hn' φ' H2 _ l' S' ((((re.mono l').set rx).set rx).unset)⟩
    ·rw [if_neg hP] at h; exact h.elim
   | _ => exact h.elim
end
end Mi
namespace Mi
open PySem PySem.Spec PyProof.Rows L2
noncomputable def rIsX (K : Frag) (f : Str -> Option Bool) (cv : V) : List V -> Hp -> VK -> Prop := λ xs H Q => ∃ x, xs = [x, cv] /\ ((x = .non /\ Q (.bl false) H) ∨ ∃ a oe uo C nm b, x = .ref a /\ H a = some (.frz oe uo) /\ oe.cls = .ref C /\ zbW K nm (.ref C) /\ f nm = some b /\ Q (.bl b) H)
structure zh4 (K : Frag) (f : Str -> Option Bool) (c : Value) : Prop where
 non : PySem.W.kitOne K (.type "NoneType") c = some false
 exc : ∀ nm C b, f nm = some b -> zbW K nm (.ref C) -> zgF K C = true /\ PySem.W.kitOne K (.ref C) c = some b
noncomputable def mIsX (f : Str -> Option Bool) (m : Ev) : Ev := λ ρ A => (m ρ A).bind λ w A1 => match w with
 | .non => .ok (.bl false) A1
 | .xc nm => (match f nm with
  | some b => .ok (.bl b) A1
  | none => .bad)
 | _ => .bad
section
variable {X : Cx} {xr : XR} {e : Expr} {m : Ev} {pos p p' : Pos} {f : Str -> Option Bool} {x : Str}
theorem ziD {cv : V} {c : Value} (hc : zh4 X.K f c) (rc : ∀ u, RelV cv u -> u = c) : zcV X (.builtin "isinstance") (rIsX X.K f cv) := by
 intro pins s σ H xs us Q I r h
 obtain ⟨x, rfl, h⟩ := h
 obtain ⟨u, u', rfl, ru, ru'⟩ := vals2 r
 cases rc _ ru'
 rcases h with ⟨rfl, q⟩ | ⟨a, oe, uo, C, nm, b, rfl, h1, h2, h3, h4, q⟩
 ·cases (show u = Value.none from ru)
  exact zoP I hc.non λ tk => ⟨.bl false, H, I.tok tk, rfl, q⟩
 ·cases (show u = Value.ref a from ru)
  obtain ⟨k1, k2⟩ := hc.exc nm C b h4 h3
  exact zon I h1 h2 k1 k2 λ tk => ⟨.bl b, H, I.tok tk, rfl, q⟩
theorem mIsX.read {cv : V} {t2 : TE} (h2 : ∀ σ H Q, Q cv H -> t2 σ H Q) : ∀ σ H Q, tM X.K xr (mIsX f m) σ H Q -> tCB (rIsX X.K f cv) (zkU (tM X.K xr m) (zkU t2 tNil)) σ H Q := by
 rintro σ H Q ⟨φ, A, ρ, S, re, h⟩
 refine tM.go S re (zM.mp h) λ w A1 φ1 H1 v h1 l1 S1 q1 => ?_
 refine h2 σ H1 _ ?_
 cases w with
 | non =>
  obtain rfl := q1
  exact ⟨.non, rfl, .inl ⟨rfl, h1 φ1 H1 _ l1 S1 rfl⟩⟩
 | xc nm =>
  dsimp only at h1
  cases ef : f nm with
  | none => rw [ef] at h1; exact h1.elim
  | some b =>
   rw [ef] at h1
   obtain ⟨a, oe, u, C, rfl, z1, z2, z3⟩ := q1
   exact ⟨.ref a, rfl, .inr ⟨a, oe, u, C, nm, b, rfl, z1, z2, z3, ef, h1 φ1 H1 _ l1 S1 rfl⟩⟩
 | bl _ => exact h1.elim
 | int _ => exact h1.elim
 | str _ => exact h1.elim
 | tup _ => exact h1.elim
 | ref _ => exact h1.elim
 | clo _ _ _ => exact h1.elim
theorem zbe {C : Addr} (hx : zh4 X.K f (.ref C)) (hc : zbW X.K x (.ref C)) (hm : X.mg "isinstance" = none) (ha : SE X xr e m) (hg : Gl X "isinstance" := by rfl) (hg' : Gl X x := by rfl) (hd : (x == ("__debug__" : Str)) = false := by decide)
  (h1 : starEach [e, .Name x p'] X.env = (false, eval e X.env) :: starEach [.Name x p'] X.env := by rfl) (h2 : (backTo pos (starEach [.Name x p'] X.env)).any (·.1) = false := by rfl) :
  SE X xr (.Call (.Name "isinstance" p) [e, .Name x p'] [] pos) (mIsX f m) := by
 have hp : PE X (.Name x p') (tC (.ref C)) := λ pins s σ H Q I h => zd2 I hg' (PySem.W.mg_of I.mod.kin I.mod.glob hc) ⟨.ref C, H, I, rfl, h⟩ hd
 exact PE.imp (zcD (ziD (cv := .ref C) hx λ u r => r) hg hm (by rfl) (zar ha (zar hp zbh) h1) (by decide) (by decide) h1 h2) (mIsX.read λ σ H Q h => h)
theorem zhN {T : String} (hx : zh4 X.K f (.type T)) (hm : X.mg "isinstance" = none) (hm' : X.mg x = none) (hb : bootBuiltins x = some (.type T)) (ha : SE X xr e m) (hg : Gl X "isinstance" := by rfl) (hg' : Gl X x := by rfl) (hn : x ≠ "__name__" := by decide) (hd : (x == ("__debug__" : Str)) = false := by decide)
  (h1 : starEach [e, .Name x p'] X.env = (false, eval e X.env) :: starEach [.Name x p'] X.env := by rfl) (h2 : (backTo pos (starEach [.Name x p'] X.env)).any (·.1) = false := by rfl) :
  SE X xr (.Call (.Name "isinstance" p) [e, .Name x p'] [] pos) (mIsX f m) :=
 PE.imp (zcD (ziD (cv := .ty T) hx λ u r => r) hg hm (by rfl) (zar ha (zar (zf4 hg' hm' hb (v := .ty T) rfl hn hd) zbh) h1) (by decide) (by decide) h1 h2) (mIsX.read λ σ H Q h => h)
end
end Mi
namespace Mi
open PySem PySem.Spec PyProof.Rows L2
theorem zgl {pos : Pos} {a b : Int} {c cv : Value} (l : List Value) (h : TriplesOk l) (e : codeAmong pos (l ++ [rawInt a, rawInt b, c]) = some cv) : codeAmong pos l = some cv ∨ cv = c := by
 fun_induction TriplesOk l with
 | case1 =>
  right
  simp only [List.nil_append, codeAmong, rawInt] at e
  split at e
  ·exact (Option.some.inj e).symm
  ·cases e
 | case2 a' t b' u x rest ih =>
  simp only [List.cons_append, codeAmong] at e ⊢
  split at e
  ·rename_i hc; rw [if_pos hc]; exact .inl e
  ·rename_i hc; rw [if_neg hc]; exact ih h e
 | case3 l h1 h2 => exact h.elim
noncomputable def BMain (mg : Str -> Option Value) (base : Heap) : Prop := ∃ bm o, mg "__builtins__" = some (.ref bm) /\ bm ≠ builtinsNs /\ bm ≠ mainGlobals /\ base.get? bm = some o /\ o.cls = .type "module" /\ o.dict = some builtinsNs /\ o.data = .plain
noncomputable def PLam (q : Str) (params : Arguments) (body : Expr) (scope : Scope) (clos : List (Str × Addr)) : Obj -> Addr -> Obj -> List V -> Prop := λ ob c oc _ => (∃ pm ctv, ob = PySem.W.kla_obj "<lambda>" q params body scope clos pm c ctv) /\ zl1 oc q
noncomputable def mLam (n : Nat) (q : Str) (P : Addr) (k : Nat) (PF : Obj -> Addr -> Obj -> List V -> Prop) : Ev := λ _ A => match A[n]? with
 | some (.tab q' P') => if q' = q /\ P' = P then .ok (.clo k [] PF) A else .bad
 | _ => .bad
section
variable {X : Cx} {xr : XR} {n k : Nat} {q : Str} {P c : Addr} {params : Arguments} {body : Expr} {scope : Scope} {clos : List (Str × Addr)} {pos : Pos}
theorem zoB (hB : BMain X.mg X.base) (hcode : X.env.code = .ref c) (C : PySem.W.CodeHd X.base c P) (hcl : closureFor scope X.env = pure clos) (hq : X.env.qual ++ "<lambda>" = q) (hdef : defaultsOf params X.env = ([], []) := by rfl) :
  SE X xr (.Lambda params body scope pos) (mLam n q P k (PLam q params body scope clos)) := by
 intro pins s σ H Q I ⟨φ, A, ρ, S, re, h⟩
 unfold mLam at h
 cases ei : A[n]? with
 | none => rw [ei] at h; exact h.elim
 | some o =>
  rw [ei] at h
  cases o with
  | tab q' P' =>
   dsimp only at h
   by_cases hc : q' = q /\ P' = P
   ·rw [if_pos hc] at h
    obtain ⟨rfl, rfl⟩ := hc
    obtain ⟨a, ha, eaP, ps, hH, tg⟩ := S.ob n _ ei
    subst eaP
    have hP : s.heap.get? a = some (PySem.W.tabObj ps) := (show zZ X.prog X.w H s.heap a (.tbl ps) from I.hok a _ hH)
    have hg : s.heap.Ns mainGlobals X.mg := I.mod.glob.keeps I.bk
    have hgP : mainGlobals ≠ a := λ z => by
     obtain ⟨o, es, ep, e, hd, _⟩ := hg
     rw [z, hP] at e; cases e; cases hd
    have hb : s.heap.BuiltinsAt X.mg a := by
     obtain ⟨bm, o, b1, b2, b3, b4, b5⟩ := hB
     refine ⟨bm, o, b1, b2, b3, λ z => ?_, I.bk _ _ b4, b5⟩
     have := (I.bs _ _ b4).2
     rw [z, hH] at this; cases this
    refine PySem.W.kla_eval hdef ?_
    rw [hq]
    have noA : ∀ b, s.heap.objs.size <= b -> H b = none := λ b hb => I.hok.fresh hb
    cases hf : codeAmong pos ps.toList with
    | none =>
     refine PySem.W.kla_makeFunction (mg := X.mg) hcl I.ok.glob hg hcode (C.keeps I.bk) hP tg.1 hf hgP hb λ c' ctv h' tk hx hge hlt hrec htb => ?_
     obtain ⟨c2, oc, vc, tc, ec, hoc, hd1, hd2⟩ := hrec
     cases ec
     generalize hob : PySem.W.kla_obj "<lambda>" q' params body scope clos ((X.mg "__name__").getD .none) c' ctv = ob
     have hPc : a < s.heap.objs.size := Heap.lt_size hP
     have nPc : a ≠ c' := Nat.ne_of_lt (Nat.lt_of_lt_of_le hPc hge)
     have nPf : a ≠ h'.objs.size := Nat.ne_of_lt (Nat.lt_trans (Nat.lt_of_lt_of_le hPc hge) hlt)
     have ncf : c' ≠ h'.objs.size := Nat.ne_of_lt hlt
     have hsf : s.heap.objs.size <= h'.objs.size := Nat.le_trans hge (Nat.le_of_lt hlt)
     have H0c : H c' = none := noA c' hge
     have H0f : H h'.objs.size = none := noA _ hsf
     have H1f : upd H c' (.frz oc (.own 0)) h'.objs.size = none := by rw [zP (Ne.symm ncf)]; exact H0f
     generalize hps : ps ++ #[rawInt pos.line, rawInt pos.col, .ref c'] = ps' at htb
     have S1 := S.lay (u := .frz oc (.own 0)) H0c
     have S2 := S1.lay (u := .frz ob (.own 0)) H1f
     have fz : ∀ b o u, upd (upd H c' (.frz oc (.own 0))) h'.objs.size (.frz ob (.own 0)) b = some (.frz o u) -> upd (upd (upd H c' (.frz oc (.own 0))) h'.objs.size (.frz ob (.own 0))) a (.tbl ps') b = some (.frz o u) := λ b o u e => by
      rw [zP]; exact e
      intro z
      rw [z, zP nPf, zP nPc, hH] at e
      cases e
     have fz0 : ∀ b o u, H b = some (.frz o u) -> upd (upd H c' (.frz oc (.own 0))) h'.objs.size (.frz ob (.own 0)) b = some (.frz o u) := λ b o u e => by
      rw [zP (zau e H0f), zP (zau e H0c)]; exact e
     have tg' : TabG (upd (upd (upd H c' (.frz oc (.own 0))) h'.objs.size (.frz ob (.own 0))) a (.tbl ps')) q' ps' := by
      rw [<- hps]
      refine ⟨by rw [Array.toList_append]; exact TriplesOk_snoc _ _ _ _ tg.1, λ pos' cv e => ?_⟩
      rw [Array.toList_append] at e
      rcases zgl _ tg.1 e with e | e
      ·obtain ⟨c0, oc0, u0, vs0, t0, g1, g2, g3⟩ := tg.2 pos' cv e
       exact ⟨c0, oc0, u0, vs0, t0, g1, by rw [hps]; exact fz _ _ _ (fz0 _ _ _ g2), g3⟩
      ·exact ⟨c', oc, .own 0, vc, tc, e, by rw [hps]; exact fz _ _ _ (by rw [zP ncf, zal]), hd1, hd2⟩
     obtain ⟨l3, S3⟩ := S2.write (o := .tab q' a) (o' := .tab q' a) ei rfl rfl ha (u := .tbl ps') ⟨rfl, ps', zal, tg'⟩
     have l03 : Le X.K φ H φ _ := ((Le.new H0c).trans (Le.new H1f)).trans l3
     have set3 : A.set n (.tab q' a) = A := by
      apply List.ext_getElem?
      intro i
      by_cases hi : n = i
      ·subst hi
       rw [List.getElem?_set_self (List.getElem?_eq_some_iff.mp ei).1, ei]
      ·rw [List.getElem?_set_ne hi]
     rw [set3] at S3
     have eP : upd (upd (upd H c' (.frz oc (.own 0))) h'.objs.size (.frz ob (.own 0))) a (.tbl ps') a = some (.tbl ps') := zal
     have ec : upd (upd (upd H c' (.frz oc (.own 0))) h'.objs.size (.frz ob (.own 0))) a (.tbl ps') c' = some (.frz oc (.own 0)) := by rw [zP (Ne.symm nPc), zP ncf, zal]
     have ef : upd (upd (upd H c' (.frz oc (.own 0))) h'.objs.size (.frz ob (.own 0))) a (.tbl ps') h'.objs.size = some (.frz ob (.own 0)) := by rw [zP (Ne.symm nPf), zal]
     have eo : ∀ b, b ≠ a -> b ≠ c' -> b ≠ h'.objs.size -> upd (upd (upd H c' (.frz oc (.own 0))) h'.objs.size (.frz ob (.own 0))) a (.tbl ps') b = H b := λ b n1 n2 n3 => by rw [zP n1, zP n3, zP n2]
     generalize upd (upd (upd H c' (.frz oc (.own 0))) h'.objs.size (.frz ob (.own 0))) a (.tbl ps') = H3 at S3 l03 eP ec ef eo
     have kp : ∀ b o, b ≠ a -> s.heap.get? b = some o -> (h'.push ob).get? b = some o := λ b o n e => Heap.get?_push_of_some _ (hx b o n e)
     have old : ∀ b o, s.heap.get? b = some o -> b ≠ c' /\ b ≠ h'.objs.size := λ b o e => ⟨Nat.ne_of_lt (Nat.lt_of_lt_of_le (Heap.lt_size e) hge), Nat.ne_of_lt (Nat.lt_of_lt_of_le (Heap.lt_size e) hsf)⟩
     have nH : ∀ b u, H b = some u -> b ≠ c' /\ b ≠ h'.objs.size := λ b u e => ⟨zau e H0c, zau e H0f⟩
     have gP : (h'.push ob).get? a = some (PySem.W.tabObj ps') := Heap.get?_push_of_some _ htb
     have I3 : Inv X pins σ H3 { s with heap := h'.push ob, toks := tk } := by
      refine I.un ⟨λ b o e z hb _ => ?_, λ b o e z hb _ => ?_, λ b o e z _ => ?_, λ b o e _ => ?_, λ b xs e => ?_, λ b o u e => ?_, λ b qs e => ?_⟩ λ b u e => ?_
      ·exact kp b o (λ w => by rw [w, hH] at z; cases z) e
      ·exact ⟨o.slots, kp b o (λ w => by rw [w, hH] at z; cases z) e⟩
      ·rw [eo b (λ w => by rw [w, hH] at z; cases z) (old b o e).1 (old b o e).2]; exact z
      ·by_cases hb : b = a
       ·rw [hb]; exact ⟨_, gP⟩
       ·exact ⟨o, kp b o hb e⟩
      ·rw [eo b (zka e hH (by intro w; cases w)) (nH b _ e).1 (nH b _ e).2]; exact e
      ·rw [eo b (zka e hH (by intro w; cases w)) (nH b _ e).1 (nH b _ e).2]; exact e
      ·by_cases hb : b = a
       ·subst hb
        rw [hH] at e; cases e
        exact ⟨_, by rw [eP, <- hps]⟩
       ·exact ⟨#[], by rw [eo b hb (nH b _ e).1 (nH b _ e).2, e]; simp⟩
      ·by_cases h1 : b = a
       ·subst h1
        rw [eP] at e; cases e
        exact gP
       ·by_cases h2 : b = c'
        ·subst h2
         rw [ec] at e; cases e
         exact ⟨Heap.get?_push_of_some _ hoc, ⟨_, Heap.get?_push_of_some _ hoc⟩⟩
        ·by_cases h3 : b = h'.objs.size
         ·subst h3
          rw [ef] at e; cases e
          exact ⟨Heap.get?_push_size _ (by rw [<- hob]; rfl), ⟨_, Heap.get?_push_size _ (by rw [<- hob]; rfl)⟩⟩
         ·rw [eo b h1 h2 h3] at e
          refine (I.hok b u e).stay (λ d v hd z => kp d v ?_ z) (λ d z => ?_) λ d xs z => ?_
          ·rcases hd with w | w
           ·rw [w]; exact h1
           ·exact zka w hH (by intro w; cases w)
          ·rw [eo d (zka z hH (by intro w; cases w)) (nH d _ z).1 (nH d _ z).2]; exact z
          ·rw [eo d (zka z hH (by intro w; cases w)) (nH d _ z).1 (nH d _ z).2]; exact z
     exact ⟨.ref h'.objs.size, H3, I3, rfl, h φ H3 _ l03 S3 ⟨h'.objs.size, ob, .own 0, c', oc, .own 0, [], rfl, ef, ec, ⟨⟨_, _, hob.symm⟩, vc, tc, hd1, hd2⟩, rfl⟩⟩
    | some cv =>
     obtain ⟨c', oc, u0, vc, tc, rfl, hHc, hd1, hd2⟩ := tg.2 pos cv hf
     refine PySem.W.kla_makeFunctionHit (mg := X.mg) hcl I.ok.glob hg hcode (C.keeps I.bk) hP tg.1 hf hb λ ctv h' tk hx hsz => ?_
     generalize hob : ({ cls := .type "function", data := .func (PySem.W.kla_fn "<lambda>" q' params body scope clos ((X.mg "__name__").getD .none) (.ref c') ctv) } : Obj) = ob
     have H0f : H h'.objs.size = none := noA _ hsz
     have I3 : Inv X pins σ (upd H h'.objs.size (.frz ob (.own 0))) { s with heap := h'.push ob, toks := tk } :=
      I.laid (λ b o e => Heap.get?_push_of_some _ (hx b o e)) hsz ⟨Heap.get?_push_size _ (by rw [<- hob]; rfl), ⟨_, Heap.get?_push_size _ (by rw [<- hob]; rfl)⟩⟩
     refine ⟨.ref h'.objs.size, _, I3, rfl, h φ _ _ (Le.new H0f) (S.lay H0f) ⟨h'.objs.size, ob, .own 0, c', oc, u0, [], rfl, zal, ?_, ⟨⟨_, _, hob.symm⟩, vc, tc, hd1, hd2⟩, rfl⟩⟩
     rw [zP (zau hHc H0f)]; exact hHc
   ·rw [if_neg hc] at h; exact h.elim
  | _ => exact h.elim
end
end Mi
namespace Mi
open PySem PySem.Spec PyProof.Rows L2
section
variable {K : Frag} {X : Cx} {pos : Pos}
theorem RE.monoW {φ φ' : List Addr} {H H' : Hp} {ρ : En} {σ : St} (r : RE K φ H ρ σ) (l : LeW K φ H φ' H') : RE K φ' H' ρ σ := ⟨r.len, λ i w e => let ⟨v, h1, h2⟩ := r.get i w e; ⟨v, h1, h2.monoW l⟩⟩
inductive MMg (G : List Addr -> Hp -> Prop) (K : Frag) (xr : XR) (m : Ev) (σ : St) (H : Hp) (Q : VK) : Prop
 | mk (φ : List Addr) (A : Hx) (ρ : En) (S : Sim K φ A H) (re : RE K φ H ρ σ) (g : G φ H) (h : (m ρ A).post (PB K φ H Q) (EB K φ H xr))
noncomputable def tMg (G : List Addr -> Hp -> Prop) (K : Frag) (xr : XR) (m : Ev) : TE := λ σ H Q => MMg G K xr m σ H Q
inductive MEg (G : List Addr -> Hp -> Prop) (K : Frag) (em : Em) (D : Addr) (σ : St) (H : Hp) (Q : St -> Hp -> Prop) : Prop
 | mk (φ : List Addr) (A : Hx) (ρ : En) (acc : List W) (ys : List V) (S : Sim K φ A H) (re : RE K φ H ρ σ) (g : G φ H) (hD : H D = some (.lst ys)) (nD : ∀ k : Nat, φ[k]? ≠ some D) (rv : RVs K φ H acc ys)
  (h : (em ρ acc A).post (EmP K D φ H Q) noX)
noncomputable def tEg (G : List Addr -> Hp -> Prop) (K : Frag) (em : Em) : TEm := λ D σ H Q => MEg G K em D σ H Q
theorem zmk {G : List Addr -> Hp -> Prop} {elt : Expr} {gens : List Comprehension} {sc : Scope} {d : Nat} {me : Ev} (hx : ∀ e s, X.xe e s -> False) (he : PE X elt (tMg G X.K xr0 me)) (hg : gens[d + 1]? = none) : PEm X elt gens sc pos d (tEg G X.K (zN me)) :=
 PEm.imp (zih hx he hg) λ D σ H Q ⟨φ, A, ρ, acc, ys, S, re, g, hD, nD, ra, h⟩ => by
  refine ⟨φ, A, ρ, S, re, g, zS (zdO (zM.mp h)) (λ w A1 h1 φ1 H1 v l1 S1 q1 => ?_) λ _ _ z => z⟩
  obtain ⟨d1, n1⟩ := l1.off hD nD
  by_cases hz : acc.length < zR
  ·rw [if_pos hz] at h1
   have hl := ra.length
   refine ⟨ys, d1, ?_, ?_⟩
   ·rw [<- hl]
    have : sizeLine = 16777216 := sizeLine_eq
    unfold zR at hz
    omega
   ·exact h1 φ1 _ σ _ (l1.toD.trans (LeD.upd d1)) n1 (S1.off d1 n1) ⟨re.len, λ i w e => let ⟨v, a, b⟩ := re.get i w e; ⟨v, a, (b.mono l1).monoD (LeD.upd d1)⟩⟩ zal
     (((ra.mono l1).monoD (LeD.upd d1)).append (.one (q1.monoD (LeD.upd d1))))
  ·rw [if_neg hz] at h1; exact h1.elim
theorem emGo.readG {G : List Addr -> Hp -> Prop} {tw : Tg} {ifs : Ev} {em : Em} {j : Itx} {J : It} {K : Frag} {D : Addr} {φ : List Addr} {A : Hx} {H : Hp} {ρ : En} {σ : St} {acc : List W} {ys : List V} {Q : St -> Hp -> Prop} {f : Nat}
  (gm : ∀ φ H φ' H', LeW K φ H φ' H' -> G φ H -> G φ' H') (g : G φ H) (jr : ItR K φ H j J)
  (S : Sim K φ A H) (re : RE K φ H ρ σ) (hD : H D = some (.lst ys)) (nD : ∀ k : Nat, φ[k]? ≠ some D) (ra : RVs K φ H acc ys)
  (h : (emGo j tw ifs em f 0 ρ acc A).post (EmP K D φ H Q) noX) :
  ziO J (tG K tw) (tT K xr0 ifs) (tEg G K em) D σ H Q := by
 refine ⟨λ i f σ' H' => EmW tw ifs em j K D φ H Q f i σ' H',
  ⟨f, φ, A, ρ, acc, ys, .refl, S, re, hD, nD, ra, h⟩, ?_⟩
 rintro i f σ2 H2 ⟨φ2, A2, ρ2, acc2, ys2, l2, S2, re2, hD2, nD2, ra2, h2⟩
 obtain ⟨j1, j2⟩ := jr i φ2 H2 A2 ⟨l2.ex, l2.tp, l2.fz⟩ S2
 cases ej : j.at_ A2 i with
 | none => cases f <;> (unfold emGo at h2; rw [ej] at h2; exact h2.elim)
 | some o =>
  cases o with
  | none =>
   left
   refine ⟨j2 ej, ?_⟩
   cases f <;> (unfold emGo at h2; rw [ej] at h2; exact h2 φ2 H2 σ2 ys2 l2 nD2 S2 re2 hD2 ra2)
  | some w =>
   right
   obtain ⟨go, yl⟩ := j1 w ej
   cases f with
   | zero => unfold emGo at h2; rw [ej] at h2; exact h2.elim
   | succ f =>
    unfold emGo at h2
    rw [ej] at h2
    refine ⟨go, λ σ' H' => EmW tw ifs em j K D φ H Q f (i + 1) σ' H', λ σ' H' z => ⟨f, Nat.lt_succ_self _, z⟩, λ x H3 y => ?_⟩
    obtain ⟨l3, S3, q3⟩ := yl x H3 y
    obtain ⟨hD3, nD3⟩ := l3.off hD2 nD2
    dsimp only at h2
    cases et : tw w ρ2 with
    | none => rw [et] at h2; exact h2.elim
    | some ρ3 =>
     rw [et] at h2
     refine ⟨φ2, A2, ρ2, w, ρ3, S3, re2.mono l3, q3, et, λ σ3 re3 => ?_⟩
     refine tT.go S3 re3 (zdO (zM.mp h2)) λ c A4 h4 => ?_
     cases c with
     | bl k =>
      refine ⟨k, rfl, λ φ4 H4 l4 S4 => ?_⟩
      obtain ⟨hD4, nD4⟩ := l4.off hD3 nD3
      have l04 := (l2.trans (l3.trans l4).toD)
      cases k with
      | true =>
       rw [if_pos rfl]
       refine ⟨φ4, A4, ρ3, acc2, ys2, S4, re3.mono l4, gm _ _ _ _ ⟨l04.ex, l04.tp, l04.fz⟩ g, hD4, nD4, ra2.mono (l3.trans l4), zS (zM.mp h4) (λ p A5 h5 φ5 H5 σ5 zs l5 n5 S5 re5 d5 r5 => ?_) λ _ _ z => z⟩
       exact ⟨φ5, A5, p.1, p.2, zs, l04.trans l5, S5, re5, d5, n5, r5, h5⟩
      | false =>
       rw [if_neg Bool.false_ne_true]
       exact ⟨φ4, A4, ρ3, acc2, ys2, l04, S4, re3.mono l4, hD4, nD4, ra2.mono (l3.trans l4), h4⟩
     | non => cases h4
     | int _ => cases h4
     | str _ => cases h4
     | tup _ => cases h4
     | ref _ => cases h4
     | clo _ _ _ => cases h4
     | xc _ => cases h4
end
structure Lm where
 N : List Str
 idx : List Nat
 params : Arguments
 body : Expr
 scope : Scope
 m : Ev
noncomputable def capE : List Nat -> En -> Option (List W)
 | [], _ => some []
 | j :: js, ρ => match ρ[j]?, capE js ρ with
  | some (some w), some ws => some (w :: ws)
  | _, _ => none
noncomputable def capV : List Nat -> St -> Option (List V)
 | [], _ => some []
 | j :: js, σ => match σ[j]?, capV js σ with
  | some (some w), some ws => some (w :: ws)
  | _, _ => none
theorem zfa {K : Frag} {φ : List Addr} {H : Hp} {ρ : En} {σ : St} (r : RE K φ H ρ σ) : ∀ {js : List Nat} {ws : List W}, capE js ρ = some ws -> ∃ vs, capV js σ = some vs /\ RVs K φ H ws vs
 | [], ws, e => by cases e; exact ⟨[], rfl, .nil⟩
 | j :: js, ws, e => by
  unfold capE at e
  cases ej : ρ[j]? with
  | none => rw [ej] at e; cases e
  | some ow => cases ow with
   | none => rw [ej] at e; cases e
   | some w =>
    rw [ej] at e
    cases er : capE js ρ with
    | none => rw [er] at e; cases e
    | some ws' =>
     rw [er] at e
     cases e
     obtain ⟨v, h1, h2⟩ := r.get j w ej
     obtain ⟨vs, h3, h4⟩ := zfa r er
     exact ⟨v :: vs, by unfold capV; rw [h1, h3], .cons h2 h4⟩
theorem zig {σ : St} : ∀ {js : List Nat} {vs : List V}, capV js σ = some vs -> vs.length = js.length /\ ∀ (i : Nat) (v : V), vs[i]? = some v -> ∃ j, js[i]? = some j /\ σ[j]? = some (some v)
 | [], vs, e => by cases e; exact ⟨rfl, λ i v h => by simp at h⟩
 | j :: js, vs, e => by
  unfold capV at e
  cases ej : σ[j]? with
  | none => rw [ej] at e; cases e
  | some ow => cases ow with
   | none => rw [ej] at e; cases e
   | some w =>
    rw [ej] at e
    cases er : capV js σ with
    | none => rw [er] at e; cases e
    | some ws' =>
     rw [er] at e
     cases e
     obtain ⟨h1, h2⟩ := zig er
     refine ⟨by simp [h1], λ i v h => ?_⟩
     cases i with
     | zero => simp at h; subst h; exact ⟨j, by simp, ej⟩
     | succ i => simp at h; obtain ⟨j', a, b⟩ := h2 i v h; exact ⟨j', by simpa using a, b⟩
noncomputable def lamF (ls : List Lm) (k : Nat) : Fn := λ ws A => match ls[k]? with
 | some t => t.m (ws.map some) A
 | none => .bad
noncomputable def PFk (env : Env) (q : Str) (ls : List Lm) (k : Nat) : Obj -> Addr -> Obj -> List V -> Prop := λ ob c oc vs => ∃ t, ls[k]? = some t /\ PLam q t.params t.body t.scope (zbB env t.scope.names []) ob c oc vs
noncomputable def PGk (env : Env) (q : Str) (ls : List Lm) (σ : St) (k : Nat) : Obj -> Addr -> Obj -> List V -> Prop := λ ob c oc vs => ∃ t, ls[k]? = some t /\ PLam q t.params t.body t.scope (zbB env t.scope.names []) ob c oc vs /\ capV t.idx σ = some vs
structure LmOk (P : Program) (w : World) (K : Frag) (mg : Str -> Option Value) (j : Nat) (q : Str) (t : Lm) : Prop where
 sc : zfX t.N t.scope
 bind : ∀ (cl : List (Str × Addr)) (pm cdv ctv : Value), bindArgs (PySem.W.kla_fn "<lambda>" q t.params t.body t.scope cl pm cdv ctv) ⟨[], []⟩ = pure []
 body : ∀ (base : Heap) (cl : List (Str × Addr)) (a c : Addr) (A : Around) (outer : List Env) (s : Shared) (H : Hp) (E : XK), Room j (A.deeper (PySem.W.envX q t.scope s.heap.objs.size a (.ref c) cl)) -> XeOk (cxL P w K mg base t.N q t.scope a (.ref c) cl A outer s H E) s.heap (XE1 K E) ->
  SE (cxL P w K mg base t.N q t.scope a (.ref c) cl A outer s H E) (XE1 K E) t.body t.m
section
variable {P : Program} {w : World} {K : Frag} {mg : Str -> Option Value} {base : Heap} {j : Nat} {q : Str} {ls : List Lm} {env : Env} {σ : St}
theorem zlR (hl : ∀ t ∈ ls, LmOk P w K mg j q t) (hc : ∀ t ∈ ls, ∀ vs, capV t.idx σ = some vs -> zeG base t.N t.scope (zbB env t.scope.names []) vs) (k : Nat) : zck P w K mg base (j + 1) (PGk env q ls σ k) (lamF ls k) := by
 rintro a ob u c oc uc vs ⟨t, ht, ⟨⟨pm, ctv, rfl⟩, hoc⟩, hv⟩
 have mt : t ∈ ls := List.mem_of_getElem? ht
 have L := hl t mt
 refine ⟨⟨_, rfl⟩, _, ((zoo (name := "<lambda>") (params := t.params) (body := t.body) (pm := pm) (ctv := ctv) (a := a) (c := c) (u := u) (uc := uc) (m := t.m) L.sc (hc t mt vs hv) hoc λ A outer s H E hr xo => L.body base _ a c A outer s H E hr xo)).imp λ us H Q E h => ?_, λ s => .of_eq (L.bind _ _ _ _)⟩
 obtain ⟨h1, h2, h3, φ, A, ws, S, r, h⟩ := h
 refine ⟨h1, h2, h3, φ, A, ws, S, r, ?_⟩
 unfold lamF at h
 rw [ht] at h
 exact h
end
end Mi
namespace Mi
open PySem PySem.Spec PyProof.Rows L2
noncomputable abbrev PFam := Nat -> Obj -> Addr -> Obj -> List V -> Prop
open Classical in
noncomputable def fRef (PG : PFam) (RF : Nat -> List W -> Hx -> R W) : Fn := λ us A => match us with
 | [.clo k ws P] => if P = PG k then RF k ws A else .bad
 | _ => .bad
open Classical in
noncomputable def mEl (i : Nat) (PF : PFam) (ls : List Lm) (RF : Nat -> List W -> Hx -> R W) (ρ0 : En) : Ev := λ ρ A => match ρ[i]? with
 | some (some (.clo k _ P)) => if P = PF k then (match ls[k]? with
  | some t => (match capE t.idx ρ0 with
   | some ws => RF k ws A
   | none => .bad)
  | none => .bad) else .bad
 | _ => .bad
structure LmIx (X : Cx) (t : Lm) : Prop where
 len : t.idx.length = t.N.length
 nm : ∀ (i : Nat) (x : Str) (j : Nat), t.N[i]? = some x -> t.idx[i]? = some j -> X.N[j]? = some x /\ t.scope.names.lookup x = some .free
 free : ∀ y ∈ t.scope.names, y.2 = .free -> X.env.kindOf y.1 = some .cell ∨ X.env.kindOf y.1 = some .free
section
variable {X : Cx} {pins : List (Addr × Obj)} {σ : St} {H : Hp} {s : Shared}
theorem zeN (I : Inv X pins σ H s) {t : Lm} (L : LmIx X t) {x : Str} {c : Addr} (h : (zbB X.env t.scope.names []).lookup x = some c) : X.env.cells.lookup x = some c := by
 rcases zbn _ _ (PySem.mem_of_lookup h) with z | ⟨z, e⟩
 ·cases z
 ·obtain ⟨c', hc⟩ := I.ok.has x (L.free _ z rfl)
  rw [hc] at e ⊢
  exact congrArg some e.symm
theorem ziB (I : Inv X pins σ H s) {base : Heap} (hb : ∀ x c v, X.env.cells.lookup x = some c -> s.heap.IsCell c v -> base.IsCell c v) {t : Lm} (L : LmIx X t) {vs : List V} (hv : capV t.idx σ = some vs) : zeG base t.N t.scope (zbB X.env t.scope.names []) vs := by
 obtain ⟨v1, v2⟩ := zig hv
 refine ⟨v1.trans L.len, λ x y c h1 h2 => I.ok.inj x y c (zeN I L h1) (zeN I L h2), λ x h => ?_, λ x c h => ?_, λ i x v h1 h2 => ?_⟩
 ·exact Option.isSome_iff_exists.mp (zdc _ _ (.inl (PySem.mem_of_lookup h)))
 ·have e := zeN I L h
  obtain ⟨v, z⟩ := I.cell x c e
  exact ⟨v, hb x c v e z⟩
 ·obtain ⟨j, e1, e2⟩ := v2 i v h2
  obtain ⟨e3, e4⟩ := L.nm i x j h1 e1
  have fr := L.free _ (PySem.mem_of_lookup e4) rfl
  obtain ⟨m, hn, hl⟩ := I.loc
  obtain ⟨u, r, lk⟩ := hl j x v e3 e2 (.inr fr)
  obtain ⟨c, hc⟩ := Option.isSome_iff_exists.mp (zdc (env := X.env) t.scope.names [] (.inl (PySem.mem_of_lookup e4)))
  have ec := zeN I L hc
  rcases lk with ⟨z, _⟩ | ⟨_, c', hc', cell⟩
  ·exfalso
   rcases fr with k | k <;> (rw [k] at z; cases z)
  ·rw [ec] at hc'
   cases hc'
   exact ⟨c, u, e4, hc, hb x c _ ec cell, r⟩
theorem zh1 (I : Inv X pins σ H s) (hfn : ∀ x, X.fn x = true) {x : Str} {c : Addr} (e : X.env.cells.lookup x = some c) : c ∉ frs X.stack := λ hm => by
 rcases List.mem_cons.mp (I.stkSub c hm) with z | z
 ·exact I.cne x c e z
 ·obtain ⟨_, o, ho, _⟩ := I.ok.funs.mem z
  exact absurd (Nat.lt_of_lt_of_le (Heap.lt_size ho) (I.ok.cab x c (hfn x) e)) (Nat.lt_irrefl _)
noncomputable def zdj (base h : Heap) (cells : List (Str × Addr)) : Heap := PySem.W.hideAll h ((List.range h.objs.size).filter λ b => (base.get? b).isNone && !(cells.any λ p => cells.lookup p.1 == some b))
theorem zeJ {base h : Heap} {cells : List (Str × Addr)} {b : Addr} {o : Obj} (e : (zdj base h cells).get? b = some o) : h.get? b = some o /\ ((∃ o', base.get? b = some o') ∨ ∃ x, cells.lookup x = some b) := by
 have e1 := PySem.W.of_hideAll _ e
 refine ⟨e1, ?_⟩
 by_cases hm : b ∈ (List.range h.objs.size).filter λ b => (base.get? b).isNone && !(cells.any λ p => cells.lookup p.1 == some b)
 ·unfold zdj at e
  rw [PySem.W.hideAll_none _ hm] at e
  cases e
 ·rw [List.mem_filter] at hm
  have hb : b ∈ List.range h.objs.size := List.mem_range.mpr (Heap.lt_size e1)
  cases hg : base.get? b with
  | some o' => exact .inl ⟨o', rfl⟩
  | none =>
   right
   by_cases hc : (cells.any λ p => cells.lookup p.1 == some b) = true
   ·obtain ⟨p, _, hp⟩ := List.any_eq_true.mp hc
    exact ⟨p.1, beq_iff_eq.mp hp⟩
   ·exact absurd ⟨hb, by rw [hg]; simpa using hc⟩ hm
theorem zfB {base h : Heap} {cells : List (Str × Addr)} (k : ∀ b o, base.get? b = some o -> h.get? b = some o) {b : Addr} {o : Obj} (e : base.get? b = some o) : (zdj base h cells).get? b = some o :=
 PySem.W.hideAll_get _ (k b o e) λ hm => by
  rw [List.mem_filter, e] at hm
  simp at hm
theorem zfD {base h : Heap} {cells : List (Str × Addr)} {x : Str} {c : Addr} {o : Obj} (l : cells.lookup x = some c) (e : h.get? c = some o) : (zdj base h cells).get? c = some o :=
 PySem.W.hideAll_get _ e λ hm => by
  rw [List.mem_filter, Bool.and_eq_true, Bool.not_eq_true'] at hm
  have := hm.2.2
  rw [List.any_eq_false] at this
  exact this _ (PySem.mem_of_lookup l) (by simpa using l)
variable {H3 : Hp} {s3 : Shared} {fp : List Addr} {N : List Str} {sc : Scope} {ls : List Lm} {j kk i : Nat} {q x f : Str} {ρ0 : En} {RF : Nat -> List W -> Hx -> R W} {p p2 pos : Pos}
theorem zjs (I3 : Inv X pins σ H3 s3) (f3 : ∀ b ∈ fp, FpOk X pins H3 b) (hfn : ∀ x, X.fn x = true) (hl : ∀ t ∈ ls, LmOk X.prog X.w X.K X.mg j q t) (hix : ∀ t ∈ ls, LmIx X t)
  {pins' : List (Addr × Obj)} {σ' : St} {H' : Hp} {s' : Shared} (I' : Inv (cpCx X N sc s3 H3 fp noxe) pins' σ' H' s') :
  Env0 X.prog X.w X.K X.mg (zdj X.base s'.heap X.env.cells) X.A X.stack s' H' /\ ∀ k, zck X.prog X.w X.K X.mg (zdj X.base s'.heap X.env.cells) (j + 1) (PGk X.env q ls σ k) (lamF ls k) := by
 have un : Un (frs X.stack) fp H3 H' s3.heap s'.heap := I'.base
 have bk : ∀ b o, X.base.get? b = some o -> s'.heap.get? b = some o := λ b o e => (show _ from I'.bk b o e)
 have cellk : ∀ y cc, X.env.cells.lookup y = some cc -> ∀ o, s3.heap.get? cc = some o -> s'.heap.get? cc = some o /\ H' cc = none := λ y cc e o ho =>
  have nfp : cc ∉ fp := λ z => (f3 cc z).2.2.2.2.1 y cc e rfl
  ⟨un.keep cc o ho (I3.freeC y cc e) (zh1 I3 hfn e) nfp, un.free cc o ho (I3.freeC y cc e) nfp⟩
 have kb : ∀ b o, X.base.get? b = some o -> (zdj X.base s'.heap X.env.cells).get? b = some o := λ b o e => zfB bk e
 have md : Mod X.K X.mg (zdj X.base s'.heap X.env.cells) := by
  obtain ⟨mb, b1, b2⟩ := I3.mod.blt
  exact ⟨I3.mod.kin.keeps kb, I3.mod.glob.keeps kb, ⟨mb, b1.keeps kb, b2⟩, I3.mod.nolimit.keeps kb⟩
 have bs : ∀ b o, (zdj X.base s'.heap X.env.cells).get? b = some o -> s'.heap.get? b = some o /\ H' b = none := λ b o e => by
  obtain ⟨e1, e2⟩ := zeJ e
  refine ⟨e1, ?_⟩
  rcases e2 with ⟨o', e2⟩ | ⟨y, e2⟩
  ·exact (I'.bs b o' e2).2
  ·obtain ⟨vv, oo, ho, _⟩ := I3.cell y b e2
   exact (cellk y b e2 oo ho).2
 refine ⟨⟨I'.ok.frames, md, bs, Nat.le_of_eq (PySem.W.hideAll_size _ _), frames_at (show s'.heap.FunFrames X.base X.stack from I'.stack) λ b hb => ?_, I'.stkFree, I'.hok, I'.bare⟩,
  λ k => zlR hl (λ t ht vs hvs => ziB I3 (λ y cc v e ⟨o, ho, hd⟩ => ⟨o, zfD e (cellk y cc e o ho).1, hd⟩) (hix t ht) hvs) k⟩
 cases e : (zdj X.base s'.heap X.env.cells).get? b with
 | none => rfl
 | some o =>
  exfalso
  rcases (zeJ e).2 with ⟨o', e2⟩ | ⟨y, e2⟩
  ·have := (I3.stack.mem hb).1
   rw [e2] at this; cases this
  ·exact zh1 I3 hfn e2 hb
theorem zmz (I3 : Inv X pins σ H3 s3) (f3 : ∀ b ∈ fp, FpOk X pins H3 b) (hfn : ∀ x, X.fn x = true) (hl : ∀ t ∈ ls, LmOk X.prog X.w X.K X.mg j q t) (hix : ∀ t ∈ ls, LmIx X t)
  (hR : ∀ base PG, (∀ k, zck X.prog X.w X.K X.mg base (j + 1) (PG k) (lamF ls k)) -> FnM X.prog X.w X.K X.mg base kk f 1 (fRef PG RF)) (hr : Room kk X.A)
  (hi : N[i]? = some x) (hv : Vis (relabel sc X.env) x) (hg : Gl (cpCx X N sc s3 H3 fp noxe) f) (hdx : (x == ("__debug__" : Str)) = false := by decide) (hcx : (x == ("__classdict__" : Str)) = false := by decide) (hdf : (f == ("__debug__" : Str)) = false := by decide)
  (he : starEach [.Name x p2] (cpCx X N sc s3 H3 fp noxe).env = (false, eval (.Name x p2) (cpCx X N sc s3 H3 fp noxe).env) :: starEach [] (cpCx X N sc s3 H3 fp noxe).env := by rfl) (hpl : (backTo pos (starEach [] (cpCx X N sc s3 H3 fp noxe).env)).any (·.1) = false := by rfl) :
  PE (cpCx X N sc s3 H3 fp noxe) (.Call (.Name f p) [.Name x p2] [] pos) (tMg (λ φ H => RE X.K φ H ρ0 σ) X.K xr0 (mEl i (PFk X.env q ls) ls RF ρ0)) := by
 intro pins' s' σ' H' Q I' ⟨φ, A, ρ, S, re, re0, h⟩
 unfold mEl at h
 cases ei : ρ[i]? with
 | none => rw [ei] at h; exact h.elim
 | some ow => cases ow with
  | none => rw [ei] at h; exact h.elim
  | some w0 =>
   rw [ei] at h
   cases w0 with
   | clo k xs P =>
    dsimp only at h
    by_cases hP : P = PFk X.env q ls k
    ·rw [if_pos hP] at h
     subst hP
     cases et : ls[k]? with
     | none => rw [et] at h; exact h.elim
     | some t =>
      rw [et] at h
      dsimp only at h
      cases ec : capE t.idx ρ0 with
      | none => rw [ec] at h; exact h.elim
      | some ws =>
       rw [ec] at h
       dsimp only at h
       obtain ⟨v, hv1, a, ob, u, c, oc, uc, vs0, rfl, g1, g2, ⟨t', et', gp⟩, _⟩ := re.get i _ ei
       rw [et] at et'; cases et'
       obtain ⟨vs, cv, rv⟩ := zfa re0 ec
       obtain ⟨fa, fd, ps, F, hm, hk, hb⟩ := hR _ _ (zjs I3 f3 hfn hl hix I').2
       refine wpAny_Call_Name_kw (zd2 I' hg hm ?_ hdf)
       refine PySem.W.callWith_K (h₀ := X.base) I3.mod.kin hk (thn (zar (zlS (X := cpCx X N sc s3 H3 fp noxe) hi hv hdx hcx) zbh he pos pins' s' σ' H' (λ vs' H1 => vs' = [.ref a] /\ H1 = H') I' ⟨.ref a, hv1, rfl, rfl⟩) λ us s1 ⟨vs', H1, I1, r1, ev, eh⟩ => ⟨I1.kIn, ?_⟩) he hpl
       subst ev
       subst eh
       obtain ⟨e0, hL⟩ := zjs I3 f3 hfn hl hix I1
       obtain ⟨fa', fd', ps', F', hm', hk', hb'⟩ := hR _ _ hL
       rw [hm] at hm'
       cases hm'
       have hsp : spM X.K 1 (fRef (PGk X.env q ls σ) RF) [.ref a] H1 Q E0 := by
        refine ⟨rfl, φ, A, [.clo k ws (PGk X.env q ls σ k)], S, .one ⟨a, ob, u, c, oc, uc, vs, rfl, g1, g2, ⟨t, et, gp, cv⟩, rv⟩, ?_⟩
        unfold fRef
        dsimp only
        rw [if_pos rfl]
        exact zS h (λ _ _ z => z) λ y A2 z φ2 H2 l2 S2 => (z φ2 H2 l2 S2).elim
       have hln := F'.len _ _ _ _ hsp
       have hu : us.length = ps'.length := by rw [<- r1.length]; exact hln
       refine wpAny_call (codeAny_mono (F'.run X.A X.stack s1 H1 ⟨[] ++ us, []⟩ us [.ref a] Q E0 hr e0 ?_ r1 hsp) λ r s2 hq => ?_)
       ·have := hb' s1 us (show _ from I1.kIn) (by rw [List.append_nil]; exact hu)
        rw [List.append_nil] at this
        exact this
       ·cases r with
        | error e => exact False.elim hq
        | ok fl =>
         cases fl with
         | ret u1 => exact I1.after hq
         | next => exact False.elim hq
         | brk => exact False.elim hq
         | cont => exact False.elim hq
    ·rw [if_neg hP] at h; exact h.elim
   | _ => exact h.elim
end
end Mi
namespace Mi
open PySem PySem.Spec PyProof.Rows L2
noncomputable def zhP (nl : Nat) (mi : Ei) (tw : Tg) (i : Nat) (PF : PFam) (ls : List Lm) (RF : Nat -> List W -> Hx -> R W) : Eq' := λ ρ A => zT nl [] mi tw (mLit (.bl true)) (zN (mEl i PF ls RF ρ)) ρ A
section
variable {X : Cx} {xr : XR} {N : List Str} {sc : Scope} {ls : List Lm} {j kk i nl : Nat} {q x f : Str} {RF : Nat -> List W -> Hx -> R W} {p p2 p3 p4 pos : Pos} {iter : Expr} {mi : Ei} {tw : Tg}
theorem zhT (hfn : ∀ x, X.fn x = true) (hl : ∀ t ∈ ls, LmOk X.prog X.w X.K X.mg j q t) (hix : ∀ t ∈ ls, LmIx X t)
  (hR : ∀ base PG, (∀ k, zck X.prog X.w X.K X.mg base (j + 1) (PG k) (lamF ls k)) -> FnM X.prog X.w X.K X.mg base kk f 1 (fRef PG RF)) (hr : Room kk X.A) (hc : X.calm = true) (S : zbt X sc) (hcap : zeZ X.N N sc nl [] = true) (hw : SI X xr (.Name x p4) iter mi)
  (hgt : ∀ s H fp, SG (cpCx X N sc s H fp noxe) (.Name x p4) tw) (hi : N[i]? = some x) (hv : Vis (relabel sc X.env) x) (hg : ∀ s H fp, Gl (cpCx X N sc s H fp noxe) f) (hdx : (x == ("__debug__" : Str)) = false := by decide) (hcx : (x == ("__classdict__" : Str)) = false := by decide) (hdf : (f == ("__debug__" : Str)) = false := by decide)
  (he : ∀ env : Env, starEach [.Name x p2] env = (false, eval (.Name x p2) env) :: starEach [] env := by intro _; rfl) (hpl : ∀ env : Env, (backTo p3 (starEach [] env)).any (·.1) = false := by intro _; rfl)
  (hs : ∀ x, foldedSetIterable iter X.env x = pure x := by intro _; rfl) :
  SE X xr (.ListComp (.Call (.Name f p) [.Name x p2] [] p3) [⟨.Name x p4, iter, [], 0⟩] sc pos) (zb7 (zhP nl mi tw i (PFk X.env q ls) ls RF)) := by
 intro pins s σ H Q I h
 obtain ⟨φ, A, ρ, Sm, re, h⟩ := zb7.read σ H Q h
 rw [eval_ListComp]
 refine zib (use := none) (N := N) (nl := nl) (cap := []) (wi := tI X.K xr mi) (g := tG X.K tw) (ti := tT X.K xr0 (mLit (.bl true))) (tm := tEg (λ φ H => RE X.K φ H ρ σ) X.K (zN (mEl i (PFk X.env q ls) ls RF ρ))) hc S hcap (λ g' z => by cases z) hw
  (λ s3 H3 fp I3 f3 => ⟨hgt s3 H3 fp, zav, zmk (λ _ _ z => z) (zmz I3 f3 hfn hl hix hR hr hi hv (hg s3 H3 fp) hdx hcx hdf (he _) (hpl _)) rfl⟩) I (Q := Q) ?T (λ D C s' H' m I' q hn h1 h2 h3 h4 h5 => ?_) hs
 case T =>
  refine ⟨φ, A, ρ, Sm, re, zS (zM.mp h) (λ jt A1 h1 φ1 H1 J l1 S1 jr D hD hK => ?_) λ _ _ z => z⟩
  have ln : Le X.K φ1 H1 φ1 (upd H1 D (.lst [])) := Le.new hD
  have h1' := zM.mp h1
  refine emGo.readG (λ φ H φ' H' l g => RE.monoW g l) (re.mono (l1.trans ln)) (jr.mono ⟨ln.ex, ln.tp, ln.fz⟩) (S1.lay hD) ((re.mono (l1.trans ln)).ncap) zal (S1.notin hD hK) .nil ?_ (f := jt.len) (acc := [])
  cases er : emGo jt tw (mLit (.bl true)) (zN (mEl i (PFk X.env q ls) ls RF ρ)) jt.len 0 (zf3 nl [] ρ) [] A1 with
  | ok p A2 =>
   rw [er] at h1'
   intro φ2 H2 σ2 zs l2 n2 S2 re2 d2 r2
   have l02 := l1.trans (Le.ofD hD l2)
   exact h1' φ2 H2 D zs l02 S2 (l1.st D hD) d2 n2 r2
  | exc x A2 => rw [er] at h1'; exact h1'.elim
  | bad => rw [er] at h1'; exact h1'.elim
 ·exact ⟨m, hn, λ h' sb => ⟨.ref D, H', I'.turned (t' := s'.toks) (λ b o hb e => (sb.2 b hb).trans e) h1 h2 (.inr h3) h4 h5, rfl, q⟩⟩
end
end Mi
namespace Mi
open PySem PySem.Spec PyProof.Rows L2
theorem zkl {P : Program} {w : World} {K : Frag} {mg mb : Str -> Option Value} {k : Nat} {fa a Pt : Addr} {fd : FuncData} {x : Str} {sp : Sp} {s₁ : Shared} {vs : List Value} {ns : List Int}
  (KX : K.In s₁.heap) (hns : s₁.heap.Ns mainGlobals mg) (hb : s₁.heap.Ns builtinsNs mb) (hbb : ∀ x : Str, x ≠ "__name__" -> mb x = bootBuiltins x) (hlim : s₁.heap.NoLimit) (hg : s₁.gens = #[])
  (ha : s₁.heap.get? a = some { cls := .type "list", data := .seq vs.toArray }) (hi : IntsAre vs ns) (hl : ns.length <= sizeLine) (hr : Room k callerA)
  (hPt : s₁.heap.get? Pt = some (PySem.W.tabObj #[])) (hKP : K.lookup Pt = none) (hct : isCodeTable s₁.heap Pt) (hbm : BMain mg s₁.heap)
  (F : ∀ base : Heap, K.In base -> base.Ns mainGlobals mg -> BMain mg base -> FnOk P w K mg base CX0 k fa fd [x] sp) (hbind : ∀ (s : Shared) (u : Value), BindsTo s fd ⟨[u], []⟩ [(x, u)])
  (hsp : ∀ H : Hp, H Pt = some (.tbl #[]) -> SqR K H a (ns.map V.int) -> sp [.ref a] H (λ v _ => v = .bl true) λ _ _ _ => False) :
  codeAny (model P w) callerA (.call (.ref fa) ⟨[.ref a], []⟩) (λ r s' => r = .ok (.ret (.bool true)) /\ OldK s₁.heap s'.heap /\ s'.os = s₁.os /\ AllBare s'.gens) s₁ := by
 have rv := zhk hi
 have lenV := hi.length
 have naP : a ≠ Pt := λ z => by rw [z, hPt] at ha; cases ha
 have core : ∀ H : Hp, H Pt = some (.tbl #[]) -> SqR K H a (ns.map V.int) -> HOk P w H s₁.heap -> (∀ b, H b ≠ none -> b = a ∨ b = Pt) -> (∀ u, H a = some u -> K.lookup a = none /\ ∃ o xs, u = .frz o (.lst xs)) ->
   codeAny (model P w) callerA (.call (.ref fa) ⟨[.ref a], []⟩) (λ r s' => r = .ok (.ret (.bool true)) /\ OldK s₁.heap s'.heap /\ s'.os = s₁.os /\ AllBare s'.gens) s₁ := by
  intro H hO hS hok hA hK
  have base_of : ∀ {b : Addr} {o : Obj}, s₁.heap.get? b = some o -> H b = none -> (hidT s₁.heap H).get? b = some o := λ e n => zk0 e n
  have noA : ∀ {b : Addr} {o : Obj} {es : Array DictEntry} {ep : Nat}, s₁.heap.get? b = some o -> o.data = .dict es ep -> H b = none := λ {b o es ep} e d => by
   cases q : H b with
   | none => rfl
   | some u =>
    rcases hA b (by rw [q]; simp) with z | z
    ·subst z
     rw [ha] at e; cases e
     have d' : Data.seq vs.toArray _ = Data.dict es ep := d
     cases d'
    ·subst z
     rw [hPt] at e; cases e
     cases d
  have nsK : ∀ {b : Addr} {m : Str -> Option Value}, s₁.heap.Ns b m -> (hidT s₁.heap H).Ns b m := λ {b m} ⟨o, es, ep, e, d, r⟩ => ⟨o, es, ep, base_of e (noA e d), d, r⟩
  have hKb : K.In (hidT s₁.heap H) := λ b o e => base_of (KX b o e) (by
   cases q : H b with
   | none => rfl
   | some u =>
    rcases hA b (by rw [q]; simp) with z | z
    ·subst z
     rw [(hK u q).1] at e; cases e
    ·subst z
     rw [hKP] at e; cases e)
  have hBb : BMain mg (hidT s₁.heap H) := by
   obtain ⟨bm, o, b1, b2, b3, b4, b5, b6, b7⟩ := hbm
   refine ⟨bm, o, b1, b2, b3, base_of b4 ?_, b5, b6, b7⟩
   cases q : H bm with
   | none => rfl
   | some u =>
    rcases hA bm (by rw [q]; simp) with z | z
    ·subst z
     rw [ha] at b4; cases b4
     exact absurd b5 (by intro q; injection q with q; exact absurd q (by decide))
    ·subst z
     rw [hPt] at b4; cases b4; cases b5
  have hM : Mod K mg (hidT s₁.heap H) := ⟨hKb, nsK hns, ⟨mb, nsK hb, hbb⟩, let ⟨mc, h1, h2⟩ := hlim; ⟨mc, nsK h1, h2⟩⟩
  have e0 : Env0 P w K mg (hidT s₁.heap H) callerA [] s₁ H := ⟨rfl, hM, λ b o e => zmp e, Nat.le_of_eq (zkd _ _), trivial, λ b hb => absurd (show b ∈ ([] : List Addr) from hb) (by simp), hok, .of_eq hg⟩
  refine codeAny_mono ((F _ hKb (nsK hns) hBb).run callerA [] s₁ H ⟨[.ref a], []⟩ [.ref a] [.ref a] _ _ hr e0 (hbind s₁ (.ref a)) (.cons rfl .nil) (hsp H hO hS)) λ r s' h => ?_
  cases r with
  | error e => exact False.elim h
  | ok fl =>
   cases fl with
   | next => exact False.elim h
   | brk => exact False.elim h
   | cont => exact False.elim h
   | ret u =>
    obtain ⟨v, H', os, bare, un, hok', r', q⟩ := h
    have q' : v = .bl true := q
    subst q'
    obtain rfl : u = Value.bool true := r'
    refine ⟨rfl, ⟨λ b o e => ?_, λ b o e => un.there b o e (by simp)⟩, os, bare⟩
    cases q : H b with
    | none => exact .inl (un.keep b o e q (by intro z; exact absurd (show b ∈ ([] : List Addr) from z) (by simp)) (by simp))
    | some u =>
     rcases hA b (by rw [q]; simp) with z | z
     ·subst z
      obtain ⟨ob, xs, rfl⟩ := (hK u q).2
      have z2 := un.frzs _ ob _ q
      obtain ⟨e1, _⟩ := hok _ _ q
      obtain ⟨e2, _⟩ := hok' _ _ z2
      rw [e] at e1; cases e1
      exact .inl e2
     ·subst z
      rw [hPt] at e; cases e
      obtain ⟨more, z2⟩ := un.tbls _ _ hO
      exact .inr (.inl ⟨hct, rfl, #[], more, rfl, hok' _ _ z2⟩)
 cases hk : K.lookup a with
 | some o =>
  have e := KX a o hk
  rw [ha] at e
  cases e
  refine core (λ b => if b = Pt then some (.tbl #[]) else none) (if_pos rfl) (.inr ⟨_, vs.toArray, _, hk, rfl, rfl, rfl, by rw [List.size_toArray, lenV]; exact hl, by simpa using rv⟩) (λ b u z => ?_) (λ b z => ?_) λ u z => ?_
  ·by_cases hb : b = Pt
   ·have z' := (if_pos hb).symm.trans z
    cases z'
    rw [hb]
    exact hPt
   ·have z' := (if_neg hb).symm.trans z
    cases z'
  ·by_cases hb : b = Pt
   ·exact .inr hb
   ·exact absurd (if_neg hb) z
  ·have z' := (if_neg naP).symm.trans z
   cases z'
 | none =>
  refine core (λ b => if b = Pt then some (.tbl #[]) else if b = a then some (.frz { cls := .type "list", data := .seq vs.toArray } (.lst (ns.map V.int))) else none) (if_pos rfl)
   (.inl ⟨{ cls := .type "list", data := .seq vs.toArray }, (if_neg naP).trans (if_pos rfl)⟩) (λ b u z => ?_) (λ b z => ?_) λ u z => ?_
  ·by_cases hb : b = Pt
   ·have z' := (if_pos hb).symm.trans z
    cases z'
    rw [hb]
    exact hPt
   ·have z' := (if_neg hb).symm.trans z
    by_cases hb2 : b = a
    ·have z2 := (if_pos hb2).symm.trans z'
     cases z2
     subst hb2
     exact ⟨ha, by rw [List.length_map]; exact hl, vs, _, rv, ha⟩
    ·have z2 := (if_neg hb2).symm.trans z'
     cases z2
  ·by_cases hb : b = Pt
   ·exact .inr hb
   ·by_cases hb2 : b = a
    ·exact .inl hb2
    ·exact absurd ((if_neg hb).trans (if_neg hb2)) z
  ·have z' := ((if_neg naP).trans (if_pos rfl)).symm.trans z
   cases z'
   exact ⟨hk, _, _, rfl⟩
inductive spT (K : Frag) (n : Nat) (fs : PFam -> Fn) (vs : List V) (H : Hp) (Q : VK) (E : XK) : Prop
 | mk (len : vs.length = n) (φ : List Addr) (A : Hx) (ws : List W) (S : Sim K φ A H) (r : RVs K φ H ws vs) (q : ∀ PF, (fs PF ws A).post (PB K φ H Q) (EB K φ H (XE K E)))
theorem spT.len {K : Frag} {n : Nat} {fs : PFam -> Fn} {vs : List V} {H : Hp} {Q : VK} {E : XK} (h : spT K n fs vs H Q E) : vs.length = n := by cases h; assumption
noncomputable def zlA (q : Str) (fs : Addr -> PFam -> Fn) : Prop := ∀ ns : List Int, ns.length <= 63 -> ∀ Pt PF, ∃ A, fs Pt PF [.ref 0] [.ro (ns.map W.int), .tab q Pt] = .ok (.bl true) A
theorem zi2 {K : Frag} {H : Hp} {a Pt : Addr} {q : Str} {ns : List Int} (hP : H Pt = some (.tbl #[])) (hS : SqR K H a (ns.map V.int)) : Sim K [a, Pt] [.ro (ns.map W.int), .tab q Pt] H := by
 refine ⟨rfl, λ i j b o o' h1 h2 h3 h4 m1 m2 => ?_, λ n o h => ?_⟩
 ·match i, j, h3, h4 with
  | 0, _, h3, _ => simp at h3; subst h3; cases m1
  | _, 0, _, h4 => simp at h4; subst h4; cases m2
  | 1, 1, _, _ => rfl
  | i + 2, _, h3, _ => simp at h3
  | _, j + 2, _, h4 => simp at h4
 ·match n, h with
  | 0, h => simp at h; subst h; exact ⟨a, rfl, ns.map V.int, hS, RVs.ints.mpr rfl⟩
  | 1, h => simp at h; subst h; exact ⟨Pt, rfl, rfl, #[], hP, trivial, λ pos cv e => nomatch e⟩
  | n + 2, h => simp at h
section
variable {P : Program} {w : World} {K : Frag} {mg : Str -> Option Value} {base : Heap}
theorem zk2 {x : Str} {f c Pt : Addr} {oc : Value} {od : Option Addr} {fd : FuncData} {osl : Array (Option Value)} (hn : PySem.W.nsIn K mainGlobals x = some (some (.ref f))) (lk : K.lookup f = some ⟨oc, od, .func fd, osl⟩) (ht : PySem.W.tabIn K x = some (c, Pt)) : fd.code = .ref c := by
 unfold PySem.W.tabIn at ht
 rw [hn] at ht
 dsimp only at ht
 rw [lk] at ht
 dsimp only at ht
 split at ht
 ·rename_i c2 hc
  split at ht
  ·split at ht
   ·cases ht; exact hc
   ·cases ht
  ·cases ht
 ·cases ht
theorem fnT {x q : Str} {st : Stmt} {f c Pt : Addr} {fd : FuncData} {N ps : List Str} {k : Nat} {ls : List Lm} {m : PFam -> Ex} (F : Fun K x x st f fd) (hn : PySem.W.nsIn K mainGlobals x = some (some (.ref f))) (ht : PySem.W.tabIn K x = some (c, Pt)) (S : zai N ps (zO st))
  (hbody : ∀ (A : Around) (outer : List Env) (s : Shared) (H : Hp) (E : XK), Room k (A.deeper (envOfC x (zO st) s.heap.objs.size f (.ref c))) ->
   SSs (cxOf CX0 P w K mg base N x (zO st) f (.ref c) A outer s H E).nox xr0 (zaG st) (m (PFk (envOfC x (zO st) s.heap.objs.size f (.ref c)) q ls))) :
  FnOk P w K mg base CX0 (k + 1) f fd ps (spT K ps.length λ PF => runB N.length (m PF)) := by
 obtain ⟨oc, od, kV, doc, pm, an, cdv, ct, osl, rfl, lk, hcd⟩ := F.ex
 have hcv : cdv = .ref c := zk2 hn lk ht
 subst hcv
 refine zmL lk hcd S (λ vs H Q E h => h.len) λ A outer s H vs Q E hr ⟨hl, φ, A1, ws, Sm, r, h⟩ => ⟨_, PSs.nox (hbody A outer s H E hr), ?_⟩
 refine ⟨φ, A1, ws.map some ++ List.replicate (N.length - ws.length) none, Sm, RE.start r, ?_⟩
 have h' := zM.mp (h (PFk (envOfC x (zO st) s.heap.objs.size f (.ref c)) q ls))
 show R.post _ (FB K φ H _) _
 cases er : m (PFk (envOfC x (zO st) s.heap.objs.size f (.ref c)) q ls) (ws.map some ++ List.replicate (N.length - ws.length) none) A1 with
 | ok fl A2 =>
  rw [er] at h'
  cases fl with
  | rt w => exact h'
  | nx ρ => exact λ φ' H' σ' l S' _ => h' φ' H' .non l S' rfl
  | bk ρ => exact h'.elim
  | ct ρ => exact h'.elim
 | exc y A2 => rw [er] at h'; exact h'.elim
 | bad => rw [er] at h'; exact h'.elim
end
noncomputable def zkg (K : Frag) (x : Str) (Pt : Addr) : Bool := match PySem.W.tabIn K x with
 | some (c, P) => P == Pt && PySem.W.codeHdIn K c Pt
 | none => false
theorem zg6 {K : Frag} {x : Str} {Pt : Addr} (h : zkg K x Pt = true) : ∃ c, PySem.W.tabIn K x = some (c, Pt) /\ PySem.W.codeHdIn K c Pt = true := by
 unfold zkg at h
 split at h
 ·rename_i c P e
  rw [Bool.and_eq_true, beq_iff_eq] at h
  obtain ⟨rfl, h2⟩ := h
  exact ⟨c, e, h2⟩
 ·cases h
theorem zpB {l : PySem.W.OpenLaw} {k : Nat} {q : Program} {loose : List Str} {XP : (Str -> Option Value) -> Heap -> Prop} {YP : World -> Heap -> Prop} {d : DefRec} {Kp : Params -> Frag} {x qn : Str} {fs : Addr -> PFam -> Fn} {Pt : Addr} (ok : zlA qn fs)
  (hn : l.most = some 63) (hdf : d.params.defaults = []) (hr : Room k callerA) (hY : ∀ (w : World) (h : Heap), YP w h -> (Kp w.params).In h) (hT : ∀ (w : World) (h : Heap), YP w h -> h.get? Pt = some (PySem.W.tabObj #[])) (ht : ∀ p, zkg (Kp p) d.name Pt = true) (hKP : ∀ p, (Kp p).lookup Pt = none)
  (F : ∀ (w : World) (mg : Str -> Option Value) (fa : Addr) (h : Heap), (Kp w.params).In h -> h.Ns mainGlobals mg -> mg d.name = some (.ref fa) -> (∃ c, PySem.W.tabIn (Kp w.params) d.name = some (c, Pt) /\ PySem.W.codeHdIn (Kp w.params) c Pt = true) ->
   ∃ fd : FuncData, (∀ (s : Shared) (u : Value), BindsTo s fd ⟨[u], []⟩ [(x, u)]) /\ ∀ base : Heap, (Kp w.params).In base -> base.Ns mainGlobals mg -> BMain mg base -> FnOk l.prog w (Kp w.params) mg base CX0 k fa fd [x] (spT (Kp w.params) 1 (fs Pt))) :
  PySem.W.WalkO q loose XP YP l.row.toRowW d [] (λ f vs => PySem.call f vs) := by
 refine Att.zh6 (n := 63) hn hdf λ w s₀ s₁ mg mb fa o pm cd doc a vs ns G Y ho hd hcd' hmg hobj hints hlen hg => ?_
 have KX := hY w _ Y
 obtain ⟨fd, hb, hF⟩ := F w mg fa _ KX G.T.g hmg (zg6 (ht w.params))
 obtain ⟨c, _, hcd⟩ := zg6 (ht w.params)
 have hP := hT w _ Y
 have hc : isCodeTable s₁.heap Pt := ((PySem.W.codeHd_of_K KX hcd).tab hP).isCodeTable
 have hbm : BMain mg s₁.heap := by
  obtain ⟨bm, ob, b1, b2, b3, b4, b5, b6⟩ := G.T.bmain
  refine ⟨bm, ob, b1, b2, λ z => ?_, b3, b4, b5, b6⟩
  obtain ⟨o, es, ep, e, hd, _⟩ := G.T.g
  rw [z, e] at b3; cases b3; rw [hd] at b6; cases b6
 refine zkl KX G.T.g G.T.b G.T.builtins G.T.nolimit hg hobj hints (Nat.le_trans hlen (by decide)) hr hP (hKP w.params) hc hbm hF hb λ H h1 h2 => ?_
 refine ⟨rfl, [a, Pt], [.ro (ns.map W.int), .tab qn Pt], [.ref 0], zi2 h1 h2, .one ⟨a, rfl, rfl⟩, λ PF => ?_⟩
 obtain ⟨A, e⟩ := ok ns hlen Pt PF
 rw [e]
 exact λ φ' H' v _ _ r => r
end Mi
namespace Mi
open PySem PySem.Spec PyProof.Rows L2
theorem FnX.mono {P : Program} {w : World} {K : Frag} {mg : Str -> Option Value} {base : Heap} {j k n : Nat} {x : Str} {f : Fn} (F : FnX P w K mg base j x n f) (h : j <= k) : FnX P w K mg base k x n f := by cases F with | mk fa fd ps F a b c => exact ⟨fa, fd, ps, F.mono h, a, b, c⟩
noncomputable abbrev bmV : List Value := [.type "ValueError", .type "Exception", .type "BaseException", .type "object"]
noncomputable abbrev newV : String := "ValueError.__new__"
section
variable {K : Frag} {cs : List Str} {top x nm : Str}
noncomputable def clsAt (K : Frag) (x : Str) : Addr := match PySem.W.nsIn K mainGlobals x with
 | some (some (.ref C)) => C
 | _ => 0
noncomputable def isAt (K : Frag) (x : Str) : Bool := PySem.W.nsIn K mainGlobals x == some (some (.ref (clsAt K x)))
noncomputable def isF (cs : List Str) (x : Str) : Str -> Option Bool := λ nm => if cs.contains nm then some (nm == x) else none
noncomputable def isV (cs : List Str) : Str -> Option Bool := λ nm => if cs.contains nm then some true else none
noncomputable def zV (K : Frag) (cs : List Str) (x : Str) : Bool := isAt K x && PySem.W.kitOne K (.type "NoneType") (.ref (clsAt K x)) == some false && cs.all λ nm => PySem.W.kitOne K (.ref (clsAt K nm)) (.ref (clsAt K x)) == some (nm == x)
noncomputable def ziA (K : Frag) (top nm : Str) : Bool := isAt K nm && zgF K (clsAt K nm) && Mi.excB K (clsAt K nm) bmV newV && upIn K (clsAt K nm) (clsAt K top) && PySem.W.kitOne K (.ref (clsAt K nm)) (.type "ValueError") == some true
noncomputable def zjt (K : Frag) (top : Str) : Bool := isAt K top && Mi.excB K (clsAt K top) bmV newV && PySem.W.kitOne K (.type "NoneType") (.type "ValueError") == some false
theorem zhV (h : isAt K x = true) : zbW K x (.ref (clsAt K x)) := beq_iff_eq.mp h
theorem zgu {C : Addr} (h : zbW K x (.ref C)) : C = clsAt K x := by
 unfold clsAt
 unfold zbW at h
 rw [h]
structure zeI (K : Frag) (top nm : Str) : Prop where
 at_ : zbW K nm (.ref (clsAt K nm))
 kit : zgF K (clsAt K nm) = true
 exc : Mi.excB K (clsAt K nm) bmV newV = true
 up : upIn K (clsAt K nm) (clsAt K top) = true
 val : PySem.W.kitOne K (.ref (clsAt K nm)) (.type "ValueError") = some true
theorem znB (h : ziA K top nm = true) : zeI K top nm := by
 unfold ziA at h
 simp only [Bool.and_eq_true, beq_iff_eq] at h
 obtain ⟨⟨⟨⟨h1, h2⟩, h3⟩, h4⟩, h5⟩ := h
 exact ⟨zhV h1, h2, h3, h4, h5⟩
structure Cls (K : Frag) (cs : List Str) (top : Str) : Prop where
 exc : ∀ nm, cs.contains nm = true -> zeI K top nm
 top_at : zbW K top (.ref (clsAt K top))
 top_exc : Mi.excB K (clsAt K top) bmV newV = true
 non : PySem.W.kitOne K (.type "NoneType") (.type "ValueError") = some false
theorem zoD (h : cs.all (ziA K top ·) = true) (t : zjt K top = true) : Cls K cs top := by
 unfold zjt at t
 simp only [Bool.and_eq_true, beq_iff_eq] at t
 obtain ⟨⟨t1, t2⟩, t3⟩ := t
 exact ⟨λ nm e => znB (List.all_eq_true.mp h nm (List.contains_iff_mem.mp e)), zhV t1, t2, t3⟩
theorem Cls.isx (c : Cls K cs top) (h : zV K cs x = true) : zh4 K (isF cs x) (.ref (clsAt K x)) := by
 unfold zV at h
 simp only [Bool.and_eq_true, beq_iff_eq] at h
 obtain ⟨⟨h1, h2⟩, h3⟩ := h
 refine ⟨h2, λ nm C b e hc => ?_⟩
 unfold isF at e
 by_cases hm : cs.contains nm = true
 ·rw [if_pos hm] at e
  cases e
  cases zgu hc
  exact ⟨(c.exc nm hm).kit, beq_iff_eq.mp (List.all_eq_true.mp h3 nm (List.contains_iff_mem.mp hm))⟩
 ·rw [if_neg hm] at e; cases e
theorem zbk (h : zV K cs x = true) : zbW K x (.ref (clsAt K x)) := by
 unfold zV at h
 simp only [Bool.and_eq_true, beq_iff_eq] at h
 exact zhV h.1.1
theorem Cls.isv (c : Cls K cs top) : zh4 K (isV cs) (.type "ValueError") := by
 refine ⟨c.non, λ nm C b e hc => ?_⟩
 unfold isV at e
 by_cases hm : cs.contains nm = true
 ·rw [if_pos hm] at e
  cases e
  cases zgu hc
  exact ⟨(c.exc nm hm).kit, (c.exc nm hm).val⟩
 ·rw [if_neg hm] at e; cases e
theorem Cls.under (c : Cls K cs top) : ∀ nm, cs.contains nm = true -> ∀ C, zbW K nm (.ref C) -> ∃ bmC newC, Mi.excB K C bmC newC = true /\ upIn K C (clsAt K top) = true := λ nm hm C hc => by
 cases zgu hc
 exact ⟨_, _, (c.exc nm hm).exc, (c.exc nm hm).up⟩
end
section
variable {X : Cx} {g : Heap} {xr : XR} {e : Expr} {es : List Expr} {mr : Ea} {x top : Str} {np cpos pos : Pos} {n : Nat}
theorem zdL (xo : XeOk X g xr) (c : zeI X.K top x) (ha : SA X xr (e :: es) mr) (hl : ALen mr n) (hn : n <= sizeLine := by decide) (hg : Gl X x := by rfl) (hcalm : X.calm = true := by rfl)
  (hdb : (x == ("__debug__" : Str)) = false := by decide) (he : starEach (e :: es) X.env = (false, eval e X.env) :: starEach es X.env := by rfl) (hpl : (backTo cpos (starEach es X.env)).any (·.1) = false := by rfl) :
  SS X xr (.Raise (some (.Call (.Name x np) (e :: es) [] cpos)) none pos) (zg0 x mr) := zkV xo c.at_ c.exc PySem.F.excBase_ValueError ha hl hn hg hcalm hdb he hpl
end
section
variable {X : Cx} {xr : XR} {e : Expr} {es : List Expr} {m : Ev} {ms : List Ev}
end
end Mi
namespace Mi
open PySem PySem.Spec PyProof.Rows L2
noncomputable def zlx (M : List Str) (sc : Scope) (t : Lm) : Bool := t.idx.length == t.N.length && ((List.range t.N.length).all λ i => match t.N[i]?, t.idx[i]? with
 | some x, some j => M[j]? == some x && t.scope.names.lookup x == some .free
 | _, _ => false) && t.scope.names.all λ y => !(y.2 == .free) || (sc.names.lookup y.1 == some .cell || sc.names.lookup y.1 == some .free)
theorem zaR {X : Cx} {t : Lm} (h : zlx X.N X.env.scope t = true) : LmIx X t := by
 unfold zlx at h
 rw [Bool.and_eq_true, Bool.and_eq_true] at h
 obtain ⟨⟨h1, h2⟩, h3⟩ := h
 refine ⟨beq_iff_eq.mp h1, λ i x j e1 e2 => ?_, λ y hy e => ?_⟩
 ·have hi : i < t.N.length := (List.getElem?_eq_some_iff.mp e1).1
  have q := List.all_eq_true.mp h2 i (List.mem_range.mpr hi)
  rw [e1, e2] at q
  dsimp only at q
  rw [Bool.and_eq_true] at q
  exact ⟨beq_iff_eq.mp q.1, beq_iff_eq.mp q.2⟩
 ·have q := List.all_eq_true.mp h3 y hy
  rw [e] at q
  rw [Bool.or_eq_true, Bool.or_eq_true] at q
  rcases q with q | q | q
  ·cases q
  ·exact .inl (beq_iff_eq.mp q)
  ·exact .inr (beq_iff_eq.mp q)
theorem all_nil {α : Type} {p : α -> Prop} : ∀ t ∈ ([] : List α), p t := λ _ h => nomatch h
theorem all_cons {α : Type} {p : α -> Prop} {a : α} {l : List α} (h : p a) (r : ∀ t ∈ l, p t) : ∀ t ∈ a :: l, p t := λ t ht => by
 rcases List.mem_cons.mp ht with e | e
 ·rw [e]; exact h
 ·exact r t e
theorem zoF {env : Env} {q : Str} {ls : List Lm} {k : Nat} {t : Lm} (ht : ls[k]? = some t) : PFk env q ls k = PLam q t.params t.body t.scope (zbB env t.scope.names []) := by
 funext ob c oc vs
 refine propext ⟨λ ⟨t', e, h⟩ => ?_, λ h => ⟨t, ht, h⟩⟩
 rw [ht] at e
 cases e
 exact h
section
variable {X : Cx} {xr : XR} {n k : Nat} {q : Str} {Pt c : Addr} {ls : List Lm} {t : Lm} {pos : Pos}
theorem zc5 (ht : ls[k]? = some t) (L : zlx X.N X.env.scope t = true) (hB : BMain X.mg X.base) (hcode : X.env.code = .ref c) (C : PySem.W.CodeHd X.base c Pt) (hq : X.env.qual ++ "<lambda>" = q) (hdef : defaultsOf t.params X.env = ([], [])) :
  SE X xr (.Lambda t.params t.body t.scope pos) (mLam n q Pt k (PFk X.env q ls k)) := by
 intro pins s σ H Q I h
 rw [zoF ht] at h
 exact zoB hB hcode C (zfH λ y hy e => I.ok.has _ ((zaR L).free y hy e)) hq hdef pins s σ H Q I h
end
noncomputable def zdo : Stmt := .Pass ⟨0, 0, 0, 0⟩
noncomputable def zgP : Expr := .Constant .none 0 ⟨0, 0, 0, 0⟩
noncomputable def subS (s : Stmt) (i : Nat) : Stmt := match s with
 | .For _ _ b _ _ => b.getD i zdo
 | .If _ b _ _ => b.getD i zdo
 | .While _ b _ _ => b.getD i zdo
 | _ => zdo
noncomputable def valS (s : Stmt) : Expr := match s with
 | .Assign _ v _ => v
 | .Expr v _ => v
 | .Return (some v) _ => v
 | _ => zgP
noncomputable def argE (e : Expr) (i : Nat) : Expr := match e with
 | .Call _ a _ _ => a.getD i zgP
 | .List es _ => es.getD i zgP
 | .Tuple es _ _ => es.getD i zgP
 | .BinOp a _ b _ => if i = 0 then a else b
 | _ => zgP
noncomputable def lamP (e : Expr) : Arguments := match e with
 | .Lambda a _ _ _ => a
 | _ => { posonlyargs := [], args := [], vararg := none, kwonlyargs := [], kw_defaults := [], kwarg := none, defaults := [] }
noncomputable def lamB (e : Expr) : Expr := match e with
 | .Lambda _ b _ _ => b
 | _ => zgP
noncomputable def lamS (e : Expr) : Scope := match e with
 | .Lambda _ _ s _ => s
 | _ => { kind := .function, names := [], isGenerator := false, isCoroutine := false }
noncomputable def lmOf (e : Expr) (N : List Str) (idx : List Nat) (m : Ev) : Lm := ⟨N, idx, lamP e, lamB e, lamS e, m⟩
end Mi
namespace Mi
open PySem PySem.Spec PyProof.Rows L2
theorem zpe {P : Program} {w : World} {K : Frag} {mg : Str -> Option Value} {base : Heap} {x : Str} {st : Stmt} {f : Addr} {fd : FuncData} {ps : List Str} {k : Nat} (F : Fun K x x st f fd) (hm : mg x = some (.ref f))
  (hb : ∀ (kV doc pm : Value) (an : Option Addr) (cdv ct : Value) (us : List Value), us.length = ps.length -> bindArgs (PySem.W.fnOf x x (zb5 st) (zaG st) (zO st) .none kV doc pm an cdv ct) ⟨us, []⟩ = pure (ps.zip us)) : FnM P w K mg base k x ps.length (λ _ _ => .bad) :=
 ⟨f, fd, ps, ⟨λ vs H Q E h => h.1, λ A outer s H args us vs Q E _ _ _ _ h => by obtain ⟨_, _, _, _, _, _, z⟩ := h; exact z.elim⟩, hm, F.kp, F.binds hb⟩
end Mi
namespace Mi
open PySem PySem.Spec PyProof.Rows L2
theorem zms {K : Frag} (t a b : Ty) : PySem.W.kitAny K (.type t.nm) [.type a.nm, .type b.nm] = some (subT t a || subT t b) := by
 unfold PySem.W.kitAny
 rw [zf7]
 cases subT t a with
 | true => rfl
 | false =>
  dsimp only
  unfold PySem.W.kitAny
  rw [zf7]
  cases subT t b <;> rfl
section
variable {X : Cx} {xr : XR} {e a b : Expr} {m ma mb : Ev} {pos p p1 p2 pt : Pos} {x x1 x2 : Str} {kt : Nat}
theorem TyR.kitx {pins : List (Addr × Obj)} {σ : St} {H : Hp} {s : Shared} {x : V} {u : Value} {t : Ty} (I : Inv X pins σ H s) (r : RelV x u) (h : TyR X.K H x t) : ∃ Hq : Heap -> Prop, PySem.W.KitX X.K u (.type t.nm) Hq /\ Hq s.heap /\ u ≠ .builtin "__main__.__loader__#opaque" := by
 rcases h with h | ⟨a, xs, rfl, h, rfl⟩
 ·generalize hT : Value.type t.nm = T at h
  cases h with
  | non => cases (show u = Value.none from r); exact ⟨_, PySem.W.kitx_none, True.intro, λ z => nomatch z⟩
  | bl y => cases (show u = Value.bool y from r); exact ⟨_, PySem.W.kitx_bool, True.intro, λ z => nomatch z⟩
  | int i => obtain ⟨t, q⟩ := (show ∃ t, u = Value.int i t from r); cases q; exact ⟨_, PySem.W.kitx_int, True.intro, λ z => nomatch z⟩
  | str y => obtain ⟨t, q⟩ := (show ∃ t, u = Value.str y t from r); cases q; exact ⟨_, PySem.W.kitx_str, True.intro, λ z => nomatch z⟩
  | flt y => obtain ⟨t, q⟩ := (show ∃ t, u = Value.float y t from r); cases q; exact ⟨_, PySem.W.kitx_float, True.intro, λ z => nomatch z⟩
  | @lst a xs ea =>
   cases (show u = Value.ref a from r)
   obtain ⟨_, _, n, _, h1⟩ := (show zZ X.prog X.w H s.heap a (.lst xs) from I.hok a _ ea)
   exact ⟨_, PySem.W.kitx_list, ⟨_, h1, rfl⟩, λ z => nomatch z⟩
  | @frz a ob xs ea =>
   cases (show u = Value.ref a from r)
   obtain ⟨_, _, _, n, _, h1⟩ := (show zZ X.prog X.w H s.heap a (.frz ob (.lst xs)) from I.hok a _ ea)
   exact ⟨_, PySem.W.kitx_list, ⟨_, h1, rfl⟩, λ z => nomatch z⟩
  | @tup a xs ea =>
   cases (show u = Value.ref a from r)
   obtain ⟨_, _, _, p⟩ := (show zZ X.prog X.w H s.heap a (.tup xs) from I.hok a _ ea)
   obtain ⟨o, h1, h2, _⟩ := p
   exact ⟨_, PySem.W.kitx_tuple, ⟨o, h1, h2.1⟩, λ z => nomatch z⟩
  | @dK a kvs ea =>
   cases (show u = Value.ref a from r)
   obtain ⟨_, _, _, _, o, _, _, h1, h2, _⟩ := (show zZ X.prog X.w H s.heap a (.dK kvs) from I.hok a _ ea)
   exact ⟨_, PySem.W.kitx_dict, ⟨o, h1, h2.1⟩, λ z => nomatch z⟩
  | @dT a kvs ea =>
   cases (show u = Value.ref a from r)
   obtain ⟨_, _, _, _, o, _, _, h1, h2, _⟩ := (show zZ X.prog X.w H s.heap a (.dT kvs) from I.hok a _ ea)
   exact ⟨_, PySem.W.kitx_dict, ⟨o, h1, h2.1⟩, λ z => nomatch z⟩
  | ins => cases hT
 ·cases (show u = Value.ref a from r)
  obtain ⟨its, _, ⟨o, h1, h2, _⟩, _⟩ := I.tuple h
  exact ⟨_, PySem.W.kitx_tuple, ⟨o, h1, h2⟩, λ z => nomatch z⟩
noncomputable def rIs2 (K : Frag) (a b : Ty) : List V -> Hp -> VK -> Prop := λ xs H Q => ∃ x t l, xs = [x, .ref l] /\ SqT K H l [.ty (Ty.nm a), .ty (Ty.nm b)] /\ TyR K H x t /\ Q (.bl (subT t a || subT t b)) H
theorem zk7 {a b : Ty} : zcV X (.builtin "isinstance") (rIs2 X.K a b) := by
 intro pins s σ H xs us Q I r h
 obtain ⟨x, t, l, rfl, hs, ht, q⟩ := h
 obtain ⟨u, u', rfl, ru, ru'⟩ := vals2 r
 cases (show u' = Value.ref l from ru')
 obtain ⟨its, rv, ⟨o, h1, h2, k, h3⟩, _⟩ := I.tuple hs
 obtain ⟨u1, u2, rfl, r1, r2⟩ := vals2 rv
 cases (show u1 = Value.type a.nm from r1)
 cases (show u2 = Value.type b.nm from r2)
 obtain ⟨Hq, Z, hz, ne⟩ := ht.kitx I ru
 obtain ⟨o1, o2, o3, o4⟩ := o
 cases (show o1 = _ from h2)
 cases (show o3 = _ from h3)
 exact PySem.W.kia_tup Z I.kIn hz h1 (zms t a b) ne λ tk => ⟨.bl (subT t a || subT t b), H, I.tok tk, rfl, q⟩
noncomputable def mIs2 (t t2 : Ty) (m : Ev) : Ev := λ ρ A => (m ρ A).bind λ w A1 => match tyW w A1 with
 | some t' => .ok (.bl (subT t' t || subT t' t2)) A1
 | none => .bad
theorem zj1 (t t2 : Ty) (hm : X.mg "isinstance" = none) (hm1 : X.mg x1 = none) (hm2 : X.mg x2 = none) (hx1 : bootBuiltins x1 = some (.type t.nm)) (hx2 : bootBuiltins x2 = some (.type t2.nm)) (ha : SE X xr e m) (hg : Gl X "isinstance" := by rfl) (hg1 : Gl X x1 := by rfl) (hg2 : Gl X x2 := by rfl)
  (hn1 : x1 ≠ "__name__" := by decide) (hd1 : (x1 == ("__debug__" : Str)) = false := by decide) (hn2 : x2 ≠ "__name__" := by decide) (hd2 : (x2 == ("__debug__" : Str)) = false := by decide)
  (h0 : starEach [.Name x1 p1, .Name x2 p2] X.env = (false, eval (.Name x1 p1) X.env) :: starEach [.Name x2 p2] X.env := by rfl) (h00 : starEach [.Name x2 p2] X.env = (false, eval (.Name x2 p2) X.env) :: starEach [] X.env := by rfl)
  (h1 : starEach [e, .Tuple [.Name x1 p1, .Name x2 p2] kt pt] X.env = (false, eval e X.env) :: starEach [.Tuple [.Name x1 p1, .Name x2 p2] kt pt] X.env := by rfl) (h2 : (backTo pos (starEach [.Tuple [.Name x1 p1, .Name x2 p2] kt pt] X.env)).any (·.1) = false := by rfl) :
  SE X xr (.Call (.Name "isinstance" p) [e, .Tuple [.Name x1 p1, .Name x2 p2] kt pt] [] pos) (mIs2 t t2 m) :=
 PE.imp (zcD zk7 hg hm (by rfl) (zar ha (zar (zlM (zar (zf4 hg1 hm1 hx1 (v := .ty t.nm) rfl hn1 hd1) (zar (zf4 hg2 hm2 hx2 (v := .ty t2.nm) rfl hn2 hd2) zbh h00) h0)) zbh) h1) (by decide) (by decide) h1 h2) λ σ H Q ⟨φ, A, ρ, S, re, h⟩ => by
  refine tM.go S re (zM.mp h) λ w A1 φ1 H1 v h1 l1 S1 q1 => ?_
  cases et : tyW w A1 with
  | none => rw [et] at h1; exact h1.elim
  | some t' =>
   rw [et] at h1
   refine ⟨by show 2 <= sizeLine; decide, λ l hl => ⟨v, t', l, rfl, SqT.of zal, ?_, h1 φ1 _ _ (l1.trans (Le.new hl)) (S1.lay hl) rfl⟩⟩
   exact zis (S1.lay hl) (q1.mono (Le.new hl)) et
noncomputable def xAsg (m : Ev) (tw : Tg) : Ex := λ ρ A => (m ρ A).bind λ w A1 => match tw w ρ with
 | some ρ' => .ok (.nx ρ') A1
 | none => .bad
theorem zjZ {tg : Expr} {tw : Tg} (he : SE X xr e m) (hg : SG X tg tw) (hs : swapsWithSole [tg] e pos.line X.env = pure false := by rfl) (hw : swappedStores [tg] e X.env = pure none := by rfl) (h1 : (assignEach [tg] X.env).map (·.2) = [assign tg X.env] := by rfl) : SS X xr (.Assign [tg] e pos) (xAsg m tw) :=
 PS.imp (zlI he hg hs hw h1) λ D σ H ⟨φ, A, ρ, S, re, h⟩ => by
  refine tM.go S re (zM.mp h) λ w A1 φ1 H1 v h1 l1 S1 q1 => ?_
  cases et : tw w ρ with
  | none => rw [et] at h1; exact h1.elim
  | some ρ' =>
   rw [et] at h1
   exact ⟨φ1, A1, ρ, w, ρ', S1, re.mono l1, q1, et, λ σ' re' => h1 φ1 H1 σ' l1 S1 re'⟩
noncomputable def xPar (i j : Nat) (ma mb : Ev) : Ex := λ ρ A => (ma ρ A).bind λ x A1 => (mb ρ A1).bind λ y A2 => .ok (.nx ((ρ.set i (some x)).set j (some y))) A2
theorem zg2 (i j : Nat) {x y : Str} {px py pt2 : Pos} {k2 : Nat} (hc : X.calm = true) (hN : X.N.Nodup) (ha : SE X xr a ma) (hb : SE X xr b mb) (hi : X.N[i]? = some x := by rfl) (hj : X.N[j]? = some y := by rfl) (hij : i ≠ j := by decide)
  (hx : X.env.scope.names.lookup x = some .local := by rfl) (hy : X.env.scope.names.lookup y = some .local := by rfl)
  (hw : swappedStores [.Tuple [.Name x px, .Name y py] kt pt] (.Tuple [a, b] k2 pt2) X.env = pure (some [x, y]) := by rfl)
  (hs : swapsWithSole [.Tuple [.Name x px, .Name y py] kt pt] (.Tuple [a, b] k2 pt2) pos.line X.env = pure false := by rfl)
  (h1 : starEach [a, b] X.env = (false, eval a X.env) :: starEach [b] X.env := by rfl) (h2 : starEach [b] X.env = (false, eval b X.env) :: starEach [] X.env := by rfl) :
  SS X xr (.Assign [.Tuple [.Name x px, .Name y py] kt pt] (.Tuple [a, b] k2 pt2) pos) (xPar i j ma mb) :=
 PS.imp (zoh hc hN hi hj hij hx hy (zar ha (zar hb zbh h2) h1) hw hs) λ D σ H ⟨φ, A, ρ, S, re, h⟩ => by
  refine tM.go S re (zM.mp h) λ w A1 φ1 H1 v h1 l1 S1 q1 => ?_
  refine tM.go S1 (re.mono l1) (zS (zM.mp h1) (λ _ _ z => z) λ _ _ z => z.mono l1) λ w2 A2 φ2 H2 v2 h2 l2 S2 q2 => ?_
  exact ⟨v, v2, rfl, h2 φ2 H2 _ (l1.trans l2) S2 (((re.mono (l1.trans l2)).set (q1.mono l2)).set q2)⟩
end
end Mi
namespace Mi
open PySem PySem.Spec PyProof.Rows L2
noncomputable def zgc (i : Nat) (PG : PFam) (lam : Nat -> Fn) : Ev := λ ρ A => (mClo i PG lam ρ A).nox
section
variable {X : Cx} {xr : XR} {i kk : Nat} {x : Str} {PG : PFam} {lam : Nat -> Fn} {np cp : Pos}
theorem ziL (hL : ∀ k, zck X.prog X.w X.K X.mg X.base kk (PG k) (lam k)) (hr : Room kk X.A) (hi : X.N[i]? = some x := by rfl) (hx : X.env.scope.names.lookup x = some .local := by rfl) (hdx : (x == ("__debug__" : Str)) = false := by decide) :
  SE X xr (.Call (.Name x np) [] [] cp) (zgc i PG lam) := by
 intro pins s σ H Q I ⟨φ, A, ρ, S, re, h⟩
 unfold zgc mClo at h
 cases ei : ρ[i]? with
 | none => rw [ei] at h; exact h.elim
 | some ow =>
  cases ow with
  | none => rw [ei] at h; exact h.elim
  | some w =>
   rw [ei] at h
   cases w with
   | clo k ws P =>
    dsimp only at h
    by_cases hP : P = PG k
    ·rw [if_pos hP] at h
     subst hP
     obtain ⟨v, hv, a, ob, u, c, oc, uc, vs, rfl, h1, h2, hp', rvs⟩ := re.get i _ ei
     obtain ⟨⟨fd0, hfd⟩, fd, F, hb⟩ := hL k a ob u c oc uc vs hp'
     have ho : s.heap.get? a = some ob := (show zZ X.prog X.w H s.heap a (.frz ob u) from I.hok a _ h1).1
     obtain ⟨m, hns, hloc⟩ := I.loc
     obtain ⟨u', r', lk⟩ := hloc i x (.ref a) hi hv (.inl hx)
     obtain rfl : u' = Value.ref a := r'
     have hm : m x = some (.ref a) := by
      rcases lk with ⟨_, e⟩ | ⟨q | q, _⟩
      ·exact e
      ·rw [show X.env.kindOf x = some .local from hx] at q; cases q
      ·rw [show X.env.kindOf x = some .local from hx] at q; cases q
     refine wpAny_Call_Name_kw (wpAny_Name (wpAny_loadName_local I.ok.kind hx hns hm ?_) hdx)
     have hK : Frag.In [(a, ob)] s.heap := λ b o e => by
      rw [List.lookup_cons] at e
      by_cases hb : b = a
      ·subst hb; simp at e; subst e; exact ho
      ·have : (b == a) = false := by simpa using hb
       rw [this] at e; cases e
     have hkp : PySem.W.keepIn [(a, ob)] (.ref a) = true := by
      unfold PySem.W.keepIn
      obtain ⟨o1, o2, o3, o4⟩ := ob
      cases (show o3 = _ from hfd)
      simp [List.lookup_cons]
     refine PySem.W.callWith_K0 (K := [(a, ob)]) (first := []) hK hkp ?_
     refine wpAny_call (codeAny_mono (F.run X.A X.stack s H ⟨[], []⟩ [] [] Q (λ _ _ _ => False) hr I.env0 (hb s) .nil ⟨rfl, h1, h2, φ, A, ws, S, rvs, ?_⟩) λ r s' hq => ?_)
     ·cases er : lam k ws A with
      | ok w1 A1 => rw [er] at h; exact h
      | exc xn A1 => rw [er] at h; exact h.elim
      | bad => rw [er] at h; exact h.elim
     ·cases r with
      | error e =>
       unfold CR at hq
       obtain ⟨_, _, _, _, _, _, _, _, _, _, z⟩ := hq
       exact z.elim
      | ok fl =>
       cases fl with
       | ret u1 => exact I.after hq
       | next => exact False.elim hq
       | brk => exact False.elim hq
       | cont => exact False.elim hq
    ·rw [if_neg hP] at h; exact h.elim
   | _ => exact h.elim
end
noncomputable def zfk (PG : PFam) : W -> W
 | .clo k ws _ => .clo k ws (PG k)
 | w => w
open Classical in
noncomputable def capW (ls : List Lm) (PF : PFam) (ρ : En) : W -> Option W
 | .clo k [] P => if P = PF k then (match ls[k]? with
  | some t => (capE t.idx ρ).map λ ws => .clo k ws P
  | none => none) else none
 | .clo _ _ _ => none
 | w => some w
noncomputable def ze3 (ls : List Lm) (PF : PFam) (ρ : En) : List W -> Option (List W)
 | [] => some []
 | w :: r => match capW ls PF ρ w, ze3 ls PF ρ r with
  | some u, some us => some (u :: us)
  | _, _ => none
noncomputable def zeo (ls : List Lm) (PF : PFam) (f : Fn) (a : Ea) : Ev := λ ρ A => (a ρ A).bind λ ws A1 => match ze3 ls PF ρ ws with
 | some us => f us A1
 | none => .bad
section
variable {X : Cx} {pins : List (Addr × Obj)} {σ : St} {H : Hp} {s : Shared} {ls : List Lm} {j kk n : Nat} {q x : Str} {e : Expr} {es : List Expr} {p pos : Pos} {mr : Ea} {f0 : Fn} {fG : PFam -> Fn}
theorem zie (I : Inv X pins σ H s) (hfn : ∀ x, X.fn x = true) (hl : ∀ t ∈ ls, LmOk X.prog X.w X.K X.mg j q t) (hix : ∀ t ∈ ls, LmIx X t) :
  Env0 X.prog X.w X.K X.mg (zdj X.base s.heap X.env.cells) X.A X.stack s H /\ ∀ k, zck X.prog X.w X.K X.mg (zdj X.base s.heap X.env.cells) (j + 1) (PGk X.env q ls σ k) (lamF ls k) := by
 have kb : ∀ b o, X.base.get? b = some o -> (zdj X.base s.heap X.env.cells).get? b = some o := λ b o e => zfB I.bk e
 have md : Mod X.K X.mg (zdj X.base s.heap X.env.cells) := by
  obtain ⟨mb, b1, b2⟩ := I.mod.blt
  exact ⟨I.mod.kin.keeps kb, I.mod.glob.keeps kb, ⟨mb, b1.keeps kb, b2⟩, I.mod.nolimit.keeps kb⟩
 have bs : ∀ b o, (zdj X.base s.heap X.env.cells).get? b = some o -> s.heap.get? b = some o /\ H b = none := λ b o e => by
  obtain ⟨e1, e2⟩ := zeJ e
  refine ⟨e1, ?_⟩
  rcases e2 with ⟨o', e2⟩ | ⟨y, e2⟩
  ·exact (I.bs b o' e2).2
  ·exact I.freeC y b e2
 refine ⟨⟨I.ok.frames, md, bs, Nat.le_of_eq (PySem.W.hideAll_size _ _), frames_at I.stack λ b hb => ?_, I.stkFree, I.hok, I.bare⟩,
  λ k => zlR hl (λ t ht vs hvs => ziB I (λ y cc v e ⟨o, ho, hd⟩ => ⟨o, zfD e ho, hd⟩) (hix t ht) hvs) k⟩
 cases e : (zdj X.base s.heap X.env.cells).get? b with
 | none => rfl
 | some o =>
  exfalso
  rcases (zeJ e).2 with ⟨o', e2⟩ | ⟨y, e2⟩
  ·have := (I.stack.mem hb).1
   rw [e2] at this; cases this
  ·exact zh1 I hfn e2 hb
theorem zfw {K : Frag} {φ : List Addr} {env : Env} {ρ : En} (re : RE K φ H ρ σ) : ∀ {ws us : List W} {vs : List V}, ze3 ls (PFk env q ls) ρ ws = some us -> RVs K φ H ws vs -> RVs K φ H (us.map (zfk (PGk env q ls σ))) vs
 | [], us, vs, e, r => by cases e; exact r
 | w :: r, us, vs, e, ⟨v, r', ev, hv, hr⟩ => by
  subst ev
  unfold ze3 at e
  cases e1 : capW ls (PFk env q ls) ρ w with
  | none => rw [e1] at e; cases e
  | some u =>
   cases e2 : ze3 ls (PFk env q ls) ρ r with
   | none => rw [e1, e2] at e; cases e
   | some us' =>
    rw [e1, e2] at e
    cases e
    rw [List.map_cons]
    refine .cons ?_ (zfw re e2 hr)
    cases w with
    | clo k xs P =>
     cases xs with
     | cons x xs => unfold capW at e1; cases e1
     | nil =>
      unfold capW at e1
      dsimp only at e1
      by_cases hP : P = PFk env q ls k
      ·rw [if_pos hP] at e1
       subst hP
       cases et : ls[k]? with
       | none => rw [et] at e1; cases e1
       | some t =>
        rw [et] at e1
        dsimp only at e1
        cases ec : capE t.idx ρ with
        | none => rw [ec] at e1; cases e1
        | some ws' =>
         rw [ec] at e1
         cases e1
         obtain ⟨a, ob, u0, c, oc, uc, vs0, rfl, g1, g2, ⟨t', et', gp⟩, _⟩ := hv
         rw [et] at et'; cases et'
         obtain ⟨vs1, cv, rv⟩ := zfa re ec
         exact ⟨a, ob, u0, c, oc, uc, vs1, rfl, g1, g2, ⟨t, et, gp, cv⟩, rv⟩
      ·rw [if_neg hP] at e1; cases e1
    | _ => cases e1; exact hv
theorem zeH (hfn : ∀ x, X.fn x = true) (hl : ∀ t ∈ ls, LmOk X.prog X.w X.K X.mg j q t) (hix : ∀ t ∈ ls, LmIx X t)
  (hR : ∀ base PG, (∀ k, zck X.prog X.w X.K X.mg base (j + 1) (PG k) (lamF ls k)) -> FnM X.prog X.w X.K X.mg base kk x n (fG PG)) (hF : ∀ PG us A, f0 us A = .bad ∨ fG PG (us.map (zfk PG)) A = f0 us A) (hr : Room kk X.A)
  (ha : SA X xr0 (e :: es) mr) (hn : ALen mr n) (hg : Gl X x := by rfl) (hdb : (x == ("__debug__" : Str)) = false := by decide)
  (he : starEach (e :: es) X.env = (false, eval e X.env) :: starEach es X.env := by rfl) (hpl : (backTo pos (starEach es X.env)).any (·.1) = false := by rfl) :
  SE X xr0 (.Call (.Name x p) (e :: es) [] pos) (zeo ls (PFk X.env q ls) f0 mr) := by
 intro pins s σ H Q I ⟨φ, A, ρ, S, re, h⟩
 obtain ⟨fa, fd, ps, F, hm, hk, hb⟩ := hR _ _ (zie I hfn hl hix).2
 refine wpAny_Call_Name_kw (zd2 I hg hm ?_ hdb)
 have h' := zM.mp h
 refine PySem.W.callWith_K (h₀ := X.base) I.ok.mod.kin hk (thn (ha pos pins s σ H (λ vs H1 => ∃ φ1 A1 ws us, Le X.K φ H φ1 H1 /\ Sim X.K φ1 A1 H1 /\ RVs X.K φ1 H1 ws vs /\ ws.length = n /\ ze3 ls (PFk X.env q ls) ρ ws = some us /\ (f0 us A1).post (PB X.K φ1 H1 Q) (EB X.K φ1 H1 xr0)) I ⟨φ, A, ρ, S, re, ?_⟩) λ us s1 ⟨vs, H1, I1, r1, φ1, A1, ws, us', l1, S1, rv, hwn, hc, hp⟩ => ⟨I1.kIn, ?_⟩) he hpl
 ·cases er : mr ρ A with
  | ok ws A1 =>
   rw [er] at h'
   intro φ1 H1 vs l1 S1 q1
   have h' : (match ze3 ls (PFk X.env q ls) ρ ws with | some us => f0 us A1 | none => .bad).post (PB X.K φ H Q) (EB X.K φ H xr0) := h'
   cases ec : ze3 ls (PFk X.env q ls) ρ ws with
   | none => rw [ec] at h'; exact h'.elim
   | some us =>
    rw [ec] at h'
    refine ⟨φ1, A1, ws, us, l1, S1, q1, hn ρ A ws A1 er, ec, zS h' (λ _ _ z => z.mono l1) λ y A2 z => z.mono l1⟩
  | exc y A1 => rw [er] at h'; exact h'
  | bad => rw [er] at h'; exact h'
 ·obtain ⟨e0, hL⟩ := zie (q := q) I1 hfn hl hix
  obtain ⟨fa', fd', ps', F', hm', hk', hb'⟩ := hR _ _ hL
  rw [hm] at hm'
  cases hm'
  have hsp : spM X.K n (fG (PGk X.env q ls σ)) vs H1 Q E0 := by
   refine ⟨by rw [<- rv.length]; exact hwn, φ1, A1, us'.map (zfk (PGk X.env q ls σ)), S1, zfw (re.mono l1) hc rv, ?_⟩
   rcases hF (PGk X.env q ls σ) us' A1 with z | z
   ·rw [z] at hp; exact hp.elim
   ·rw [z]
    exact zS hp (λ _ _ z => z) λ y A2 z φ2 H2 l2 S2 => (z φ2 H2 l2 S2).elim
  have hln := F'.len _ _ _ _ hsp
  have hu : us.length = ps'.length := by rw [<- r1.length]; exact hln
  refine wpAny_call (codeAny_mono (F'.run X.A X.stack s1 H1 ⟨[] ++ us, []⟩ us vs Q E0 hr e0 ?_ r1 hsp) λ r s2 hq => ?_)
  ·have := hb' s1 us I1.kIn (by rw [List.append_nil]; exact hu)
   rw [List.append_nil] at this
   exact this
  ·cases r with
   | error e => exact False.elim hq
   | ok fl =>
    cases fl with
    | ret u1 => exact I1.after hq
    | next => exact False.elim hq
    | brk => exact False.elim hq
    | cont => exact False.elim hq
end
end Mi
namespace Mi
open PySem PySem.Spec PyProof.Rows L2
section
variable {X : Cx} {xr : XR} {a b c : Expr} {ma mb mc : Ev} {pos : Pos}
end
end Mi
namespace Mi
open PySem PySem.Spec PyProof.Rows L2
section
variable {prog : Program} {w : World} {A : Around} {E : Value -> Shared -> Prop} {s : Shared}
end
section
variable {X : Cx} {xr : XR} {e : Expr} {m : Ev} {pos : Pos}
end
end Mi
namespace Mi
open PySem PySem.Spec PyProof.Rows L2
noncomputable def tstS (s : Stmt) : Expr := match s with
 | .If t _ _ _ => t
 | _ => zgP
noncomputable def opE (e : Expr) : Expr := match e with
 | .UnaryOp _ a _ => a
 | _ => zgP
section
variable {X : Cx} {xr : XR} {a b : Expr} {ma mb : Ev} {pos : Pos}
noncomputable def gShl := gIC cPow λ i j => .int (i * 2 ^ j.toNat)
theorem ziw (ha : SE X xr a ma) (hb : SE X xr b mb) : SE X xr (.BinOp a .LShift b pos) (mBin gShl ma mb) := zdT zn4 zkW (ziH zj7 λ _ _ _ _ => rfl) ha hb
end
end Mi
namespace Mi
open PySem PySem.Spec PyProof.Rows L2
section
variable {X : Cx} {xr : XR} {e : Expr} {m : Ev} {pos : Pos}
theorem zjj : zcV X (.builtin "len") (λ xs H Q => ∃ p us, xs = [.ref p] /\ H p = some (.dK us) /\ Q (.int us.length) H) := by
 intro pins s σ H xs us Q I r h
 obtain ⟨p, kvs, rfl, hq, q⟩ := h
 obtain ⟨u, rfl, ru⟩ := vals1 r
 cases ru
 obtain ⟨hz, hd, vs, kv, dd⟩ := znP I.hok hq
 have hl := zfy
 have hs : sizeLine = 16777216 := sizeLine_eq
 have hlen := KV.length kv
 refine PySem.call_len_dict hd dd (by omega) ?_
 exact ⟨.int kvs.length, H, I.tok _, ⟨_, by rw [hlen]⟩, q⟩
noncomputable def zgS (m : Ev) : Ev := λ ρ A => (m ρ A).bind λ w A1 => match w with
 | .ref n => match A1[n]? with
  | some (.dct kvs) => .ok (.int kvs.length) A1
  | _ => .bad
 | _ => .bad
theorem zhJ {p : Pos} (hm : X.mg "len" = none) (ha : SE X xr e m) (hg : Gl X "len" := by rfl) (hs : starEach [e] X.env = (false, eval e X.env) :: starEach [] X.env := by rfl) :
  SE X xr (.Call (.Name "len" p) [e] [] pos) (zgS m) :=
 PE.imp (zcD zjj hg hm (by rfl) (zar ha zbh hs) (by decide) (by decide) hs (by rfl)) λ σ H Q ⟨φ, A, ρ, S, re, h⟩ => by
  refine tM.go S re (zM.mp h) λ w A1 φ1 H1 v h1 l1 S1 q1 => ?_
  cases w with
  | ref n =>
   dsimp only at h1
   revert h1
   cases e1 : A1[n]? with
   | none => intro h1; exact h1.elim
   | some o =>
    cases o with
    | dct kvs =>
     intro h1
     obtain ⟨p, us, rfl, f1, g1, g2, g3⟩ := S1.dct q1 e1
     refine ⟨p, us, rfl, g1, ?_⟩
     have : us.length = kvs.length := by have := congrArg List.length g2; simpa using this
     rw [this]
     exact h1 _ _ _ l1 S1 rfl
    | _ => intro h1; exact h1.elim
  | _ => exact h1.elim
end
end Mi
namespace Mi
open PySem PySem.Spec PyProof.Rows L2
theorem zeA : fillsNumberSlot (.type "tuple") "mul" = pure false :=
 PySem.fillsNumberSlot_seq (id := "tuple.__mul__") (r := some (.builtin "tuple.__rmul__")) F.slot_tuple_mul.lookup (by decide +kernel) F.slot_tuple_rmul.lookup (by decide +kernel)
theorem zgM : seqRepeat? (.type "tuple") = pure (some (.builtin "tuple.__mul__")) := by
 unfold seqRepeat?
 rw [PySem.seqSlot_of (T := "tuple") (name := "__mul__") (id := "tuple.__mul__") F.slot_tuple_mul.lookup (by decide +kernel), PySem.seqSlot_of (T := "tuple") (name := "__rmul__") (id := "tuple.__rmul__") F.slot_tuple_rmul.lookup (by decide +kernel)]
 rfl
theorem zha (a : Int) (t : Tok) (l : Addr) (od : Option Addr) (items : Array Value) (n : Nat) (sl : Array (Option Value)) :
  Meets (Builtin.«int.__rmul__» ⟨[.int a t, .ref l], []⟩) (λ _ R s => s.heap.get? l = some ⟨.type "tuple", od, .seq items n, sl⟩ /\ R (.ok (.ret Value.notImplemented)) s) :=
 .of_wp λ prog w A R s h => by
  obtain ⟨hp, g, d, tk, os⟩ := s; obtain ⟨hl, h⟩ := h
  wp_walk
  exact ⟨_, rfl, h⟩
theorem zjv (k : Int) (t : Tok) (l : Addr) (od : Option Addr) (items : Array Value) (n : Nat) (sl : Array (Option Value)) (h2 : 2 <= k) (h3 : k < 1000) (hi : 0 < items.size) (hz : items.size < 1000) :
  Meets (Builtin.«tuple.__mul__» ⟨[.ref l, .int k t], []⟩) (λ _ R s => s.heap.get? l = some ⟨.type "tuple", od, .seq items n, sl⟩ /\ R (.ok (.ret (.ref s.heap.objs.size))) { s with heap := s.heap.push { cls := .type "tuple", data := .seq ((List.replicate k.toNat items).foldl (· ++ ·) #[]) } }) :=
 .of_wp λ prog w A R s h => by
  obtain ⟨hp, g, d, tk, os⟩ := s; obtain ⟨hl, h⟩ := h
  have e0 : items.isEmpty = false := by
   cases he : items.isEmpty with
   | false => rfl
   | true => rw [Array.isEmpty_iff_size_eq_zero] at he; omega
  have e1 : (k == 1) = false := by rw [beq_eq_false_iff_ne]; omega
  have e2 : (decide (k < -2 ^ 63) || decide (k ≥ 2 ^ 63)) = false := by
   rw [Bool.or_eq_false_iff, decide_eq_false_iff_not, decide_eq_false_iff_not]; omega
  have e3 : decide (k <= 0) = false := by rw [decide_eq_false_iff_not]; omega
  have hm : (items.size : Int) * k <= 1000 * 1000 := Int.mul_le_mul (by omega) (by omega) (by omega) (by omega)
  have e4 : ¬ (items.size : Int) * k > (2 ^ 63 - 1) / 8 := by omega
  have e5 : Builtin.Tuple.tupleTooMany ((items.size : Int) * k) = false := by
   unfold Builtin.Tuple.tupleTooMany
   have : sizeLine = 16777216 := sizeLine_eq
   rw [decide_eq_false_iff_not]; omega
  wp_walk
  rw [e2]
  rw [if_neg (by decide)]
  dsimp only
  wp_walk
  rw [if_neg e4, e5, if_neg (by decide)]
  have hs : (List.foldl (λ x1 x2 => x1 ++ x2) #[] (List.replicate k.toNat items)).size <= sizeLine := by
   have hf := foldl_rep items.toList k.toNat []
   rw [List.nil_append] at hf
   have e6 : items.toList.toArray = items := by simp
   rw [e6] at hf
   rw [hf, List.size_toArray, len_rep]
   have : sizeLine = 16777216 := sizeLine_eq
   have : k.toNat * items.toList.length <= 1000 * 1000 := Nat.mul_le_mul (by omega) (by rw [Array.length_toList]; omega)
   omega
  refine wpAny_bind (m := Builtin.Tuple.tupleExact _) (wpAny_newObj_type ?_ hs)
  exact wpAny_pure ⟨_, rfl, h⟩
section
variable {X : Cx} {xr : XR} {K : Frag} {a b : Expr} {ma mb : Ev} {pos : Pos}
noncomputable def znr (K : Frag) : R2 := λ x y H Q => ∃ l k xs, x = .ref l /\ y = .int k /\ SqT K H l xs /\ 2 <= k /\ k < 1000 /\ 0 < xs.length /\ xs.length < 1000 /\
 ∀ p, H p = none -> Q (.ref p) (upd H p (.tup (List.replicate k.toNat xs).flatten))
theorem zm0 : OpR X (binaryOp .Mult) (znr X.K) := by
 intro pins s σ H x y v u Q I rx ry h
 obtain ⟨l, k, xs, rfl, rfl, hH, h1, h2, h3, h4, q⟩ := h
 cases rx
 obtain ⟨t, rfl⟩ := ry
 obtain ⟨its, r, p1, _⟩ := I.tuple hH
 obtain ⟨⟨cls, dd, data, sl⟩, ho, hc, n, hd⟩ := id p1
 simp only at hc hd
 subst hc hd
 have hnew : List.foldl (λ x1 x2 => x1 ++ x2) #[] (List.replicate k.toNat its.toArray) = (List.replicate k.toNat its).flatten.toArray := by
  have := foldl_rep its k.toNat []
  rw [List.nil_append] at this
  exact this
 have hlen := r.length
 refine wpAny_binaryOp_repeat_ref (T := "tuple") (U := "int") (by decide) ⟨_, ho, rfl⟩ (λ s' => typeIs_int s' k t) zeA F.fills_int_mul F.slot_int_rmul zgM F.slot_int_index.lookup
  (call_meets F.slot_int_rmul (typeIs_int s k t) F.entry_int_rmul (F.args_int_rmul_2 _ _) (zha k t l dd its.toArray n sl)
   ⟨ho, rfl, ⟨_, ho, rfl⟩, call_meets F.slot_tuple_mul ⟨_, ho, rfl⟩ F.entry_tuple_mul (F.args_tuple_mul_2 _ _) (zjv k t l dd its.toArray n sl h1 h2 (by rw [List.size_toArray]; omega) (by rw [List.size_toArray]; omega)) ⟨ho, ?_⟩⟩)
 rw [hnew]
 refine ⟨.ref s.heap.objs.size, _, I.laid (t' := s.toks) (o := .tup (List.replicate k.toNat xs).flatten) (λ b ob q => Heap.get?_push_of_some _ q) (Nat.le_refl _) ?_, rfl, q _ (I.hok.fresh (Nat.le_refl _))⟩
 refine ⟨?_, _, r.rep k.toNat, zei.new _ _⟩
 rw [len_rep]
 have hs : sizeLine = 16777216 := sizeLine_eq
 have : k.toNat * xs.length <= 1000 * 1000 := Nat.mul_le_mul (by omega) (by omega)
 omega
noncomputable def zfp : W -> W -> Hx -> R W := λ x y A => match x, y with
 | .tup xs, .int k => if decide (2 <= k) && (decide (k < 1000) && (decide (0 < xs.length) && decide (xs.length < 1000))) then .ok (.tup (List.replicate k.toNat xs).flatten) A else .bad
 | _, _ => .bad
theorem zmN : ∀ x y A, zY (zfp x y A) := λ x y A => by
 unfold zfp
 split
 ·exact zeh zcb zaN
 ·exact zaN
theorem zk5 : Op2 K (znr K) zfp := λ φ A H x y u v Q S q1 q2 p => by
 cases u with
 | tup xs => cases v with
  | int j =>
   obtain ⟨a1, vs1, rfl, t1, r1⟩ := q1
   obtain rfl := q2
   unfold zfp at p
   dsimp only at p
   by_cases hz : (decide (2 <= j) && (decide (j < 1000) && (decide (0 < xs.length) && decide (xs.length < 1000)))) = true
   ·rw [if_pos hz] at p
    simp only [Bool.and_eq_true, decide_eq_true_iff] at hz
    refine ⟨a1, j, vs1, rfl, rfl, t1, hz.1, hz.2.1, by rw [<- r1.length]; exact hz.2.2.1, by rw [<- r1.length]; exact hz.2.2.2, λ l hl => ?_⟩
    obtain ⟨c1, c2, c3⟩ := zfx S hl (r1.rep j.toNat)
    exact p _ _ _ c1 c2 c3
   ·rw [if_neg hz] at p; exact p.elim
  | _ => exact p.elim
 | _ => cases v <;> exact p.elim
theorem zgw (ha : SE X xr a ma) (hb : SE X xr b mb) : SE X xr (.BinOp a .Mult b pos) (mBin zfp ma mb) := zdT zm0 zmN zk5 ha hb
end
end Mi
namespace Y
open PySem PySem.Spec PyProof.Rows L2 Mi
@[irreducible] noncomputable def YJ (X : Cx) (xr : XR) (es : List Expr) (ms : List Ev) : Prop := Mi.SJ X xr es ms
theorem zcr : @YJ = @Mi.SJ := by
 funext X xr es ms
 unfold YJ
 rfl
section
theorem za9 {X : Cx} {g : Heap} {xr : XR} {e : Expr} {es : List Expr} {pos : Pos} {k n : Nat} {x : Str} {p : Pos} {f : Fn} {mr : Ea} (xo : XeOk X g xr) (F : FnX X.prog X.w X.K X.mg X.base k x n f) (hr : Room k X.A) (ha : YA X xr (e :: es) mr) (hl : ALen mr n) (hg : Gl X x := by rfl)
  (hdb : (x == ("__debug__" : Str)) = false := by decide) (he : starEach (e :: es) X.env = (false, eval e X.env) :: starEach es X.env := by rfl) (hpl : (backTo pos (starEach es X.env)).any (·.1) = false := by rfl) :
  YE X xr (.Call (.Name x p) (e :: es) [] pos) (zt f mr) := by
 (try simp only [zw, zB, zA, zH, zG, zz, zE, zI, zF, zC, zy, zD, zcr] at *)
 exact Mi.za9 xo F hr ha hl hg hdb he hpl
theorem zij {X : Cx} {xr : XR} {e : Expr} {m : Ev} (h : YT X.nox xr0 e m) : YT X xr e λ ρ A => (m ρ A).nox := by
 (try simp only [zw, zB, zA, zH, zG, zz, zE, zI, zF, zC, zy, zD, zcr] at *)
 exact Mi.zij h
theorem zgs {X : Cx} {xr : XR} {m1 : Ex} {sts : List Stmt} (h : YSs X.nox xr0 sts m1) : YSs X xr sts λ ρ A => (m1 ρ A).nox := by
 (try simp only [zw, zB, zA, zH, zG, zz, zE, zI, zF, zC, zy, zD, zcr] at *)
 exact Mi.zgs h
theorem zdL {X : Cx} {g : Heap} {xr : XR} {e : Expr} {es : List Expr} {mr : Ea} {x : Str} {top : Str} {np : Pos} {cpos : Pos} {pos : Pos} {n : Nat} (xo : XeOk X g xr) (c : zeI X.K top x) (ha : YA X xr (e :: es) mr) (hl : ALen mr n) (hn : n <= sizeLine := by decide) (hg : Gl X x := by rfl) (hcalm : X.calm = true := by rfl)
  (hdb : (x == ("__debug__" : Str)) = false := by decide) (he : starEach (e :: es) X.env = (false, eval e X.env) :: starEach es X.env := by rfl) (hpl : (backTo cpos (starEach es X.env)).any (·.1) = false := by rfl) :
  YS X xr (.Raise (some (.Call (.Name x np) (e :: es) [] cpos)) none pos) (zg0 x mr) := by
 (try simp only [zw, zB, zA, zH, zG, zz, zE, zI, zF, zC, zy, zD, zcr] at *)
 exact Mi.zdL xo c ha hl hn hg hcalm hdb he hpl
theorem fnX {P : Program} {w : World} {K : Frag} {mg : Str -> Option Value} {base : Heap} {x : Str} {st : Stmt} {f : Addr} {fd : FuncData} {N ps : List Str} {k : Nat} {m : Ex} (F : Fun K x x st f fd) (hm : mg x = some (.ref f)) (S : zai N ps (zO st))
  (hb : ∀ (kV doc pm : Value) (an : Option Addr) (cdv ct : Value) (us : List Value), us.length = ps.length -> bindArgs (PySem.W.fnOf x x (zb5 st) (zaG st) (zO st) .none kV doc pm an cdv ct) ⟨us, []⟩ = pure (ps.zip us))
  (hbody : ∀ (cdv : Value) (A : Around) (outer : List Env) (s : Shared) (H : Hp) (E : XK), Room k (A.deeper (envOfC x (zO st) s.heap.objs.size f cdv)) ->
   XeOk (cxOf (CXe P w) P w K mg base N x (zO st) f cdv A outer s H E) s.heap (XE1 K E) -> YSs (cxOf (CXe P w) P w K mg base N x (zO st) f cdv A outer s H E) (XE1 K E) (zaG st) m) :
  FnX P w K mg base (k + 1) x ps.length (runX N.length m) := by
 (try simp only [zw, zB, zA, zH, zG, zz, zE, zI, zF, zC, zy, zD, zcr] at *)
 exact Mi.fnX F hm S hb hbody
theorem zjC {X : Cx} {xr : XR} {L : Addr} {D : Addr} {i : Nat} {j : Nat} {l : Nat} {kk : Nat} {x : Str} {n : Str} {y : Str} {xD : Str} {cs : List Str} {PG : Nat -> Obj -> Addr -> Obj -> List V -> Prop} {lam : Nat -> Fn} {bmD : List Value} {newD : String} {np : Pos} {cp : Pos} {ep : Pos} {dp : Pos} {yp : Pos} {np2 : Pos} {ap : Pos} {hp : Pos} {pos : Pos} (hL : ∀ k, zck X.prog X.w X.K X.mg X.base kk (PG k) (lam k)) (hr : Room kk X.A) (hst : X.stack = X.env :: X.outer) (hFr : X.env.frame = some L) (hD : zbW X.K xD (.ref D)) (exD : Mi.excB X.K D bmD newD = true) (hbD : bmD.contains (.type "BaseException") = true)
  (hcs : ∀ c, cs.contains c = true -> ∀ C, zbW X.K c (.ref C) -> ∃ bmC newC, Mi.excB X.K C bmC newC = true /\ upIn X.K C D = true)
  (hN : X.N.Nodup) (hi : X.N[i]? = some x) (hx : X.env.scope.names.lookup x = some .local) (hl : X.N[l]? = some n) (hn : X.env.scope.names.lookup n = some .local) (hj : X.N[j]? = some y) (hy : X.env.scope.names.lookup y = some .local)
  (hg : Gl X xD) (hs1 : swapsWith (.Call (.Name x np) [] [] cp) none ep.line X.env = pure false := by rfl) (hs2 : swapsWith (.Name n np2) (some (.Name y yp)) ap.line X.env = pure false := by rfl)
  (hdx : (x == ("__debug__" : Str)) = false := by decide) (hdn : (n == ("__debug__" : Str)) = false := by decide) (hdD : (xD == ("__debug__" : Str)) = false := by decide) :
  YS X xr (.Try [.Expr (.Call (.Name x np) [] [] cp) ep] [.ExceptHandler (some (.Name xD dp)) (some n) [.Assign [.Name y yp] (.Name n np2) ap] hp] [] [] pos) (xTry i j l cs PG lam) := by
 (try simp only [zw, zB, zA, zH, zG, zz, zE, zI, zF, zC, zy, zD, zcr] at *)
 exact Mi.zjC hL hr hst hFr hD exD hbD hcs hN hi hx hl hn hj hy hg hs1 hs2 hdx hdn hdD
theorem zbe {X : Cx} {xr : XR} {e : Expr} {m : Ev} {pos : Pos} {p : Pos} {p' : Pos} {f : Str -> Option Bool} {x : Str} {C : Addr} (hx : zh4 X.K f (.ref C)) (hc : zbW X.K x (.ref C)) (hm : X.mg "isinstance" = none) (ha : YE X xr e m) (hg : Gl X "isinstance" := by rfl) (hg' : Gl X x := by rfl) (hd : (x == ("__debug__" : Str)) = false := by decide)
  (h1 : starEach [e, .Name x p'] X.env = (false, eval e X.env) :: starEach [.Name x p'] X.env := by rfl) (h2 : (backTo pos (starEach [.Name x p'] X.env)).any (·.1) = false := by rfl) :
  YE X xr (.Call (.Name "isinstance" p) [e, .Name x p'] [] pos) (mIsX f m) := by
 (try simp only [zw, zB, zA, zH, zG, zz, zE, zI, zF, zC, zy, zD, zcr] at *)
 exact Mi.zbe hx hc hm ha hg hg' hd h1 h2
theorem zhN {X : Cx} {xr : XR} {e : Expr} {m : Ev} {pos : Pos} {p : Pos} {p' : Pos} {f : Str -> Option Bool} {x : Str} {T : String} (hx : zh4 X.K f (.type T)) (hm : X.mg "isinstance" = none) (hm' : X.mg x = none) (hb : bootBuiltins x = some (.type T)) (ha : YE X xr e m) (hg : Gl X "isinstance" := by rfl) (hg' : Gl X x := by rfl) (hn : x ≠ "__name__" := by decide) (hd : (x == ("__debug__" : Str)) = false := by decide)
  (h1 : starEach [e, .Name x p'] X.env = (false, eval e X.env) :: starEach [.Name x p'] X.env := by rfl) (h2 : (backTo pos (starEach [.Name x p'] X.env)).any (·.1) = false := by rfl) :
  YE X xr (.Call (.Name "isinstance" p) [e, .Name x p'] [] pos) (mIsX f m) := by
 (try simp only [zw, zB, zA, zH, zG, zz, zE, zI, zF, zC, zy, zD, zcr] at *)
 exact Mi.zhN hx hm hm' hb ha hg hg' hn hd h1 h2
theorem zc5 {X : Cx} {xr : XR} {n : Nat} {k : Nat} {q : Str} {Pt : Addr} {c : Addr} {ls : List Lm} {t : Lm} {pos : Pos} (ht : ls[k]? = some t) (L : zlx X.N X.env.scope t = true) (hB : BMain X.mg X.base) (hcode : X.env.code = .ref c) (C : PySem.W.CodeHd X.base c Pt) (hq : X.env.qual ++ "<lambda>" = q) (hdef : defaultsOf t.params X.env = ([], [])) :
  YE X xr (.Lambda t.params t.body t.scope pos) (mLam n q Pt k (PFk X.env q ls k)) := by
 (try simp only [zw, zB, zA, zH, zG, zz, zE, zI, zF, zC, zy, zD, zcr] at *)
 exact Mi.zc5 ht L hB hcode C hq hdef
theorem zhT {X : Cx} {xr : XR} {N : List Str} {sc : Scope} {ls : List Lm} {j : Nat} {kk : Nat} {i : Nat} {nl : Nat} {q : Str} {x : Str} {f : Str} {RF : Nat -> List W -> Hx -> R W} {p : Pos} {p2 : Pos} {p3 : Pos} {p4 : Pos} {pos : Pos} {iter : Expr} {mi : Ei} {tw : Tg} (hfn : ∀ x, X.fn x = true) (hl : ∀ t ∈ ls, LmOk X.prog X.w X.K X.mg j q t) (hix : ∀ t ∈ ls, LmIx X t)
  (hR : ∀ base PG, (∀ k, zck X.prog X.w X.K X.mg base (j + 1) (PG k) (lamF ls k)) -> FnM X.prog X.w X.K X.mg base kk f 1 (fRef PG RF)) (hr : Room kk X.A) (hc : X.calm = true) (S : zbt X sc) (hcap : zeZ X.N N sc nl [] = true) (hw : YI X xr (.Name x p4) iter mi)
  (hgt : ∀ s H fp, YG (cpCx X N sc s H fp noxe) (.Name x p4) tw) (hi : N[i]? = some x) (hv : Vis (relabel sc X.env) x) (hg : ∀ s H fp, Gl (cpCx X N sc s H fp noxe) f) (hdx : (x == ("__debug__" : Str)) = false := by decide) (hcx : (x == ("__classdict__" : Str)) = false := by decide) (hdf : (f == ("__debug__" : Str)) = false := by decide)
  (he : ∀ env : Env, starEach [.Name x p2] env = (false, eval (.Name x p2) env) :: starEach [] env := by intro _; rfl) (hpl : ∀ env : Env, (backTo p3 (starEach [] env)).any (·.1) = false := by intro _; rfl)
  (hs : ∀ x, foldedSetIterable iter X.env x = pure x := by intro _; rfl) :
  YE X xr (.ListComp (.Call (.Name f p) [.Name x p2] [] p3) [⟨.Name x p4, iter, [], 0⟩] sc pos) (zb7 (zhP nl mi tw i (PFk X.env q ls) ls RF)) := by
 (try simp only [zw, zB, zA, zH, zG, zz, zE, zI, zF, zC, zy, zD, zcr] at *)
 exact Mi.zhT hfn hl hix hR hr hc S hcap hw hgt hi hv hg hdx hcx hdf he hpl hs
theorem fnT {P : Program} {w : World} {K : Frag} {mg : Str -> Option Value} {base : Heap} {x q : Str} {st : Stmt} {f c Pt : Addr} {fd : FuncData} {N ps : List Str} {k : Nat} {ls : List Lm} {m : PFam -> Ex} (F : Fun K x x st f fd) (hn : PySem.W.nsIn K mainGlobals x = some (some (.ref f))) (ht : PySem.W.tabIn K x = some (c, Pt)) (S : zai N ps (zO st))
  (hbody : ∀ (A : Around) (outer : List Env) (s : Shared) (H : Hp) (E : XK), Room k (A.deeper (envOfC x (zO st) s.heap.objs.size f (.ref c))) ->
   YSs (cxOf CX0 P w K mg base N x (zO st) f (.ref c) A outer s H E).nox xr0 (zaG st) (m (PFk (envOfC x (zO st) s.heap.objs.size f (.ref c)) q ls))) :
  FnOk P w K mg base CX0 (k + 1) f fd ps (spT K ps.length λ PF => runB N.length (m PF)) := by
 (try simp only [zw, zB, zA, zH, zG, zz, zE, zI, zF, zC, zy, zD, zcr] at *)
 exact Mi.fnT F hn ht S hbody
theorem zj1 {X : Cx} {xr : XR} {e : Expr} {m : Ev} {pos : Pos} {p : Pos} {p1 : Pos} {p2 : Pos} {pt : Pos} {x1 : Str} {x2 : Str} {kt : Nat} (t t2 : Ty) (hm : X.mg "isinstance" = none) (hm1 : X.mg x1 = none) (hm2 : X.mg x2 = none) (hx1 : bootBuiltins x1 = some (.type t.nm)) (hx2 : bootBuiltins x2 = some (.type t2.nm)) (ha : YE X xr e m) (hg : Gl X "isinstance" := by rfl) (hg1 : Gl X x1 := by rfl) (hg2 : Gl X x2 := by rfl)
  (hn1 : x1 ≠ "__name__" := by decide) (hd1 : (x1 == ("__debug__" : Str)) = false := by decide) (hn2 : x2 ≠ "__name__" := by decide) (hd2 : (x2 == ("__debug__" : Str)) = false := by decide)
  (h0 : starEach [.Name x1 p1, .Name x2 p2] X.env = (false, eval (.Name x1 p1) X.env) :: starEach [.Name x2 p2] X.env := by rfl) (h00 : starEach [.Name x2 p2] X.env = (false, eval (.Name x2 p2) X.env) :: starEach [] X.env := by rfl)
  (h1 : starEach [e, .Tuple [.Name x1 p1, .Name x2 p2] kt pt] X.env = (false, eval e X.env) :: starEach [.Tuple [.Name x1 p1, .Name x2 p2] kt pt] X.env := by rfl) (h2 : (backTo pos (starEach [.Tuple [.Name x1 p1, .Name x2 p2] kt pt] X.env)).any (·.1) = false := by rfl) :
  YE X xr (.Call (.Name "isinstance" p) [e, .Tuple [.Name x1 p1, .Name x2 p2] kt pt] [] pos) (mIs2 t t2 m) := by
 (try simp only [zw, zB, zA, zH, zG, zz, zE, zI, zF, zC, zy, zD, zcr] at *)
 exact Mi.zj1 t t2 hm hm1 hm2 hx1 hx2 ha hg hg1 hg2 hn1 hd1 hn2 hd2 h0 h00 h1 h2
theorem zjZ {X : Cx} {xr : XR} {e : Expr} {m : Ev} {pos : Pos} {tg : Expr} {tw : Tg} (he : YE X xr e m) (hg : YG X tg tw) (hs : swapsWithSole [tg] e pos.line X.env = pure false := by rfl) (hw : swappedStores [tg] e X.env = pure none := by rfl) (h1 : (assignEach [tg] X.env).map (·.2) = [assign tg X.env] := by rfl) : YS X xr (.Assign [tg] e pos) (xAsg m tw) := by
 (try simp only [zw, zB, zA, zH, zG, zz, zE, zI, zF, zC, zy, zD, zcr] at *)
 exact Mi.zjZ he hg hs hw h1
theorem zg2 {X : Cx} {xr : XR} {a : Expr} {b : Expr} {ma : Ev} {mb : Ev} {pos : Pos} {pt : Pos} {kt : Nat} (i j : Nat) {x y : Str} {px py pt2 : Pos} {k2 : Nat} (hc : X.calm = true) (hN : X.N.Nodup) (ha : YE X xr a ma) (hb : YE X xr b mb) (hi : X.N[i]? = some x := by rfl) (hj : X.N[j]? = some y := by rfl) (hij : i ≠ j := by decide)
  (hx : X.env.scope.names.lookup x = some .local := by rfl) (hy : X.env.scope.names.lookup y = some .local := by rfl)
  (hw : swappedStores [.Tuple [.Name x px, .Name y py] kt pt] (.Tuple [a, b] k2 pt2) X.env = pure (some [x, y]) := by rfl)
  (hs : swapsWithSole [.Tuple [.Name x px, .Name y py] kt pt] (.Tuple [a, b] k2 pt2) pos.line X.env = pure false := by rfl)
  (h1 : starEach [a, b] X.env = (false, eval a X.env) :: starEach [b] X.env := by rfl) (h2 : starEach [b] X.env = (false, eval b X.env) :: starEach [] X.env := by rfl) :
  YS X xr (.Assign [.Tuple [.Name x px, .Name y py] kt pt] (.Tuple [a, b] k2 pt2) pos) (xPar i j ma mb) := by
 (try simp only [zw, zB, zA, zH, zG, zz, zE, zI, zF, zC, zy, zD, zcr] at *)
 exact Mi.zg2 i j hc hN ha hb hi hj hij hx hy hw hs h1 h2
end
end Y
namespace Y
open PySem PySem.Spec PyProof.Rows L2 Mi
section
theorem ziL {X : Cx} {xr : XR} {i : Nat} {kk : Nat} {x : Str} {PG : PFam} {lam : Nat -> Fn} {np : Pos} {cp : Pos} (hL : ∀ k, zck X.prog X.w X.K X.mg X.base kk (PG k) (lam k)) (hr : Room kk X.A) (hi : X.N[i]? = some x := by rfl) (hx : X.env.scope.names.lookup x = some .local := by rfl) (hdx : (x == ("__debug__" : Str)) = false := by decide) :
  YE X xr (.Call (.Name x np) [] [] cp) (zgc i PG lam) := by
 (try simp only [zw, zB, zA, zH, zG, zz, zE, zI, zF, zC, zy, zD, zcr] at *)
 exact Mi.ziL hL hr hi hx hdx
theorem zeH {X : Cx} {ls : List Lm} {j : Nat} {kk : Nat} {n : Nat} {q : Str} {x : Str} {e : Expr} {es : List Expr} {p : Pos} {pos : Pos} {mr : Ea} {f0 : Fn} {fG : PFam -> Fn} (hfn : ∀ x, X.fn x = true) (hl : ∀ t ∈ ls, LmOk X.prog X.w X.K X.mg j q t) (hix : ∀ t ∈ ls, LmIx X t)
  (hR : ∀ base PG, (∀ k, zck X.prog X.w X.K X.mg base (j + 1) (PG k) (lamF ls k)) -> FnM X.prog X.w X.K X.mg base kk x n (fG PG)) (hF : ∀ PG us A, f0 us A = .bad ∨ fG PG (us.map (zfk PG)) A = f0 us A) (hr : Room kk X.A)
  (ha : YA X xr0 (e :: es) mr) (hn : ALen mr n) (hg : Gl X x := by rfl) (hdb : (x == ("__debug__" : Str)) = false := by decide)
  (he : starEach (e :: es) X.env = (false, eval e X.env) :: starEach es X.env := by rfl) (hpl : (backTo pos (starEach es X.env)).any (·.1) = false := by rfl) :
  YE X xr0 (.Call (.Name x p) (e :: es) [] pos) (zeo ls (PFk X.env q ls) f0 mr) := by
 (try simp only [zw, zB, zA, zH, zG, zz, zE, zI, zF, zC, zy, zD, zcr] at *)
 exact Mi.zeH hfn hl hix hR hF hr ha hn hg hdb he hpl
theorem ziw {X : Cx} {xr : XR} {a : Expr} {b : Expr} {ma : Ev} {mb : Ev} {pos : Pos} (ha : YE X xr a ma) (hb : YE X xr b mb) : YE X xr (.BinOp a .LShift b pos) (mBin gShl ma mb) := by
 (try simp only [zw, zB, zA, zH, zG, zz, zE, zI, zF, zC, zy, zD, zcr] at *)
 exact Mi.ziw ha hb
theorem zhJ {X : Cx} {xr : XR} {e : Expr} {m : Ev} {pos : Pos} {p : Pos} (hm : X.mg "len" = none) (ha : YE X xr e m) (hg : Gl X "len" := by rfl) (hs : starEach [e] X.env = (false, eval e X.env) :: starEach [] X.env := by rfl) :
  YE X xr (.Call (.Name "len" p) [e] [] pos) (zgS m) := by
 (try simp only [zw, zB, zA, zH, zG, zz, zE, zI, zF, zC, zy, zD, zcr] at *)
 exact Mi.zhJ hm ha hg hs
end
end Y
namespace Y
open PySem PySem.Spec PyProof.Rows L2 Mi
theorem zgw {X : Cx} {xr : XR} {a : Expr} {b : Expr} {ma : Ev} {mb : Ev} {pos : Pos} (ha : YE X xr a ma) (hb : YE X xr b mb) : YE X xr (.BinOp a .Mult b pos) (mBin zfp ma mb) := by
 (try simp only [zw, zB, zA, zH, zG, zz, zE, zI, zF, zC, zy, zD, zcr] at *)
 exact Mi.zgw ha hb
end Y
namespace G
open PySem L2 Mi
noncomputable def top (i : Nat) : Stmt := PySem.Challenge.pw_nearkinds_k80_tables_put_together.main.body.getD i (.Pass ⟨0, 0, 0, 0⟩)
structure Bu (mg : Str -> Option Value) : Prop where
 b_ValueError : mg "ValueError" = none
 b_all : mg "all" = none
 b_bool : mg "bool" = none
 b_enumerate : mg "enumerate" = none
 b_int : mg "int" = none
 b_isinstance : mg "isinstance" = none
 b_len : mg "len" = none
 b_list : mg "list" = none
 b_max : mg "max" = none
 b_min : mg "min" = none
 b_range : mg "range" = none
 b_tuple : mg "tuple" = none
 b_zip : mg "zip" = none
 c_MOST_PLACES : ∃ t, mg "MOST_PLACES" = some (.int 8 t)
noncomputable abbrev zx : List Str := ["NoTable", "TooMany"]
noncomputable abbrev zax : List Str := ["NoTable", "NotSteady", "NoPlace", "NoKind", "NoMix", "NoNumber", "NoLot", "NoKinds", "NoPaper", "NoParting", "NoClosed", "TooMany", "NoText", "NoLine", "NoDeed", "NoWeights", "NotWhole", "NoNumbers"]
theorem zfv {K : Frag} (R : zax.all (zV K zx) = true) : zV K zx "NoTable" = true := List.all_eq_true.mp R _ (by decide +kernel)
theorem zes {K : Frag} (R : zax.all (zV K zx) = true) : zV K zx "NotSteady" = true := List.all_eq_true.mp R _ (by decide +kernel)
theorem zfR {K : Frag} (R : zax.all (zV K zx) = true) : zV K zx "NoPlace" = true := List.all_eq_true.mp R _ (by decide +kernel)
theorem zhq {K : Frag} (R : zax.all (zV K zx) = true) : zV K zx "NoKind" = true := List.all_eq_true.mp R _ (by decide +kernel)
theorem ziz {K : Frag} (R : zax.all (zV K zx) = true) : zV K zx "NoMix" = true := List.all_eq_true.mp R _ (by decide +kernel)
theorem zeP {K : Frag} (R : zax.all (zV K zx) = true) : zV K zx "NoNumber" = true := List.all_eq_true.mp R _ (by decide +kernel)
theorem ziy {K : Frag} (R : zax.all (zV K zx) = true) : zV K zx "NoLot" = true := List.all_eq_true.mp R _ (by decide +kernel)
theorem zfP {K : Frag} (R : zax.all (zV K zx) = true) : zV K zx "NoKinds" = true := List.all_eq_true.mp R _ (by decide +kernel)
theorem zfN {K : Frag} (R : zax.all (zV K zx) = true) : zV K zx "NoPaper" = true := List.all_eq_true.mp R _ (by decide +kernel)
theorem zen {K : Frag} (R : zax.all (zV K zx) = true) : zV K zx "NoParting" = true := List.all_eq_true.mp R _ (by decide +kernel)
theorem zeQ {K : Frag} (R : zax.all (zV K zx) = true) : zV K zx "NoClosed" = true := List.all_eq_true.mp R _ (by decide +kernel)
theorem zfJ {K : Frag} (R : zax.all (zV K zx) = true) : zV K zx "TooMany" = true := List.all_eq_true.mp R _ (by decide +kernel)
theorem zgJ {K : Frag} (R : zax.all (zV K zx) = true) : zV K zx "NoText" = true := List.all_eq_true.mp R _ (by decide +kernel)
theorem zgD {K : Frag} (R : zax.all (zV K zx) = true) : zV K zx "NoLine" = true := List.all_eq_true.mp R _ (by decide +kernel)
theorem zg5 {K : Frag} (R : zax.all (zV K zx) = true) : zV K zx "NoDeed" = true := List.all_eq_true.mp R _ (by decide +kernel)
theorem zeg {K : Frag} (R : zax.all (zV K zx) = true) : zV K zx "NoWeights" = true := List.all_eq_true.mp R _ (by decide +kernel)
theorem ze1 {K : Frag} (R : zax.all (zV K zx) = true) : zV K zx "NotWhole" = true := List.all_eq_true.mp R _ (by decide +kernel)
theorem zeu {K : Frag} (R : zax.all (zV K zx) = true) : zV K zx "NoNumbers" = true := List.all_eq_true.mp R _ (by decide +kernel)
theorem zcg {l : List (Str × NameKind)} (h : (l.all λ y => !(y.2 == .cell)) = true) : ∀ y ∈ l, y.2 ≠ .cell := λ y hy e => by
 have q := List.all_eq_true.mp h y hy
 rw [e] at q
 cases q
theorem yE {X : Cx} {xr : XR} {e : Expr} {m : Ev} (h : Y.YE X xr e m) : SE X xr e m := by rw [Y.zw] at h; exact h
noncomputable abbrev zdV : Stmt := top 21
theorem zhR : zai ["thing"] ["thing"] (zO zdV) := ⟨rfl, rfl, rfl, by decide +kernel, rfl, by decide +kernel, by decide +kernel⟩
noncomputable def zfA : Ex := xSeq (xRet (mAnd (mIs .int (mVar 0)) (mNot (mIs .bl (mVar 0))))) (xNil)
theorem ziX {P : Program} {w : World} {K : Frag} {mg : Str -> Option Value} {base : Heap} {k : Nat} (T : Bu mg) {f : Addr} {fd : FuncData} (F : Fun K "is_whole" "is_whole" zdV f fd) (hm : mg "is_whole" = some (.ref f)) : FnM P w K mg base (k + 1) "is_whole" 1 (runB 1 (zfA)) :=
 Y.fnM F hm zhR (λ _ _ _ _ _ _ us hl => (len1 hl).elim λ a q => by subst q; rfl) λ cdv A outer s H E hr => Y.zl (Y.zU (Y.zdQ (Y.zex .int T.b_isinstance T.b_int (by rfl) (Y.zh 0)) (Y.zer (Y.zjW (Y.zex .bl T.b_isinstance T.b_bool (by rfl) (Y.zh 0)))))) (Y.zJ)
noncomputable abbrev zdr : Stmt := top 22
theorem zhu : zai ["thing", "many"] ["thing", "many"] (zO zdr) := ⟨rfl, rfl, rfl, by decide +kernel, rfl, by decide +kernel, by decide +kernel⟩
noncomputable def zcA (f_is_whole : Fn) : Ex := xSeq (xRet (mAnd (mIs .tup (mVar 0)) (mAnd (mBin gEq (mQ gLen (mSeq (mVar 0))) (mVar 1)) (mQ gAll (zT 1 [] (mIt (mVar 0)) (gVar 0) (mLit (.bl true)) (zN (zt f_is_whole (zc (mVar 0) (aNil))))))))) (xNil)
theorem zhF {P : Program} {w : World} {K : Frag} {mg : Str -> Option Value} {base : Heap} {k : Nat} (T : Bu mg) {f : Addr} {fd : FuncData} (F : Fun K "is_wholes" "is_wholes" zdr f fd) (hm : mg "is_wholes" = some (.ref f)) {f_is_whole : Fn} (zbr : FnM P w K mg base k "is_whole" 1 f_is_whole) : FnM P w K mg base (k + 1) "is_wholes" 2 (runB 2 (zcA f_is_whole)) :=
 Y.fnM F hm zhu (λ _ _ _ _ _ _ us hl => (len2 hl).elim λ a h => h.elim λ b q => by subst q; rfl) λ cdv A outer s H E hr => Y.zl (Y.zU (Y.zdQ (Y.zex .tup T.b_isinstance T.b_tuple (by rfl) (Y.zh 0)) (Y.zdQ (Y.se_c (zgn hr) (Y.zaI T.b_len (Y.sq_E (Y.zh 0))) (Y.zh 1)) (Y.zer (Y.zfg rfl T.b_all (Y.sq_F (Y.zaH (N := ["part"]) 1 [] rfl (cps (by kernel_rfl)) (by kernel_rfl) (Y.si_E (Y.zh 0)) (λ _ _ _ => ⟨Y.zaL 0 (by decide +kernel : (["part"] : List Str).Nodup), Y.zav, Y.za1 (λ _ _ z => z) (Y.zX zbr hr (Y.zi (Y.zh 0) (Y.zm)) (zj zp)) rfl⟩)))))))) (Y.zJ)
noncomputable abbrev zbo : Stmt := top 23
theorem zdG : zai ["thing", "many", "limit"] ["thing", "many", "limit"] (zO zbo) := ⟨rfl, rfl, rfl, by decide +kernel, rfl, by decide +kernel, by decide +kernel⟩
noncomputable def za4 (f_is_wholes : Fn) : Ex := xSeq (xRet (mAnd (zt f_is_wholes (zc (mVar 0) (zc (mVar 1) (aNil)))) (mQ gAll (zT 1 [2] (mIt (mVar 0)) (gVar 0) (mLit (.bl true)) (zN (zbG gLe gLt (mLit (.int 0)) (mVar 0) (mVar 1))))))) (xNil)
theorem zdY {P : Program} {w : World} {K : Frag} {mg : Str -> Option Value} {base : Heap} {k : Nat} (T : Bu mg) {f : Addr} {fd : FuncData} (F : Fun K "is_wholes_below" "is_wholes_below" zbo f fd) (hm : mg "is_wholes_below" = some (.ref f)) {f_is_wholes : Fn} (zbc : FnM P w K mg base k "is_wholes" 2 f_is_wholes) : FnM P w K mg base (k + 1) "is_wholes_below" 3 (runB 3 (za4 f_is_wholes)) :=
 Y.fnM F hm zdG (λ _ _ _ _ _ _ us hl => (len3 hl).elim λ a h => h.elim λ b h => h.elim λ c q => by subst q; rfl) λ cdv A outer s H E hr => Y.zl (Y.zU (Y.zdQ (Y.zX zbc hr (Y.zi (Y.zh 0) (Y.zi (Y.zh 1) (Y.zm))) (zj (zj zp))) (Y.zer (Y.zfg rfl T.b_all (Y.sq_F (Y.zaH (N := ["part", "limit"]) 1 [2] rfl (cps (by kernel_rfl)) (by kernel_rfl) (Y.si_E (Y.zh 0)) (λ _ _ _ => ⟨Y.zaL 0 (by decide +kernel : (["part", "limit"] : List Str).Nodup), Y.zav, Y.za1 (λ _ _ z => z) (Y.zmu c_le c_lt (Y.zq) (Y.zh 0) (Y.zh 1)) rfl⟩))))))) (Y.zJ)
noncomputable abbrev zd9 : Stmt := top 26
theorem ze9 : zai ["thing", "many"] ["thing"] (zO zd9) := ⟨rfl, rfl, rfl, by decide +kernel, rfl, by decide +kernel, by decide +kernel⟩
noncomputable def zcc (f_is_even : Fn) (f_is_wholes_below : Fn) (f_leaves_no_kind_out : Fn) : Ex := xSeq (xIf (mOr (mNot (mIs .tup (mVar 0))) (mNot (zbG gLe gLe (mLit (.int 1)) (mQ gLen (mSeq (mVar 0))) (mLit (.int 8))))) (xSeq (xRet (mLit (.bl false))) (xNil)) (xNil)) (xSeq (xSet 1 (mQ gLen (mSeq (mVar 0)))) (xSeq (xIf (mNot (mQ gAll (zT 1 [1] (mIt (mVar 0)) (gVar 0) (mLit (.bl true)) (zN (zt f_is_wholes_below (zc (mVar 0) (zc (mVar 1) (zc (mVar 1) (aNil))))))))) (xSeq (xRet (mLit (.bl false))) (xNil)) (xNil)) (xSeq (xRet (mAnd (zt f_is_even (zc (mVar 0) (aNil))) (zt f_leaves_no_kind_out (zc (mVar 0) (aNil))))) (xNil))))
theorem ziZ {P : Program} {w : World} {K : Frag} {mg : Str -> Option Value} {base : Heap} {k : Nat} (T : Bu mg) {f : Addr} {fd : FuncData} (F : Fun K "is_table" "is_table" zd9 f fd) (hm : mg "is_table" = some (.ref f)) {f_is_even : Fn} (zcR : FnM P w K mg base k "is_even" 1 f_is_even) {f_is_wholes_below : Fn} (zag : FnM P w K mg base k "is_wholes_below" 3 f_is_wholes_below) {f_leaves_no_kind_out : Fn} (zaA : FnM P w K mg base k "leaves_no_kind_out" 1 f_leaves_no_kind_out) : FnM P w K mg base (k + 1) "is_table" 1 (runB 2 (zcc f_is_even f_is_wholes_below f_leaves_no_kind_out)) :=
 Y.fnM F hm ze9 (λ _ _ _ _ _ _ us hl => (len1 hl).elim λ a q => by subst q; rfl) λ cdv A outer s H E hr => Y.zl (Y.zci (Y.zeT (Y.zkf (Y.zdS (Y.zcf (Y.zex .tup T.b_isinstance T.b_tuple (by rfl) (Y.zh 0)))) (Y.zgy (Y.zdS (Y.zmB c_le c_le (Y.zq) (Y.zaI T.b_len (Y.sq_E (Y.zh 0))) (Y.zgp rfl T.c_MOST_PLACES.choose_spec)))))) (Y.zl (Y.zU (Y.zdk)) (Y.zJ)) (Y.zJ)) (Y.zl (Y.zat 1 ze9.nd (Y.zaI T.b_len (Y.sq_E (Y.zh 0)))) (Y.zl (Y.zci (Y.zdS (Y.zcf (Y.zfg rfl T.b_all (Y.sq_F (Y.zaH (N := ["row", "many"]) 1 [1] rfl (cps (by kernel_rfl)) (by kernel_rfl) (Y.si_E (Y.zh 0)) (λ _ _ _ => ⟨Y.zaL 0 (by decide +kernel : (["row", "many"] : List Str).Nodup), Y.zav, Y.za1 (λ _ _ z => z) (Y.zX zag hr (Y.zi (Y.zh 0) (Y.zi (Y.zh 1) (Y.zi (Y.zh 1) (Y.zm)))) (zj (zj (zj zp)))) rfl⟩)))))) (Y.zl (Y.zU (Y.zdk)) (Y.zJ)) (Y.zJ)) (Y.zl (Y.zU (Y.zdQ (Y.zX zcR hr (Y.zi (Y.zh 0) (Y.zm)) (zj zp)) (Y.zer (Y.zX zaA hr (Y.zi (Y.zh 0) (Y.zm)) (zj zp))))) (Y.zJ))))
noncomputable abbrev ze0 : Stmt := top 27
theorem zd0 : zai ["rows", "a", "row", "b", "kind"] ["rows"] (zO ze0) := ⟨rfl, rfl, rfl, by decide +kernel, rfl, by decide +kernel, by decide +kernel⟩
noncomputable def zfc : Ex := xSeq (xFor (zh8 (mVar 0)) (zbE 1 2) (xSeq (xFor (zh8 (mVar 2)) (zbE 3 4) (xSeq (xIf (mOr (mBin gNe (mBin gEq (mVar 4) (mLit (.int 0))) (mBin gEq (mVar 1) (mVar 3))) (mBin gNe (mBin gIx (mBin gIx (mVar 0) (mVar 3)) (mVar 1)) (mVar 4))) (xSeq (xRet (mLit (.bl false))) (xNil)) (xNil)) (xNil))) (xNil))) (xSeq (xRet (mLit (.bl true))) (xNil))
theorem zjd {P : Program} {w : World} {K : Frag} {mg : Str -> Option Value} {base : Heap} {k : Nat} (T : Bu mg) {f : Addr} {fd : FuncData} (F : Fun K "is_even" "is_even" ze0 f fd) (hm : mg "is_even" = some (.ref f)) : FnM P w K mg base (k + 1) "is_even" 1 (runB 5 (zfc)) :=
 Y.fnM F hm zd0 (λ _ _ _ _ _ _ us hl => (len1 hl).elim λ a q => by subst q; rfl) λ cdv A outer s H E hr => Y.zl (Y.zcK PassesOwn.never rfl (Y.zfY rfl T.b_enumerate (Y.zh 0)) (Y.zbP 1 2 rfl zd0.nd) (Y.zl (Y.zcK PassesOwn.never rfl (Y.zfY rfl T.b_enumerate (Y.zh 2)) (Y.zbP 3 4 rfl zd0.nd) (Y.zl (Y.zci (Y.zeT (Y.zkf (Y.st_c (zhB hr) (Y.se_c (zgn hr) (Y.zh 4) (Y.zq)) (Y.se_c (zgn hr) (Y.zh 1) (Y.zh 3))) (Y.zgy (Y.st_c (zhB hr) (Y.za7 (Y.za7 (Y.zh 0) (Y.zh 3)) (Y.zh 1)) (Y.zh 4))))) (Y.zl (Y.zU (Y.zdk)) (Y.zJ)) (Y.zJ)) (Y.zJ))) (Y.zJ))) (Y.zl (Y.zU (Y.zdk)) (Y.zJ))
noncomputable abbrev za6 : Stmt := top 28
theorem zbA : zai ["rows", "standing"] ["rows"] (zO za6) := ⟨rfl, rfl, rfl, by decide +kernel, rfl, by decide +kernel, by decide +kernel⟩
noncomputable def za8 : Ex := xSeq (xSet 1 (zb7 (zT 2 [] (mIt (mVar 0)) (gVar 0) (mLit (.bl true)) (zeB (mIt (mVar 0)) (gVar 1) (mLit (.bl true)) (zN (mVar 1)))))) (xSeq (xRet (mQ gAll (zT 1 [1] (zbq (mQ gMax (mSeq (mVar 1)))) (gVar 0) (mLit (.bl true)) (zN (mBin gIn (mVar 0) (mVar 1)))))) (xNil))
theorem zdi {P : Program} {w : World} {K : Frag} {mg : Str -> Option Value} {base : Heap} {k : Nat} (T : Bu mg) {f : Addr} {fd : FuncData} (F : Fun K "leaves_no_kind_out" "leaves_no_kind_out" za6 f fd) (hm : mg "leaves_no_kind_out" = some (.ref f)) : FnM P w K mg base (k + 1) "leaves_no_kind_out" 1 (runB 2 (za8)) :=
 Y.fnM F hm zbA (λ _ _ _ _ _ _ us hl => (len1 hl).elim λ a q => by subst q; rfl) λ cdv A outer s H E hr => Y.zl (Y.zat 1 zbA.nd (Y.ze4 (Y.zaH (N := ["row", "kind"]) 2 [] rfl (cps (by kernel_rfl)) (by kernel_rfl) (Y.si_E (Y.zh 0)) (λ _ _ _ => ⟨Y.zaL 0 (by decide +kernel : (["row", "kind"] : List Str).Nodup), Y.zav, Y.zik (λ _ _ z => z) rfl rfl (by intro _ h; cases h <;> rfl) (Y.si_E (Y.zh 0)) (Y.zaL 1 (by decide +kernel : (["row", "kind"] : List Str).Nodup)) (Y.zav) (Y.za1 (λ _ _ z => z) (Y.zh 1) rfl)⟩)))) (Y.zl (Y.zU (Y.zfg rfl T.b_all (Y.sq_F (Y.zaH (N := ["kind", "standing"]) 1 [1] rfl (cps (by kernel_rfl)) (by kernel_rfl) (Y.zaU rfl T.b_range (Y.zdx rfl T.b_max (Y.sq_E (Y.zh 1)))) (λ _ _ _ => ⟨Y.zaL 0 (by decide +kernel : (["kind", "standing"] : List Str).Nodup), Y.zav, Y.za1 (λ _ _ z => z) (Y.zmf c_in (Y.zh 0) (Y.zh 1)) rfl⟩))))) (Y.zJ))
noncomputable abbrev zbQ : Stmt := top 29
theorem zeD : zai ["table"] ["table"] (zO zbQ) := ⟨rfl, rfl, rfl, by decide +kernel, rfl, by decide +kernel, by decide +kernel⟩
noncomputable def zbg (f_is_table : Fn) : Ex := xSeq (xIf ((λ ρ A => ((mNot (zt f_is_table (zc (mVar 0) (aNil)))) ρ A).nox)) (xSeq (zg0 "NoTable" (zc (mLit (.str "this is no table")) (aNil))) (xNil)) (xNil)) (xNil)
theorem zfb {P : Program} {w : World} {K : Frag} {mg : Str -> Option Value} {base : Heap} {k : Nat} (T : Bu mg) (C : Cls K zx "NearError") {f : Addr} {fd : FuncData} (F : Fun K "require_table" "require_table" zbQ f fd) (hm : mg "require_table" = some (.ref f)) {f_is_table : Fn} (zah : FnM P w K mg base k "is_table" 1 f_is_table) : FnX P w K mg base (k + 1) "require_table" 1 (runX 1 (zbg f_is_table)) :=
 Y.fnX F hm zeD (λ _ _ _ _ _ _ us hl => (len1 hl).elim λ a q => by subst q; rfl) λ cdv A outer s H E hr xo => Y.zl (Y.zci (Y.zij (Y.zdS (Y.zcf (Y.zX zah hr (Y.zi (Y.zh 0) (Y.zm)) (zj zp))))) (Y.zl (Y.zdL xo (C.exc "NoTable" (by decide +kernel)) (Y.zi (Y.zgW) (Y.zm)) (zj zp)) (Y.zJ)) (Y.zJ)) (Y.zJ)
noncomputable abbrev zcw : Stmt := top 30
theorem zfs : zai ["table"] ["table"] (zO zcw) := ⟨rfl, rfl, rfl, by decide +kernel, rfl, by decide +kernel, by decide +kernel⟩
noncomputable def zcG : Ex := xSeq (xRet (mBin gAdd (mQ gMax (zT 1 [] (mIt (mVar 0)) (gVar 0) (mLit (.bl true)) (zN (mQ gMax (mSeq (mVar 0)))))) (mLit (.int 1)))) (xNil)
theorem zf6 {P : Program} {w : World} {K : Frag} {mg : Str -> Option Value} {base : Heap} {k : Nat} (T : Bu mg) {f : Addr} {fd : FuncData} (F : Fun K "count_kinds" "count_kinds" zcw f fd) (hm : mg "count_kinds" = some (.ref f)) : FnM P w K mg base (k + 1) "count_kinds" 1 (runB 1 (zcG)) :=
 Y.fnM F hm zfs (λ _ _ _ _ _ _ us hl => (len1 hl).elim λ a q => by subst q; rfl) λ cdv A outer s H E hr => Y.zl (Y.zU (Y.za5 (Y.zdx rfl T.b_max (Y.sq_F (Y.zaH (N := ["row"]) 1 [] rfl (cps (by kernel_rfl)) (by kernel_rfl) (Y.si_E (Y.zh 0)) (λ _ _ _ => ⟨Y.zaL 0 (by decide +kernel : (["row"] : List Str).Nodup), Y.zav, Y.za1 (λ _ _ z => z) (Y.zdx rfl T.b_max (Y.sq_E (Y.zh 0))) rfl⟩)))) (Y.zq))) (Y.zJ)
noncomputable abbrev za0 : Stmt := top 32
theorem zcF : zai ["one", "other"] ["one", "other"] (zO za0) := ⟨rfl, rfl, rfl, by decide +kernel, rfl, by decide +kernel, by decide +kernel⟩
noncomputable def zan (fX_require_table : Fn) : Ex := xSeq (xDo (zt fX_require_table (zc (mVar 0) (aNil)))) (xSeq (xDo (zt fX_require_table (zc (mVar 1) (aNil)))) (xSeq (xIf ((λ ρ A => ((mBin gGt (mBin gMul (mQ gLen (mSeq (mVar 0))) (mQ gLen (mSeq (mVar 1)))) (mLit (.int 8))) ρ A).nox)) (xSeq (zg0 "TooMany" (zc (mLit (.str "the tables have more than 8 places together")) (aNil))) (xNil)) (xNil)) (xNil)))
theorem zcN {P : Program} {w : World} {K : Frag} {mg : Str -> Option Value} {base : Heap} {k : Nat} (T : Bu mg) (C : Cls K zx "NearError") {f : Addr} {fd : FuncData} (F : Fun K "require_few_together" "require_few_together" za0 f fd) (hm : mg "require_few_together" = some (.ref f)) {fX_require_table : Fn} (X_require_table : FnX P w K mg base k "require_table" 1 fX_require_table) : FnX P w K mg base (k + 1) "require_few_together" 2 (runX 2 (zan fX_require_table)) :=
 Y.fnX F hm zcF (λ _ _ _ _ _ _ us hl => (len2 hl).elim λ a h => h.elim λ b q => by subst q; rfl) λ cdv A outer s H E hr xo => Y.zl (Y.zbl (Y.za9 xo X_require_table hr (Y.zi (Y.zh 0) (Y.zm)) (zj zp))) (Y.zl (Y.zbl (Y.za9 xo X_require_table hr (Y.zi (Y.zh 1) (Y.zm)) (zj zp))) (Y.zl (Y.zci (Y.zij (Y.st_c c_gt (Y.zby (Y.zaI T.b_len (Y.sq_E (Y.zh 0))) (Y.zaI T.b_len (Y.sq_E (Y.zh 1)))) (Y.zgp rfl T.c_MOST_PLACES.choose_spec))) (Y.zl (Y.zdL xo (C.exc "TooMany" (by decide +kernel)) (Y.zi (Y.zgW) (Y.zm)) (zj zp)) (Y.zJ)) (Y.zJ)) (Y.zJ)))
noncomputable abbrev zcl : Stmt := top 33
theorem zfr : zai ["one", "other"] ["one", "other"] (zO zcl) := ⟨rfl, rfl, rfl, by decide +kernel, rfl, by decide +kernel, by decide +kernel⟩
noncomputable def zco : Ex := xSeq (xRet (zb7 (zT 2 [1] (zbq (mQ gLen (mSeq (mVar 0)))) (gVar 0) (mLit (.bl true)) (zeB (zbq (mQ gLen (mSeq (mVar 2)))) (gVar 1) (mLit (.bl true)) (zN (mTup (zc (mVar 0) (zc (mVar 1) (aNil))))))))) (xNil)
theorem zf1 {P : Program} {w : World} {K : Frag} {mg : Str -> Option Value} {base : Heap} {k : Nat} (T : Bu mg) {f : Addr} {fd : FuncData} (F : Fun K "pair_places" "pair_places" zcl f fd) (hm : mg "pair_places" = some (.ref f)) : FnM P w K mg base (k + 1) "pair_places" 2 (runB 2 (zco)) :=
 Y.fnM F hm zfr (λ _ _ _ _ _ _ us hl => (len2 hl).elim λ a h => h.elim λ b q => by subst q; rfl) λ cdv A outer s H E hr => Y.zl (Y.zU (Y.ze4 (Y.zaH (N := ["first", "second", "other"]) 2 [1] rfl (cps (by kernel_rfl)) (by kernel_rfl) (Y.zaU rfl T.b_range (Y.zaI T.b_len (Y.sq_E (Y.zh 0)))) (λ _ _ _ => ⟨Y.zaL 0 (by decide +kernel : (["first", "second", "other"] : List Str).Nodup), Y.zav, Y.zik (λ _ _ z => z) rfl rfl (by intro _ h; cases h <;> rfl) (Y.zaU rfl T.b_range (Y.zaI T.b_len (Y.sq_E (Y.zh 2)))) (Y.zaL 1 (by decide +kernel : (["first", "second", "other"] : List Str).Nodup)) (Y.zav) (Y.za1 (λ _ _ z => z) (Y.zak (Y.zi (Y.zh 0) (Y.zi (Y.zh 1) (Y.zm))) (zj (zj zp))) rfl)⟩)))) (Y.zJ)
noncomputable abbrev zcP : Stmt := top 34
theorem zcB : zai ["one", "other", "many", "places"] ["one", "other"] (zO zcP) := ⟨rfl, rfl, rfl, by decide +kernel, rfl, by decide +kernel, by decide +kernel⟩
noncomputable def zbC (f_count_kinds : Fn) (f_pair_places : Fn) (fX_require_few_together : Fn) : Ex := xSeq (xDo (zt fX_require_few_together (zc (mVar 0) (zc (mVar 1) (aNil))))) ((λ ρ A => ((xSeq (xSet 2 (zt f_count_kinds (zc (mVar 1) (aNil)))) (xSeq (xSet 3 (zt f_pair_places (zc (mVar 0) (zc (mVar 1) (aNil))))) (xSeq (xRet (mQ gTup (zT 2 [0, 1, 2, 3] (mIt (mVar 3)) (zbE 0 1) (mLit (.bl true)) (zN (mQ gTup (zT 2 [0, 1, 2, 3, 4] (mIt (mVar 5)) (zbE 0 1) (mLit (.bl true)) (zN (mBin gAdd (mBin gMul (mBin gIx (mBin gIx (mVar 4) (mVar 2)) (mVar 0)) (mVar 6)) (mBin gIx (mBin gIx (mVar 5) (mVar 3)) (mVar 1)))))))))) (xNil)))) ρ A).nox))
theorem zhn {P : Program} {w : World} {K : Frag} {mg : Str -> Option Value} {base : Heap} {k : Nat} (T : Bu mg) (C : Cls K zx "NearError") {f : Addr} {fd : FuncData} (F : Fun K "put_beside" "put_beside" zcP f fd) (hm : mg "put_beside" = some (.ref f)) {f_count_kinds : Fn} (zaC : FnM P w K mg base k "count_kinds" 1 f_count_kinds) {f_pair_places : Fn} (zaB : FnM P w K mg base k "pair_places" 2 f_pair_places) {fX_require_few_together : Fn} (X_require_few_together : FnX P w K mg base k "require_few_together" 2 fX_require_few_together) : FnX P w K mg base (k + 1) "put_beside" 2 (runX 4 (zbC f_count_kinds f_pair_places fX_require_few_together)) :=
 Y.fnX F hm zcB (λ _ _ _ _ _ _ us hl => (len2 hl).elim λ a h => h.elim λ b q => by subst q; rfl) λ cdv A outer s H E hr xo => Y.zl (Y.zbl (Y.za9 xo X_require_few_together hr (Y.zi (Y.zh 0) (Y.zi (Y.zh 1) (Y.zm))) (zj (zj zp)))) (Y.zgs (Y.zl (Y.zat 2 zcB.nd (Y.zX zaC hr (Y.zi (Y.zh 1) (Y.zm)) (zj zp))) (Y.zl (Y.zat 3 zcB.nd (Y.zX zaB hr (Y.zi (Y.zh 0) (Y.zi (Y.zh 1) (Y.zm))) (zj (zj zp)))) (Y.zl (Y.zU (Y.zaJ T.b_tuple (Y.sq_F (Y.zaH (N := ["a", "b", "one", "other", "many", "places"]) 2 [0, 1, 2, 3] rfl (cps (by kernel_rfl)) (by kernel_rfl) (Y.si_E (Y.zh 3)) (λ _ _ _ => ⟨Y.zbP 0 1 rfl (by decide +kernel : (["a", "b", "one", "other", "many", "places"] : List Str).Nodup), Y.zav, Y.za1 (λ _ _ z => z) (Y.zaJ T.b_tuple (Y.sq_F (Y.zaH (N := ["c", "e", "a", "b", "one", "other", "many"]) 2 [0, 1, 2, 3, 4] rfl (cps (by kernel_rfl)) (by kernel_rfl) (Y.si_E (Y.zh 5)) (λ _ _ _ => ⟨Y.zbP 0 1 rfl (by decide +kernel : (["c", "e", "a", "b", "one", "other", "many"] : List Str).Nodup), Y.zav, Y.za1 (λ _ _ z => z) (Y.za5 (Y.zby (Y.za7 (Y.za7 (Y.zh 4) (Y.zh 2)) (Y.zh 0)) (Y.zh 6)) (Y.za7 (Y.za7 (Y.zh 5) (Y.zh 3)) (Y.zh 1))) rfl⟩)))) rfl⟩))))) (Y.zJ)))))
noncomputable abbrev zcX : Stmt := top 35
theorem zcs : zai ["one", "other", "last", "places"] ["one", "other"] (zO zcX) := ⟨rfl, rfl, rfl, by decide +kernel, rfl, by decide +kernel, by decide +kernel⟩
noncomputable def zbz (f_count_kinds : Fn) (f_pair_places : Fn) (fX_require_few_together : Fn) : Ex := xSeq (xDo (zt fX_require_few_together (zc (mVar 0) (zc (mVar 1) (aNil))))) ((λ ρ A => ((xSeq (xSet 2 (mBin gSub (zt f_count_kinds (zc (mVar 1) (aNil))) (mLit (.int 1)))) (xSeq (xSet 3 (zt f_pair_places (zc (mVar 0) (zc (mVar 1) (aNil))))) (xSeq (xRet (mQ gTup (zT 2 [0, 1, 2, 3] (mIt (mVar 3)) (zbE 0 1) (mLit (.bl true)) (zN (mQ gTup (zT 2 [0, 1, 2, 3, 4] (mIt (mVar 5)) (zbE 0 1) (mLit (.bl true)) (zN (mIf (mBin gEq (mVar 2) (mVar 0)) (mBin gIx (mBin gIx (mVar 5) (mVar 3)) (mVar 1)) (mBin gAdd (mBin gIx (mBin gIx (mVar 4) (mVar 2)) (mVar 0)) (mVar 6)))))))))) (xNil)))) ρ A).nox))
theorem zgX {P : Program} {w : World} {K : Frag} {mg : Str -> Option Value} {base : Heap} {k : Nat} (T : Bu mg) (C : Cls K zx "NearError") {f : Addr} {fd : FuncData} (F : Fun K "put_within" "put_within" zcX f fd) (hm : mg "put_within" = some (.ref f)) {f_count_kinds : Fn} (zaC : FnM P w K mg base k "count_kinds" 1 f_count_kinds) {f_pair_places : Fn} (zaB : FnM P w K mg base k "pair_places" 2 f_pair_places) {fX_require_few_together : Fn} (X_require_few_together : FnX P w K mg base k "require_few_together" 2 fX_require_few_together) : FnX P w K mg base (k + 1) "put_within" 2 (runX 4 (zbz f_count_kinds f_pair_places fX_require_few_together)) :=
 Y.fnX F hm zcs (λ _ _ _ _ _ _ us hl => (len2 hl).elim λ a h => h.elim λ b q => by subst q; rfl) λ cdv A outer s H E hr xo => Y.zl (Y.zbl (Y.za9 xo X_require_few_together hr (Y.zi (Y.zh 0) (Y.zi (Y.zh 1) (Y.zm))) (zj (zj zp)))) (Y.zgs (Y.zl (Y.zat 2 zcs.nd (Y.zep (Y.zX zaC hr (Y.zi (Y.zh 1) (Y.zm)) (zj zp)) (Y.zq))) (Y.zl (Y.zat 3 zcs.nd (Y.zX zaB hr (Y.zi (Y.zh 0) (Y.zi (Y.zh 1) (Y.zm))) (zj (zj zp)))) (Y.zl (Y.zU (Y.zaJ T.b_tuple (Y.sq_F (Y.zaH (N := ["a", "b", "one", "other", "last", "places"]) 2 [0, 1, 2, 3] rfl (cps (by kernel_rfl)) (by kernel_rfl) (Y.si_E (Y.zh 3)) (λ _ _ _ => ⟨Y.zbP 0 1 rfl (by decide +kernel : (["a", "b", "one", "other", "last", "places"] : List Str).Nodup), Y.zav, Y.za1 (λ _ _ z => z) (Y.zaJ T.b_tuple (Y.sq_F (Y.zaH (N := ["c", "e", "a", "b", "one", "other", "last"]) 2 [0, 1, 2, 3, 4] rfl (cps (by kernel_rfl)) (by kernel_rfl) (Y.si_E (Y.zh 5)) (λ _ _ _ => ⟨Y.zbP 0 1 rfl (by decide +kernel : (["c", "e", "a", "b", "one", "other", "last"] : List Str).Nodup), Y.zav, Y.za1 (λ _ _ z => z) (Y.ziT (Y.st_c (zgn hr) (Y.zh 2) (Y.zh 0)) (Y.za7 (Y.za7 (Y.zh 5) (Y.zh 3)) (Y.zh 1)) (Y.za5 (Y.za7 (Y.za7 (Y.zh 4) (Y.zh 2)) (Y.zh 0)) (Y.zh 6))) rfl⟩)))) rfl⟩))))) (Y.zJ)))))
noncomputable abbrev zb9 : Stmt := top 37
theorem zas : zai ["_law_call", "_law_error", "e", "_law_marks"] ["_law_call"] (zO zb9) := ⟨rfl, rfl, rfl, by decide +kernel, rfl, by decide +kernel, by decide +kernel⟩
noncomputable def zbS : Ex := xSeq (xSet 3 (mLst (zc (mIsX (isF zx "NoTable") (mVar 1)) (zc (mIsX (isF zx "NotSteady") (mVar 1)) (zc (mIsX (isF zx "NoPlace") (mVar 1)) (aNil)))))) (xSeq (xSet 3 (mBin gAdd (mVar 3) (mLst (zc (mIsX (isF zx "NoKind") (mVar 1)) (zc (mIsX (isF zx "NoMix") (mVar 1)) (zc (mIsX (isF zx "NoNumber") (mVar 1)) (aNil))))))) (xSeq (xSet 3 (mBin gAdd (mVar 3) (mLst (zc (mIsX (isF zx "NoLot") (mVar 1)) (zc (mIsX (isF zx "NoKinds") (mVar 1)) (zc (mIsX (isF zx "NoPaper") (mVar 1)) (aNil))))))) (xSeq (xSet 3 (mBin gAdd (mVar 3) (mLst (zc (mIsX (isF zx "NoParting") (mVar 1)) (zc (mIsX (isF zx "NoClosed") (mVar 1)) (zc (mIsX (isF zx "TooMany") (mVar 1)) (aNil))))))) (xSeq (xSet 3 (mBin gAdd (mVar 3) (mLst (zc (mIsX (isF zx "NoText") (mVar 1)) (zc (mIsX (isF zx "NoLine") (mVar 1)) (zc (mIsX (isF zx "NoDeed") (mVar 1)) (aNil))))))) (xSeq (xSet 3 (mBin gAdd (mVar 3) (mLst (zc (mIsX (isF zx "NoWeights") (mVar 1)) (zc (mIsX (isF zx "NotWhole") (mVar 1)) (zc (mIsX (isF zx "NoNumbers") (mVar 1)) (aNil))))))) (xSeq (xIf (mNot (mIsX (isV zx) (mVar 1))) (xSeq (xRet (mLit .non)) (xNil)) (xNil)) (xSeq (xRet (zb7 (zT 1 [3] (zbq (mLit (.int 18))) (gVar 0) (mBin gIx (mVar 1) (mVar 0)) (zN (mVar 0))))) (xNil))))))))
noncomputable def zaE (PG : PFam) (lam : Nat -> Fn) : Ex := xSeq (xSet 1 (mLit .non)) (xSeq (xTry 0 1 2 zx PG lam) zbS)
theorem zdq {P : Program} {w : World} {K : Frag} {mg : Str -> Option Value} {base : Heap} {k : Nat} (T : Bu mg) (C : Cls K zx "NearError") (R : zax.all (zV K zx) = true) {f : Addr} {fd : FuncData} (F : Fun K "_law_refused" "_law_refused" zb9 f fd) (hm : mg "_law_refused" = some (.ref f)) {PG : PFam} {lam : Nat -> Fn} {kk : Nat} (hkk : kk <= k) (hL : ∀ k, zck P w K mg base kk (PG k) (lam k)) : FnM P w K mg base (k + 1) "_law_refused" 1 (runB 4 (zaE PG lam)) :=
 Y.fnM F hm zas (λ _ _ _ _ _ _ us hl => (len1 hl).elim λ a q => by subst q; rfl) λ cdv A outer s H E hr => Y.zl (Y.zat 1 zas.nd (Y.zeq)) (Y.zl (Y.zjC hL (hr.mono hkk) rfl rfl C.top_at C.top_exc (by decide +kernel) C.under zas.nd rfl rfl rfl rfl rfl rfl rfl) (Y.zl (Y.zat 3 zas.nd (Y.zaz (Y.zi (Y.zbe (C.isx (zfv R)) (zbk (zfv R)) T.b_isinstance (Y.zh 1)) (Y.zi (Y.zbe (C.isx (zes R)) (zbk (zes R)) T.b_isinstance (Y.zh 1)) (Y.zi (Y.zbe (C.isx (zfR R)) (zbk (zfR R)) T.b_isinstance (Y.zh 1)) (Y.zm)))) (zj (zj (zj zp))))) (Y.zl (Y.zat 3 zas.nd (Y.za5 (Y.zh 3) (Y.zaz (Y.zi (Y.zbe (C.isx (zhq R)) (zbk (zhq R)) T.b_isinstance (Y.zh 1)) (Y.zi (Y.zbe (C.isx (ziz R)) (zbk (ziz R)) T.b_isinstance (Y.zh 1)) (Y.zi (Y.zbe (C.isx (zeP R)) (zbk (zeP R)) T.b_isinstance (Y.zh 1)) (Y.zm)))) (zj (zj (zj zp)))))) (Y.zl (Y.zat 3 zas.nd (Y.za5 (Y.zh 3) (Y.zaz (Y.zi (Y.zbe (C.isx (ziy R)) (zbk (ziy R)) T.b_isinstance (Y.zh 1)) (Y.zi (Y.zbe (C.isx (zfP R)) (zbk (zfP R)) T.b_isinstance (Y.zh 1)) (Y.zi (Y.zbe (C.isx (zfN R)) (zbk (zfN R)) T.b_isinstance (Y.zh 1)) (Y.zm)))) (zj (zj (zj zp)))))) (Y.zl (Y.zat 3 zas.nd (Y.za5 (Y.zh 3) (Y.zaz (Y.zi (Y.zbe (C.isx (zen R)) (zbk (zen R)) T.b_isinstance (Y.zh 1)) (Y.zi (Y.zbe (C.isx (zeQ R)) (zbk (zeQ R)) T.b_isinstance (Y.zh 1)) (Y.zi (Y.zbe (C.isx (zfJ R)) (zbk (zfJ R)) T.b_isinstance (Y.zh 1)) (Y.zm)))) (zj (zj (zj zp)))))) (Y.zl (Y.zat 3 zas.nd (Y.za5 (Y.zh 3) (Y.zaz (Y.zi (Y.zbe (C.isx (zgJ R)) (zbk (zgJ R)) T.b_isinstance (Y.zh 1)) (Y.zi (Y.zbe (C.isx (zgD R)) (zbk (zgD R)) T.b_isinstance (Y.zh 1)) (Y.zi (Y.zbe (C.isx (zg5 R)) (zbk (zg5 R)) T.b_isinstance (Y.zh 1)) (Y.zm)))) (zj (zj (zj zp)))))) (Y.zl (Y.zat 3 zas.nd (Y.za5 (Y.zh 3) (Y.zaz (Y.zi (Y.zbe (C.isx (zeg R)) (zbk (zeg R)) T.b_isinstance (Y.zh 1)) (Y.zi (Y.zbe (C.isx (ze1 R)) (zbk (ze1 R)) T.b_isinstance (Y.zh 1)) (Y.zi (Y.zbe (C.isx (zeu R)) (zbk (zeu R)) T.b_isinstance (Y.zh 1)) (Y.zm)))) (zj (zj (zj zp)))))) (Y.zl (Y.zci (Y.zdS (Y.zcf (Y.zhN C.isv T.b_isinstance T.b_ValueError (by rfl) (Y.zh 1)))) (Y.zl (Y.zU (Y.zeq)) (Y.zJ)) (Y.zJ)) (Y.zl (Y.zU (Y.ze4 (Y.zaH (N := ["_law_k", "_law_marks"]) 1 [3] rfl (cps (by kernel_rfl)) (by kernel_rfl) (Y.zaU rfl T.b_range (Y.zq)) (λ _ _ _ => ⟨Y.zaL 0 (by decide +kernel : (["_law_k", "_law_marks"] : List Str).Nodup), Y.zhI (Y.zcf (Y.za7 (Y.zh 1) (Y.zh 0))), Y.za1 (λ _ _ z => z) (Y.zh 0) rfl⟩)))) (Y.zJ))))))))))
noncomputable abbrev zdD : Stmt := top 38
theorem zhA : zai ["_law_found", "_law_due"] ["_law_found", "_law_due"] (zO zdD) := ⟨rfl, rfl, rfl, by decide +kernel, rfl, by decide +kernel, by decide +kernel⟩
noncomputable def za2 (f__law_same : Fn) : Ex := xSeq (xIf (mIs2 .tup .lst (mVar 1)) (xSeq (xIf (mOr (mBin gNe (mIs .tup (mVar 0)) (mIs .tup (mVar 1))) (mBin gNe (mIs .lst (mVar 0)) (mIs .lst (mVar 1)))) (xSeq (xRet (mLit (.bl false))) (xNil)) (xNil)) (xSeq (xIf (mBin gNe (mQ gLen (mSeq (mVar 0))) (mQ gLen (mSeq (mVar 1)))) (xSeq (xRet (mLit (.bl false))) (xNil)) (xNil)) (xSeq (xRet (mQ gAll (zT 2 [] (mZip (mVar 0) (mVar 1)) (zbE 0 1) (mLit (.bl true)) (zN (zt f__law_same (zc (mVar 0) (zc (mVar 1) (aNil)))))))) (xNil)))) (xNil)) (xSeq (xRet (mAnd (mBin gEq (mVar 0) (mVar 1)) (mBin gEq (mIs .bl (mVar 0)) (mIs .bl (mVar 1))))) (xNil))
theorem zdA {P : Program} {w : World} {K : Frag} {mg : Str -> Option Value} {base : Heap} {k : Nat} (T : Bu mg) {f : Addr} {fd : FuncData} (F : Fun K "_law_same" "_law_same" zdD f fd) (hm : mg "_law_same" = some (.ref f)) {f__law_same : Fn} (za3 : FnM P w K mg base k "_law_same" 2 f__law_same) : FnM P w K mg base (k + 1) "_law_same" 2 (runB 2 (za2 f__law_same)) :=
 Y.fnM F hm zhA (λ _ _ _ _ _ _ us hl => (len2 hl).elim λ a h => h.elim λ b q => by subst q; rfl) λ cdv A outer s H E hr => Y.zl (Y.zci (Y.zcf (Y.zj1 .tup .lst T.b_isinstance T.b_tuple T.b_list (by rfl) (by rfl) (Y.zh 1))) (Y.zl (Y.zci (Y.zeT (Y.zkf (Y.st_c (zhB hr) (Y.zex .tup T.b_isinstance T.b_tuple (by rfl) (Y.zh 0)) (Y.zex .tup T.b_isinstance T.b_tuple (by rfl) (Y.zh 1))) (Y.zgy (Y.st_c (zhB hr) (Y.zex .lst T.b_isinstance T.b_list (by rfl) (Y.zh 0)) (Y.zex .lst T.b_isinstance T.b_list (by rfl) (Y.zh 1)))))) (Y.zl (Y.zU (Y.zdk)) (Y.zJ)) (Y.zJ)) (Y.zl (Y.zci (Y.st_c (zhB hr) (Y.zaI T.b_len (Y.sq_E (Y.zh 0))) (Y.zaI T.b_len (Y.sq_E (Y.zh 1)))) (Y.zl (Y.zU (Y.zdk)) (Y.zJ)) (Y.zJ)) (Y.zl (Y.zU (Y.zfg rfl T.b_all (Y.sq_F (Y.zaH (N := ["_law_one", "_law_other"]) 2 [] rfl (cps (by kernel_rfl)) (by kernel_rfl) (Y.zjk rfl T.b_zip (Y.zh 0) (Y.zh 1)) (λ _ _ _ => ⟨Y.zbP 0 1 rfl (by decide +kernel : (["_law_one", "_law_other"] : List Str).Nodup), Y.zav, Y.za1 (λ _ _ z => z) (Y.zX za3 hr (Y.zi (Y.zh 0) (Y.zi (Y.zh 1) (Y.zm))) (zj (zj zp))) rfl⟩))))) (Y.zJ)))) (Y.zJ)) (Y.zl (Y.zU (Y.zdQ (Y.se_c (zgn hr) (Y.zh 0) (Y.zh 1)) (Y.zer (Y.se_c (zgn hr) (Y.zex .bl T.b_isinstance T.b_bool (by rfl) (Y.zh 0)) (Y.zex .bl T.b_isinstance T.b_bool (by rfl) (Y.zh 1)))))) (Y.zJ))
noncomputable abbrev zca : Stmt := top 39
theorem zeV : zai ["_law_script", "_law_k"] ["_law_script", "_law_k"] (zO zca) := ⟨rfl, rfl, rfl, by decide +kernel, rfl, by decide +kernel, by decide +kernel⟩
noncomputable def zbw : Ex := xSeq (xIf (mBin gLt (mVar 1) (mQ gLen (mSeq (mVar 0)))) (xSeq (xRet (mBin gIx (mVar 0) (mVar 1))) (xNil)) (xNil)) (xSeq (xRet (mLit (.int 0))) (xNil))
theorem zfj {P : Program} {w : World} {K : Frag} {mg : Str -> Option Value} {base : Heap} {k : Nat} (T : Bu mg) {f : Addr} {fd : FuncData} (F : Fun K "_law_cell_at" "_law_cell_at" zca f fd) (hm : mg "_law_cell_at" = some (.ref f)) : FnM P w K mg base (k + 1) "_law_cell_at" 2 (runB 2 (zbw)) :=
 Y.fnM F hm zeV (λ _ _ _ _ _ _ us hl => (len2 hl).elim λ a h => h.elim λ b q => by subst q; rfl) λ cdv A outer s H E hr => Y.zl (Y.zci (Y.st_c c_lt (Y.zh 1) (Y.zaI T.b_len (Y.sq_E (Y.zh 0)))) (Y.zl (Y.zU (Y.za7 (Y.zh 0) (Y.zh 1))) (Y.zJ)) (Y.zJ)) (Y.zl (Y.zU (Y.zq)) (Y.zJ))
noncomputable abbrev zcY : Stmt := top 40
theorem zdR : zai ["_law_script", "_law_k", "_law_cell"] ["_law_script", "_law_k"] (zO zcY) := ⟨rfl, rfl, rfl, by decide +kernel, rfl, by decide +kernel, by decide +kernel⟩
noncomputable def zb0 (f__law_cell_at : Fn) : Ex := xSeq (xSet 2 (zt f__law_cell_at (zc (mVar 0) (zc (mVar 1) (aNil))))) (xSeq (xIf (mBin gGe (mVar 2) (mBin gPow (mLit (.int 10)) (mLit (.int 18)))) (xSeq (xRet (mLst (zc (mBin gSub (mVar 2) (mBin gPow (mLit (.int 10)) (mLit (.int 18)))) (zc (mLit (.bl true)) (aNil))))) (xNil)) (xNil)) (xSeq (xRet (mLst (zc (mBin zbU (mVar 2) (mLit (.int 2147483647))) (zc (mLit (.bl false)) (aNil))))) (xNil)))
theorem zhw {P : Program} {w : World} {K : Frag} {mg : Str -> Option Value} {base : Heap} {k : Nat} (T : Bu mg) {f : Addr} {fd : FuncData} (F : Fun K "_law_state" "_law_state" zcY f fd) (hm : mg "_law_state" = some (.ref f)) {f__law_cell_at : Fn} (zaZ : FnM P w K mg base k "_law_cell_at" 2 f__law_cell_at) : FnM P w K mg base (k + 1) "_law_state" 2 (runB 3 (zb0 f__law_cell_at)) :=
 Y.fnM F hm zdR (λ _ _ _ _ _ _ us hl => (len2 hl).elim λ a h => h.elim λ b q => by subst q; rfl) λ cdv A outer s H E hr => Y.zl (Y.zat 2 zdR.nd (Y.zX zaZ hr (Y.zi (Y.zh 0) (Y.zi (Y.zh 1) (Y.zm))) (zj (zj zp)))) (Y.zl (Y.zci (Y.st_c c_ge (Y.zh 2) (Y.zil (Y.zq) (Y.zq))) (Y.zl (Y.zU (Y.zaz (Y.zi (Y.zep (Y.zh 2) (Y.zil (Y.zq) (Y.zq))) (Y.zi (Y.zdk) (Y.zm))) (zj (zj zp)))) (Y.zJ)) (Y.zJ)) (Y.zl (Y.zU (Y.zaz (Y.zi (Y.zbX (Y.zh 2) (Y.zq)) (Y.zi (Y.zdk) (Y.zm))) (zj (zj zp)))) (Y.zJ)))
noncomputable abbrev zdu : Stmt := top 41
theorem zb1 : zai ["_law_state_here", "_law_many", "_law_found", "_law_stirred"] ["_law_state_here", "_law_many"] (zO zdu) := ⟨rfl, rfl, rfl, by decide +kernel, rfl, by decide +kernel, by decide +kernel⟩
noncomputable def zcp : Ex := xSeq (xIf (mBin gIx (mVar 0) (mLit (.int 1))) (xSeq (xSet 2 (mBin zbU (mBin gIx (mVar 0) (mLit (.int 0))) (mVar 1))) (xSeq (zce gPut (mBin gDiv (mBin gIx (mVar 0) (mLit (.int 0))) (mVar 1)) (mVar 0) (mLit (.int 0))) (xSeq (xRet (mVar 2)) (xNil)))) (xNil)) (xSeq (zce gPut (mBin zbU (mBin gAdd (mBin gMul (mBin gIx (mVar 0) (mLit (.int 0))) (mLit (.int 48271))) (mLit (.int 29))) (mLit (.int 2147483647))) (mVar 0) (mLit (.int 0))) (xSeq (xSet 3 (mBin zbU (mBin gAdd (mBin gAdd (mBin gMul (mBin gIx (mVar 0) (mLit (.int 0))) (mBin gIx (mVar 0) (mLit (.int 0)))) (mBin gMul (mLit (.int 39373)) (mBin gIx (mVar 0) (mLit (.int 0))))) (mLit (.int 7))) (mLit (.int 2147483629)))) (xSeq (xSet 3 (mBin zbU (mBin gAdd (mBin gMul (mVar 3) (mVar 3)) (mBin gMul (mLit (.int 16807)) (mVar 3))) (mLit (.int 2147483587)))) (xSeq (xRet (mBin zbU (mBin gDiv (mVar 3) (mLit (.int 8))) (mVar 1))) (xNil)))))
theorem zhO {P : Program} {w : World} {K : Frag} {mg : Str -> Option Value} {base : Heap} {k : Nat} (T : Bu mg) {f : Addr} {fd : FuncData} (F : Fun K "_law_take" "_law_take" zdu f fd) (hm : mg "_law_take" = some (.ref f)) : FnM P w K mg base (k + 1) "_law_take" 2 (runB 4 (zcp)) :=
 Y.fnM F hm zb1 (λ _ _ _ _ _ _ us hl => (len2 hl).elim λ a h => h.elim λ b q => by subst q; rfl) λ cdv A outer s H E hr => Y.zl (Y.zci (Y.zcf (Y.za7 (Y.zh 0) (Y.zq))) (Y.zl (Y.zat 2 zb1.nd (Y.zbX (Y.za7 (Y.zh 0) (Y.zq)) (Y.zh 1))) (Y.zl (Y.zfz (Y.zef (Y.za7 (Y.zh 0) (Y.zq)) (Y.zh 1)) (Y.zh 0) (Y.zq)) (Y.zl (Y.zU (Y.zh 2)) (Y.zJ)))) (Y.zJ)) (Y.zl (Y.zfz (Y.zbX (Y.za5 (Y.zby (Y.za7 (Y.zh 0) (Y.zq)) (Y.zq)) (Y.zq)) (Y.zq)) (Y.zh 0) (Y.zq)) (Y.zl (Y.zat 3 zb1.nd (Y.zbX (Y.za5 (Y.za5 (Y.zby (Y.za7 (Y.zh 0) (Y.zq)) (Y.za7 (Y.zh 0) (Y.zq))) (Y.zby (Y.zq) (Y.za7 (Y.zh 0) (Y.zq)))) (Y.zq)) (Y.zq))) (Y.zl (Y.zat 3 zb1.nd (Y.zbX (Y.za5 (Y.zby (Y.zh 3) (Y.zh 3)) (Y.zby (Y.zq) (Y.zh 3))) (Y.zq))) (Y.zl (Y.zU (Y.zbX (Y.zef (Y.zh 3) (Y.zq)) (Y.zh 1))) (Y.zJ)))))
noncomputable abbrev zbu : Stmt := top 42
theorem zam : zai ["_law_state_here", "_law_upto", "_law_many", "_law_rows", "_law_kinds_here", "_law_names", "_law_a", "_law_b", "_law_kind"] ["_law_state_here", "_law_upto"] (zO zbu) := ⟨rfl, rfl, rfl, by decide +kernel, rfl, by decide +kernel, by decide +kernel⟩
noncomputable def zbs (f__law_take : Fn) : Ex := xSeq (xSet 2 (mBin gAdd (mLit (.int 1)) (zt f__law_take (zc (mVar 0) (zc (mVar 1) (aNil)))))) (xSeq (xSet 3 (zb7 (zT 1 [2] (zbq (mVar 2)) (gVar 0) (mLit (.bl true)) (zN (mBin gMul (mLst (zc (mLit (.int 0)) (aNil))) (mVar 1)))))) (xSeq (xSet 4 (mBin gAdd (mLit (.int 1)) (zt f__law_take (zc (mVar 0) (zc (mBin zf0 (mLit (.int 1)) (mBin zfm (mLit (.int 3)) (mBin gSub (mVar 2) (mLit (.int 1))))) (aNil)))))) (xSeq (xSet 5 (mDct)) (xSeq (xFor (zbq (mVar 2)) (gVar 6) (xSeq (xFor (zi6 (mBin gAdd (mVar 6) (mLit (.int 1))) (mVar 2)) (gVar 7) (xSeq (xSet 8 (zfO zbO (mVar 5) (zt f__law_take (zc (mVar 0) (zc (mVar 4) (aNil)))) (mBin gAdd (zgS (mVar 5)) (mLit (.int 1))))) (xSeq (zce gPut (mVar 8) (mBin gIx (mVar 3) (mVar 6)) (mVar 7)) (xSeq (zce gPut (mVar 8) (mBin gIx (mVar 3) (mVar 7)) (mVar 6)) (xNil))))) (xNil))) (xSeq (xRet (mQ gTup (zT 1 [] (mIt (mVar 3)) (gVar 0) (mLit (.bl true)) (zN (mQ gTup (mSeq (mVar 0))))))) (xNil))))))
theorem zee {P : Program} {w : World} {K : Frag} {mg : Str -> Option Value} {base : Heap} {k : Nat} (T : Bu mg) {f : Addr} {fd : FuncData} (F : Fun K "_law_some_table" "_law_some_table" zbu f fd) (hm : mg "_law_some_table" = some (.ref f)) {f__law_take : Fn} (zad : FnM P w K mg base k "_law_take" 2 f__law_take) : FnM P w K mg base (k + 1) "_law_some_table" 2 (runB 9 (zbs f__law_take)) :=
 Y.fnM F hm zam (λ _ _ _ _ _ _ us hl => (len2 hl).elim λ a h => h.elim λ b q => by subst q; rfl) λ cdv A outer s H E hr => Y.zl (Y.zat 2 zam.nd (Y.za5 (Y.zq) (Y.zX zad hr (Y.zi (Y.zh 0) (Y.zi (Y.zh 1) (Y.zm))) (zj (zj zp))))) (Y.zl (Y.zdW 3 (N := ["_law_place", "_law_many"]) 1 [2] zam.nd rfl (cps (by kernel_rfl)) (by kernel_rfl) (Y.zaU rfl T.b_range (Y.zh 2)) (λ _ _ _ => ⟨Y.zaL 0 (by decide +kernel : (["_law_place", "_law_many"] : List Str).Nodup), Y.zav, Y.za1 (λ _ _ z => z) (Y.zby (Y.zaz (Y.zi (Y.zq) (Y.zm)) (zj zp)) (Y.zh 1)) rfl⟩)) (Y.zl (Y.zat 4 zam.nd (Y.za5 (Y.zq) (Y.zX zad hr (Y.zi (Y.zh 0) (Y.zi (Y.zfS rfl T.b_max (Y.zq) (Y.zfe rfl T.b_min (Y.zq) (Y.zep (Y.zh 2) (Y.zq)))) (Y.zm))) (zj (zj zp))))) (Y.zl (Y.zat 5 zam.nd (Y.ziK)) (Y.zl (Y.zcK PassesOwn.never rfl (Y.zaU rfl T.b_range (Y.zh 2)) (Y.zaL 6 zam.nd) (Y.zl (Y.zcK PassesOwn.never rfl (Y.zhW rfl T.b_range (Y.za5 (Y.zh 6) (Y.zq)) (Y.zh 2)) (Y.zaL 7 zam.nd) (Y.zl (Y.zat 8 zam.nd (Y.ze8 (Y.zh 5) (Y.zX zad hr (Y.zi (Y.zh 0) (Y.zi (Y.zh 4) (Y.zm))) (zj (zj zp))) (Y.za5 (Y.zhJ T.b_len (Y.zh 5)) (Y.zq)))) (Y.zl (Y.zfz (Y.zh 8) (Y.za7 (Y.zh 3) (Y.zh 6)) (Y.zh 7)) (Y.zl (Y.zfz (Y.zh 8) (Y.za7 (Y.zh 3) (Y.zh 7)) (Y.zh 6)) (Y.zJ))))) (Y.zJ))) (Y.zl (Y.zU (Y.zaJ T.b_tuple (Y.sq_F (Y.zaH (N := ["_law_row"]) 1 [] rfl (cps (by kernel_rfl)) (by kernel_rfl) (Y.si_E (Y.zh 3)) (λ _ _ _ => ⟨Y.zaL 0 (by decide +kernel : (["_law_row"] : List Str).Nodup), Y.zav, Y.za1 (λ _ _ z => z) (Y.zaJ T.b_tuple (Y.sq_E (Y.zh 0))) rfl⟩))))) (Y.zJ))))))
noncomputable abbrev zc4 : Stmt := top 43
theorem zfW : zai ["_law_many"] ["_law_many"] (zO zc4) := ⟨rfl, rfl, rfl, by decide +kernel, rfl, by decide +kernel, by decide +kernel⟩
noncomputable def zem : Ex := xSeq (xRet (mQ gTup (zT 1 [0] (zbq (mVar 0)) (gVar 0) (mLit (.bl true)) (zN (mQ gTup (zT 1 [0] (zbq (mVar 1)) (gVar 0) (mLit (.bl true)) (zN (mUn gInt (mBin gNe (mVar 1) (mVar 0)))))))))) (xNil)
theorem zhg {P : Program} {w : World} {K : Frag} {mg : Str -> Option Value} {base : Heap} {k : Nat} (T : Bu mg) {f : Addr} {fd : FuncData} (F : Fun K "_law_alike" "_law_alike" zc4 f fd) (hm : mg "_law_alike" = some (.ref f)) : FnM P w K mg base (k + 1) "_law_alike" 1 (runB 1 (zem)) :=
 Y.fnM F hm zfW (λ _ _ _ _ _ _ us hl => (len1 hl).elim λ a q => by subst q; rfl) λ cdv A outer s H E hr => Y.zl (Y.zU (Y.zaJ T.b_tuple (Y.sq_F (Y.zaH (N := ["_law_a", "_law_many"]) 1 [0] rfl (cps (by kernel_rfl)) (by kernel_rfl) (Y.zaU rfl T.b_range (Y.zh 0)) (λ _ _ _ => ⟨Y.zaL 0 (by decide +kernel : (["_law_a", "_law_many"] : List Str).Nodup), Y.zav, Y.za1 (λ _ _ z => z) (Y.zaJ T.b_tuple (Y.sq_F (Y.zaH (N := ["_law_b", "_law_a"]) 1 [0] rfl (cps (by kernel_rfl)) (by kernel_rfl) (Y.zaU rfl T.b_range (Y.zh 1)) (λ _ _ _ => ⟨Y.zaL 0 (by decide +kernel : (["_law_b", "_law_a"] : List Str).Nodup), Y.zav, Y.za1 (λ _ _ z => z) (Y.zge T.b_int (Y.se_c (zhB hr) (Y.zh 1) (Y.zh 0))) rfl⟩)))) rfl⟩))))) (Y.zJ)
noncomputable abbrev zdC : Stmt := top 44
theorem zgC : zai ["_law_many"] ["_law_many"] (zO zdC) := ⟨rfl, rfl, rfl, by decide +kernel, rfl, by decide +kernel, by decide +kernel⟩
noncomputable def zeS : Ex := xSeq (xRet (mQ gTup (zT 1 [0] (zbq (mVar 0)) (gVar 0) (mLit (.bl true)) (zN (mQ gTup (zT 1 [0, 1] (zbq (mVar 1)) (gVar 0) (mLit (.bl true)) (zN (mBin zfm (mBin zbU (mBin gSub (mVar 1) (mVar 0)) (mVar 2)) (mBin zbU (mBin gSub (mVar 0) (mVar 1)) (mVar 2)))))))))) (xNil)
theorem zhC {P : Program} {w : World} {K : Frag} {mg : Str -> Option Value} {base : Heap} {k : Nat} (T : Bu mg) {f : Addr} {fd : FuncData} (F : Fun K "_law_ring" "_law_ring" zdC f fd) (hm : mg "_law_ring" = some (.ref f)) : FnM P w K mg base (k + 1) "_law_ring" 1 (runB 1 (zeS)) :=
 Y.fnM F hm zgC (λ _ _ _ _ _ _ us hl => (len1 hl).elim λ a q => by subst q; rfl) λ cdv A outer s H E hr => Y.zl (Y.zU (Y.zaJ T.b_tuple (Y.sq_F (Y.zaH (N := ["_law_a", "_law_many"]) 1 [0] rfl (cps (by kernel_rfl)) (by kernel_rfl) (Y.zaU rfl T.b_range (Y.zh 0)) (λ _ _ _ => ⟨Y.zaL 0 (by decide +kernel : (["_law_a", "_law_many"] : List Str).Nodup), Y.zav, Y.za1 (λ _ _ z => z) (Y.zaJ T.b_tuple (Y.sq_F (Y.zaH (N := ["_law_b", "_law_a", "_law_many"]) 1 [0, 1] rfl (cps (by kernel_rfl)) (by kernel_rfl) (Y.zaU rfl T.b_range (Y.zh 1)) (λ _ _ _ => ⟨Y.zaL 0 (by decide +kernel : (["_law_b", "_law_a", "_law_many"] : List Str).Nodup), Y.zav, Y.za1 (λ _ _ z => z) (Y.zfe rfl T.b_min (Y.zbX (Y.zep (Y.zh 1) (Y.zh 0)) (Y.zh 2)) (Y.zbX (Y.zep (Y.zh 0) (Y.zh 1)) (Y.zh 2))) rfl⟩)))) rfl⟩))))) (Y.zJ)
noncomputable abbrev zbR : Stmt := top 45
theorem zeE : zai ["_law_many"] ["_law_many"] (zO zbR) := ⟨rfl, rfl, rfl, by decide +kernel, rfl, by decide +kernel, by decide +kernel⟩
noncomputable def zcT : Ex := xSeq (xRet (mQ gTup (zT 1 [0] (zbq (mBin gShl (mLit (.int 1)) (mVar 0))) (gVar 0) (mLit (.bl true)) (zN (mQ gTup (zT 1 [0] (zbq (mBin gShl (mLit (.int 1)) (mVar 1))) (gVar 0) (mLit (.bl true)) (zN (mBin gXor (mVar 1) (mVar 0))))))))) (xNil)
theorem ze7 {P : Program} {w : World} {K : Frag} {mg : Str -> Option Value} {base : Heap} {k : Nat} (T : Bu mg) {f : Addr} {fd : FuncData} (F : Fun K "_law_each_own" "_law_each_own" zbR f fd) (hm : mg "_law_each_own" = some (.ref f)) : FnM P w K mg base (k + 1) "_law_each_own" 1 (runB 1 (zcT)) :=
 Y.fnM F hm zeE (λ _ _ _ _ _ _ us hl => (len1 hl).elim λ a q => by subst q; rfl) λ cdv A outer s H E hr => Y.zl (Y.zU (Y.zaJ T.b_tuple (Y.sq_F (Y.zaH (N := ["_law_a", "_law_many"]) 1 [0] rfl (cps (by kernel_rfl)) (by kernel_rfl) (Y.zaU rfl T.b_range (Y.ziw (Y.zq) (Y.zh 0))) (λ _ _ _ => ⟨Y.zaL 0 (by decide +kernel : (["_law_a", "_law_many"] : List Str).Nodup), Y.zav, Y.za1 (λ _ _ z => z) (Y.zaJ T.b_tuple (Y.sq_F (Y.zaH (N := ["_law_b", "_law_a"]) 1 [0] rfl (cps (by kernel_rfl)) (by kernel_rfl) (Y.zaU rfl T.b_range (Y.ziw (Y.zq) (Y.zh 1))) (λ _ _ _ => ⟨Y.zaL 0 (by decide +kernel : (["_law_b", "_law_a"] : List Str).Nodup), Y.zav, Y.za1 (λ _ _ z => z) (Y.zj3 (Y.zh 1) (Y.zh 0)) rfl⟩)))) rfl⟩))))) (Y.zJ)
noncomputable abbrev zc0 : Stmt := top 46
theorem zdF : zai ["_law_state_here", "_law_way"] ["_law_state_here"] (zO zc0) := ⟨rfl, rfl, rfl, by decide +kernel, rfl, by decide +kernel, by decide +kernel⟩
noncomputable def zc3 (f__law_alike : Fn) (f__law_each_own : Fn) (f__law_ring : Fn) (f__law_take : Fn) : Ex := xSeq (xSet 1 (zt f__law_take (zc (mVar 0) (zc (mLit (.int 5)) (aNil))))) (xSeq (xRet (mBin gIx (mLst (zc (zt f__law_alike (zc (mLit (.int 2)) (aNil))) (zc (zt f__law_alike (zc (mLit (.int 3)) (aNil))) (zc (zt f__law_ring (zc (mLit (.int 4)) (aNil))) (zc (zt f__law_alike (zc (mLit (.int 4)) (aNil))) (zc (zt f__law_each_own (zc (mLit (.int 2)) (aNil))) (aNil))))))) (mVar 1))) (xNil))
theorem zgz {P : Program} {w : World} {K : Frag} {mg : Str -> Option Value} {base : Heap} {k : Nat} (T : Bu mg) {f : Addr} {fd : FuncData} (F : Fun K "_law_small" "_law_small" zc0 f fd) (hm : mg "_law_small" = some (.ref f)) {f__law_alike : Fn} (zaf : FnM P w K mg base k "_law_alike" 1 f__law_alike) {f__law_each_own : Fn} (zaP : FnM P w K mg base k "_law_each_own" 1 f__law_each_own) {f__law_ring : Fn} (zbm : FnM P w K mg base k "_law_ring" 1 f__law_ring) {f__law_take : Fn} (zad : FnM P w K mg base k "_law_take" 2 f__law_take) : FnM P w K mg base (k + 1) "_law_small" 1 (runB 2 (zc3 f__law_alike f__law_each_own f__law_ring f__law_take)) :=
 Y.fnM F hm zdF (λ _ _ _ _ _ _ us hl => (len1 hl).elim λ a q => by subst q; rfl) λ cdv A outer s H E hr => Y.zl (Y.zat 1 zdF.nd (Y.zX zad hr (Y.zi (Y.zh 0) (Y.zi (Y.zq) (Y.zm))) (zj (zj zp)))) (Y.zl (Y.zU (Y.za7 (Y.zaz (Y.zi (Y.zX zaf hr (Y.zi (Y.zq) (Y.zm)) (zj zp)) (Y.zi (Y.zX zaf hr (Y.zi (Y.zq) (Y.zm)) (zj zp)) (Y.zi (Y.zX zbm hr (Y.zi (Y.zq) (Y.zm)) (zj zp)) (Y.zi (Y.zX zaf hr (Y.zi (Y.zq) (Y.zm)) (zj zp)) (Y.zi (Y.zX zaP hr (Y.zi (Y.zq) (Y.zm)) (zj zp)) (Y.zm)))))) (zj (zj (zj (zj (zj zp)))))) (Y.zh 1))) (Y.zJ))
noncomputable abbrev zcO : Stmt := top 47
theorem zgm : zai ["_law_table"] ["_law_table"] (zO zcO) := ⟨rfl, rfl, rfl, by decide +kernel, rfl, by decide +kernel, by decide +kernel⟩
noncomputable def zet : Ex := xSeq (xRet (mBin gAdd (mQ gMax (zT 1 [] (mIt (mVar 0)) (gVar 0) (mLit (.bl true)) (zN (mQ gMax (mSeq (mVar 0)))))) (mLit (.int 1)))) (xNil)
theorem zhm {P : Program} {w : World} {K : Frag} {mg : Str -> Option Value} {base : Heap} {k : Nat} (T : Bu mg) {f : Addr} {fd : FuncData} (F : Fun K "_law_kinds" "_law_kinds" zcO f fd) (hm : mg "_law_kinds" = some (.ref f)) : FnM P w K mg base (k + 1) "_law_kinds" 1 (runB 1 (zet)) :=
 Y.fnM F hm zgm (λ _ _ _ _ _ _ us hl => (len1 hl).elim λ a q => by subst q; rfl) λ cdv A outer s H E hr => Y.zl (Y.zU (Y.za5 (Y.zdx rfl T.b_max (Y.sq_F (Y.zaH (N := ["_law_row"]) 1 [] rfl (cps (by kernel_rfl)) (by kernel_rfl) (Y.si_E (Y.zh 0)) (λ _ _ _ => ⟨Y.zaL 0 (by decide +kernel : (["_law_row"] : List Str).Nodup), Y.zav, Y.za1 (λ _ _ z => z) (Y.zdx rfl T.b_max (Y.sq_E (Y.zh 0))) rfl⟩)))) (Y.zq))) (Y.zJ)
noncomputable abbrev zcz : Stmt := top 48
theorem zaX : zai ["_law_one", "_law_other", "_law_many", "_law_found", "_law_a", "_law_row", "_law_b", "_law_first"] ["_law_one", "_law_other"] (zO zcz) := ⟨rfl, rfl, rfl, by decide +kernel, rfl, by decide +kernel, by decide +kernel⟩
noncomputable def zcv (f__law_kinds : Fn) : Ex := xSeq (xPar 2 3 (zt f__law_kinds (zc (mVar 1) (aNil))) (mLst (aNil))) (xSeq (xFor (zbq (mBin gMul (mQ gLen (mSeq (mVar 0))) (mQ gLen (mSeq (mVar 1))))) (gVar 4) (xSeq (xSet 5 (mLst (aNil))) (xSeq (xFor (zbq (mBin gMul (mQ gLen (mSeq (mVar 0))) (mQ gLen (mSeq (mVar 1))))) (gVar 6) (xSeq (xSet 7 (mBin gIx (mBin gIx (mVar 0) (mBin gDiv (mVar 4) (mQ gLen (mSeq (mVar 1))))) (mBin gDiv (mVar 6) (mQ gLen (mSeq (mVar 1)))))) (xSeq (xDo (zcq zaM (mVar 5) (mBin gAdd (mBin gMul (mVar 7) (mVar 2)) (mBin gIx (mBin gIx (mVar 1) (mBin zbU (mVar 4) (mQ gLen (mSeq (mVar 1))))) (mBin zbU (mVar 6) (mQ gLen (mSeq (mVar 1)))))))) (xNil)))) (xSeq (xDo (zcq zaM (mVar 3) (mQ gTup (mSeq (mVar 5))))) (xNil))))) (xSeq (xRet (mQ gTup (mSeq (mVar 3)))) (xNil)))
theorem zgj {P : Program} {w : World} {K : Frag} {mg : Str -> Option Value} {base : Heap} {k : Nat} (T : Bu mg) {f : Addr} {fd : FuncData} (F : Fun K "_law_beside" "_law_beside" zcz f fd) (hm : mg "_law_beside" = some (.ref f)) {f__law_kinds : Fn} (zaF : FnM P w K mg base k "_law_kinds" 1 f__law_kinds) : FnM P w K mg base (k + 1) "_law_beside" 2 (runB 8 (zcv f__law_kinds)) :=
 Y.fnM F hm zaX (λ _ _ _ _ _ _ us hl => (len2 hl).elim λ a h => h.elim λ b q => by subst q; rfl) λ cdv A outer s H E hr => Y.zl (Y.zg2 2 3 rfl zaX.nd (Y.zX zaF hr (Y.zi (Y.zh 1) (Y.zm)) (zj zp)) (Y.zaz (Y.zm) (zp))) (Y.zl (Y.zcK PassesOwn.never rfl (Y.zaU rfl T.b_range (Y.zby (Y.zaI T.b_len (Y.sq_E (Y.zh 0))) (Y.zaI T.b_len (Y.sq_E (Y.zh 1))))) (Y.zaL 4 zaX.nd) (Y.zl (Y.zat 5 zaX.nd (Y.zaz (Y.zm) (zp))) (Y.zl (Y.zcK PassesOwn.never rfl (Y.zaU rfl T.b_range (Y.zby (Y.zaI T.b_len (Y.sq_E (Y.zh 0))) (Y.zaI T.b_len (Y.sq_E (Y.zh 1))))) (Y.zaL 6 zaX.nd) (Y.zl (Y.zat 7 zaX.nd (Y.za7 (Y.za7 (Y.zh 0) (Y.zef (Y.zh 4) (Y.zaI T.b_len (Y.sq_E (Y.zh 1))))) (Y.zef (Y.zh 6) (Y.zaI T.b_len (Y.sq_E (Y.zh 1)))))) (Y.zl (Y.zbl (Y.zbi (Y.zh 5) (Y.za5 (Y.zby (Y.zh 7) (Y.zh 2)) (Y.za7 (Y.za7 (Y.zh 1) (Y.zbX (Y.zh 4) (Y.zaI T.b_len (Y.sq_E (Y.zh 1))))) (Y.zbX (Y.zh 6) (Y.zaI T.b_len (Y.sq_E (Y.zh 1)))))))) (Y.zJ)))) (Y.zl (Y.zbl (Y.zbi (Y.zh 3) (Y.zaJ T.b_tuple (Y.sq_E (Y.zh 5))))) (Y.zJ))))) (Y.zl (Y.zU (Y.zaJ T.b_tuple (Y.sq_E (Y.zh 3)))) (Y.zJ)))
noncomputable abbrev zcE : Stmt := top 49
theorem zaY : zai ["_law_one", "_law_other", "_law_more", "_law_found", "_law_a", "_law_row", "_law_b", "_law_first"] ["_law_one", "_law_other"] (zO zcE) := ⟨rfl, rfl, rfl, by decide +kernel, rfl, by decide +kernel, by decide +kernel⟩
noncomputable def zct (f__law_kinds : Fn) : Ex := xSeq (xPar 2 3 (mBin gSub (zt f__law_kinds (zc (mVar 1) (aNil))) (mLit (.int 1))) (mLst (aNil))) (xSeq (xFor (zbq (mBin gMul (mQ gLen (mSeq (mVar 0))) (mQ gLen (mSeq (mVar 1))))) (gVar 4) (xSeq (xSet 5 (mLst (aNil))) (xSeq (xFor (zbq (mBin gMul (mQ gLen (mSeq (mVar 0))) (mQ gLen (mSeq (mVar 1))))) (gVar 6) (xSeq (xSet 7 (mBin gIx (mBin gIx (mVar 0) (mBin gDiv (mVar 4) (mQ gLen (mSeq (mVar 1))))) (mBin gDiv (mVar 6) (mQ gLen (mSeq (mVar 1)))))) (xSeq (xDo (zcq zaM (mVar 5) (mIf (mBin gGt (mVar 7) (mLit (.int 0))) (mBin gAdd (mVar 7) (mVar 2)) (mBin gIx (mBin gIx (mVar 1) (mBin zbU (mVar 4) (mQ gLen (mSeq (mVar 1))))) (mBin zbU (mVar 6) (mQ gLen (mSeq (mVar 1)))))))) (xNil)))) (xSeq (xDo (zcq zaM (mVar 3) (mQ gTup (mSeq (mVar 5))))) (xNil))))) (xSeq (xRet (mQ gTup (mSeq (mVar 3)))) (xNil)))
theorem zgg {P : Program} {w : World} {K : Frag} {mg : Str -> Option Value} {base : Heap} {k : Nat} (T : Bu mg) {f : Addr} {fd : FuncData} (F : Fun K "_law_within" "_law_within" zcE f fd) (hm : mg "_law_within" = some (.ref f)) {f__law_kinds : Fn} (zaF : FnM P w K mg base k "_law_kinds" 1 f__law_kinds) : FnM P w K mg base (k + 1) "_law_within" 2 (runB 8 (zct f__law_kinds)) :=
 Y.fnM F hm zaY (λ _ _ _ _ _ _ us hl => (len2 hl).elim λ a h => h.elim λ b q => by subst q; rfl) λ cdv A outer s H E hr => Y.zl (Y.zg2 2 3 rfl zaY.nd (Y.zep (Y.zX zaF hr (Y.zi (Y.zh 1) (Y.zm)) (zj zp)) (Y.zq)) (Y.zaz (Y.zm) (zp))) (Y.zl (Y.zcK PassesOwn.never rfl (Y.zaU rfl T.b_range (Y.zby (Y.zaI T.b_len (Y.sq_E (Y.zh 0))) (Y.zaI T.b_len (Y.sq_E (Y.zh 1))))) (Y.zaL 4 zaY.nd) (Y.zl (Y.zat 5 zaY.nd (Y.zaz (Y.zm) (zp))) (Y.zl (Y.zcK PassesOwn.never rfl (Y.zaU rfl T.b_range (Y.zby (Y.zaI T.b_len (Y.sq_E (Y.zh 0))) (Y.zaI T.b_len (Y.sq_E (Y.zh 1))))) (Y.zaL 6 zaY.nd) (Y.zl (Y.zat 7 zaY.nd (Y.za7 (Y.za7 (Y.zh 0) (Y.zef (Y.zh 4) (Y.zaI T.b_len (Y.sq_E (Y.zh 1))))) (Y.zef (Y.zh 6) (Y.zaI T.b_len (Y.sq_E (Y.zh 1)))))) (Y.zl (Y.zbl (Y.zbi (Y.zh 5) (Y.ziT (Y.st_c c_gt (Y.zh 7) (Y.zq)) (Y.za5 (Y.zh 7) (Y.zh 2)) (Y.za7 (Y.za7 (Y.zh 1) (Y.zbX (Y.zh 4) (Y.zaI T.b_len (Y.sq_E (Y.zh 1))))) (Y.zbX (Y.zh 6) (Y.zaI T.b_len (Y.sq_E (Y.zh 1)))))))) (Y.zJ)))) (Y.zl (Y.zbl (Y.zbi (Y.zh 3) (Y.zaJ T.b_tuple (Y.sq_E (Y.zh 5))))) (Y.zJ))))) (Y.zl (Y.zU (Y.zaJ T.b_tuple (Y.sq_E (Y.zh 3)))) (Y.zJ)))
noncomputable abbrev zbD : Stmt := top 50
theorem zbp : zai ["_law_state_here", "_law_some"] ["_law_state_here"] (zO zbD) := ⟨rfl, rfl, rfl, by decide +kernel, rfl, by decide +kernel, by decide +kernel⟩
noncomputable def zbF (f__law_take : Fn) : Ex := xSeq (xSet 1 (mLst (zc (mLit .non) (zc (mLit (.int 0)) (zc (mTup (aNil)) (zc (mTup (zc (mTup (zc (mLit (.int 1)) (aNil))) (aNil))) (zc (mTup (zc (mTup (zc (mLit (.int 0)) (zc (mLit (.int 1)) (aNil)))) (zc (mTup (zc (mLit (.int 1)) (zc (mLit (.int 0)) (aNil)))) (zc (mTup (zc (mLit (.int 0)) (zc (mLit (.int 0)) (aNil)))) (aNil))))) (zc (mTup (zc (mTup (zc (mLit (.int 0)) (zc (mLit (.int 2)) (aNil)))) (zc (mTup (zc (mLit (.int 2)) (zc (mLit (.int 0)) (aNil)))) (aNil)))) (zc (mTup (zc (mTup (zc (mLit (.int 0)) (zc (mLit (.int 1)) (aNil)))) (zc (mTup (zc (mLit (.int 2)) (zc (mLit (.int 0)) (aNil)))) (aNil)))) (zc (mLst (zc (mTup (zc (mLit (.int 0)) (zc (mLit (.int 1)) (aNil)))) (zc (mTup (zc (mLit (.int 1)) (zc (mLit (.int 0)) (aNil)))) (aNil)))) (aNil))))))))))) (xSeq (xSet 1 (mBin gAdd (mVar 1) (mLst (zc (mTup (zc (mTup (zc (mLit (.int 0)) (zc (mLit (.int 0)) (aNil)))) (zc (mTup (zc (mLit (.int 0)) (zc (mLit (.int 0)) (aNil)))) (aNil)))) (zc (mTup (zc (mTup (zc (mLit (.int 0)) (zc (mLit (.bl true)) (aNil)))) (zc (mTup (zc (mLit (.bl true)) (zc (mLit (.int 0)) (aNil)))) (aNil)))) (zc (mTup (zc (mTup (zc (mLit (.int 0)) (zc (mLit (.int 1)) (aNil)))) (zc (mLst (zc (mLit (.int 1)) (zc (mLit (.int 0)) (aNil)))) (aNil)))) (zc (mTup (zc (mTup (zc (mLit (.int 0)) (zc (mLit (.int 1)) (aNil)))) (aNil))) (zc (mLit (.str "01/10")) (zc (mDct) (zc (mBin zfp (mTup (zc (mBin zfp (mTup (zc (mLit (.int 0)) (aNil))) (mLit (.int 9))) (aNil))) (mLit (.int 9))) (aNil))))))))))) (xSeq (xRet (mBin gIx (mVar 1) (zt f__law_take (zc (mVar 0) (zc (mLit (.int 15)) (aNil)))))) (xNil)))
theorem zey {P : Program} {w : World} {K : Frag} {mg : Str -> Option Value} {base : Heap} {k : Nat} (T : Bu mg) {f : Addr} {fd : FuncData} (F : Fun K "_law_bad_table" "_law_bad_table" zbD f fd) (hm : mg "_law_bad_table" = some (.ref f)) {f__law_take : Fn} (zad : FnM P w K mg base k "_law_take" 2 f__law_take) : FnM P w K mg base (k + 1) "_law_bad_table" 1 (runB 2 (zbF f__law_take)) :=
 Y.fnM F hm zbp (λ _ _ _ _ _ _ us hl => (len1 hl).elim λ a q => by subst q; rfl) λ cdv A outer s H E hr => Y.zl (Y.zat 1 zbp.nd (Y.zaz (Y.zi (Y.zeq) (Y.zi (Y.zq) (Y.zi (Y.zak (Y.zm) (zp)) (Y.zi (Y.zak (Y.zi (Y.zak (Y.zi (Y.zq) (Y.zm)) (zj zp)) (Y.zm)) (zj zp)) (Y.zi (Y.zak (Y.zi (Y.zak (Y.zi (Y.zq) (Y.zi (Y.zq) (Y.zm))) (zj (zj zp))) (Y.zi (Y.zak (Y.zi (Y.zq) (Y.zi (Y.zq) (Y.zm))) (zj (zj zp))) (Y.zi (Y.zak (Y.zi (Y.zq) (Y.zi (Y.zq) (Y.zm))) (zj (zj zp))) (Y.zm)))) (zj (zj (zj zp)))) (Y.zi (Y.zak (Y.zi (Y.zak (Y.zi (Y.zq) (Y.zi (Y.zq) (Y.zm))) (zj (zj zp))) (Y.zi (Y.zak (Y.zi (Y.zq) (Y.zi (Y.zq) (Y.zm))) (zj (zj zp))) (Y.zm))) (zj (zj zp))) (Y.zi (Y.zak (Y.zi (Y.zak (Y.zi (Y.zq) (Y.zi (Y.zq) (Y.zm))) (zj (zj zp))) (Y.zi (Y.zak (Y.zi (Y.zq) (Y.zi (Y.zq) (Y.zm))) (zj (zj zp))) (Y.zm))) (zj (zj zp))) (Y.zi (Y.zaz (Y.zi (Y.zak (Y.zi (Y.zq) (Y.zi (Y.zq) (Y.zm))) (zj (zj zp))) (Y.zi (Y.zak (Y.zi (Y.zq) (Y.zi (Y.zq) (Y.zm))) (zj (zj zp))) (Y.zm))) (zj (zj zp))) (Y.zm))))))))) (zj (zj (zj (zj (zj (zj (zj (zj zp)))))))))) (Y.zl (Y.zat 1 zbp.nd (Y.za5 (Y.zh 1) (Y.zaz (Y.zi (Y.zak (Y.zi (Y.zak (Y.zi (Y.zq) (Y.zi (Y.zq) (Y.zm))) (zj (zj zp))) (Y.zi (Y.zak (Y.zi (Y.zq) (Y.zi (Y.zq) (Y.zm))) (zj (zj zp))) (Y.zm))) (zj (zj zp))) (Y.zi (Y.zak (Y.zi (Y.zak (Y.zi (Y.zq) (Y.zi (Y.zdk) (Y.zm))) (zj (zj zp))) (Y.zi (Y.zak (Y.zi (Y.zdk) (Y.zi (Y.zq) (Y.zm))) (zj (zj zp))) (Y.zm))) (zj (zj zp))) (Y.zi (Y.zak (Y.zi (Y.zak (Y.zi (Y.zq) (Y.zi (Y.zq) (Y.zm))) (zj (zj zp))) (Y.zi (Y.zaz (Y.zi (Y.zq) (Y.zi (Y.zq) (Y.zm))) (zj (zj zp))) (Y.zm))) (zj (zj zp))) (Y.zi (Y.zak (Y.zi (Y.zak (Y.zi (Y.zq) (Y.zi (Y.zq) (Y.zm))) (zj (zj zp))) (Y.zm)) (zj zp)) (Y.zi (Y.zgW) (Y.zi (Y.ziK) (Y.zi (Y.zgw (Y.zak (Y.zi (Y.zgw (Y.zak (Y.zi (Y.zq) (Y.zm)) (zj zp)) (Y.zq)) (Y.zm)) (zj zp)) (Y.zq)) (Y.zm)))))))) (zj (zj (zj (zj (zj (zj (zj zp)))))))))) (Y.zl (Y.zU (Y.za7 (Y.zh 1) (Y.zX zad hr (Y.zi (Y.zh 0) (Y.zi (Y.zq) (Y.zm))) (zj (zj zp))))) (Y.zJ)))
noncomputable abbrev zcU : Stmt := top 51
theorem zgb : zai ["_law_call", "_law_due"] ["_law_call", "_law_due"] (zO zcU) := ⟨rfl, rfl, rfl, by decide +kernel, rfl, by decide +kernel, by decide +kernel⟩
noncomputable def zbZ (f__law_refused : Fn) (f__law_same : Fn) (PG : PFam) (lam : Nat -> Fn) : Ex := xSeq (xIf (mBin (gIs false) (mVar 1) (mLit .non)) (xSeq (xRet (mBin gEq (zt f__law_refused (zc (mVar 0) (aNil))) (mLst (zc (mLit (.int 11)) (aNil))))) (xNil)) (xNil)) (xSeq (xRet (mAnd (zt f__law_same (zc (zgc 0 PG lam) (zc (mVar 1) (aNil)))) (zt f__law_same (zc (zgc 0 PG lam) (zc (mVar 1) (aNil)))))) (xNil))
theorem zgR {P : Program} {w : World} {K : Frag} {mg : Str -> Option Value} {base : Heap} {k : Nat} (T : Bu mg) {f : Addr} {fd : FuncData} (F : Fun K "_law_right" "_law_right" zcU f fd) (hm : mg "_law_right" = some (.ref f)) {f__law_refused : Fn} (F__law_refused : FnM P w K mg base k "_law_refused" 1 f__law_refused) {f__law_same : Fn} (za3 : FnM P w K mg base k "_law_same" 2 f__law_same) {PG : PFam} {lam : Nat -> Fn} {kk : Nat} (hkk : kk <= k) (hL : ∀ k, zck P w K mg base kk (PG k) (lam k)) : FnM P w K mg base (k + 1) "_law_right" 2 (runB 2 (zbZ f__law_refused f__law_same PG lam)) :=
 Y.fnM F hm zgb (λ _ _ _ _ _ _ us hl => (len2 hl).elim λ a h => h.elim λ b q => by subst q; rfl) λ cdv A outer s H E hr => Y.zl (Y.zci (Y.st_c c_is (Y.zh 1) (Y.zeq)) (Y.zl (Y.zU (Y.se_c (zgn hr) (Y.zX F__law_refused hr (Y.zi (Y.zh 0) (Y.zm)) (zj zp)) (Y.zaz (Y.zi (Y.zq) (Y.zm)) (zj zp)))) (Y.zJ)) (Y.zJ)) (Y.zl (Y.zU (Y.zdQ (Y.zX za3 hr (Y.zi (Y.ziL hL (hr.mono hkk)) (Y.zi (Y.zh 1) (Y.zm))) (zj (zj zp))) (Y.zer (Y.zX za3 hr (Y.zi (Y.ziL hL (hr.mono hkk)) (Y.zi (Y.zh 1) (Y.zm))) (zj (zj zp)))))) (Y.zJ))
noncomputable abbrev zfu : Stmt := top 52
theorem zcJ : zai ["_law_script", "_law_k", "_law_state_here", "_law_one", "_law_other", "_law_first", "_law_second", "_law_good", "_law_due", "_law_bad", "_law_great", "_law_calls"] ["_law_script"] (zO zfu) := ⟨rfl, rfl, rfl, by decide +kernel, rfl, by decide +kernel, by decide +kernel⟩
noncomputable abbrev zW : Str := (("law" : Str) ++ (".<locals>." : Str)) ++ ("<lambda>" : Str)
noncomputable def zdz (fX_put_beside : Fn) (fX_put_within : Fn) : Lm := lmOf (argE (opE (tstS (subS (subS ((zaG zfu).getD 0 zdo) 4) 2))) 0) ["_law_first", "_law_second"] [5, 6] (zt fX_put_beside (zc (mVar 0) (zc (mVar 1) (aNil))))
noncomputable def zdB (fX_put_beside : Fn) (fX_put_within : Fn) : Lm := lmOf (argE (opE (tstS (subS (subS ((zaG zfu).getD 0 zdo) 4) 4))) 0) ["_law_first", "_law_second"] [5, 6] (zt fX_put_within (zc (mVar 0) (zc (mVar 1) (aNil))))
noncomputable def zd3 (fX_put_beside : Fn) (fX_put_within : Fn) : Lm := lmOf (argE (valS (subS ((zaG zfu).getD 0 zdo) 6)) 0) ["_law_bad", "_law_great"] [9, 10] (zt fX_put_beside (zc (mVar 0) (zc (mVar 1) (aNil))))
noncomputable def zd6 (fX_put_beside : Fn) (fX_put_within : Fn) : Lm := lmOf (argE (valS (subS ((zaG zfu).getD 0 zdo) 7)) 0) ["_law_bad", "_law_great"] [9, 10] (zt fX_put_beside (zc (mVar 1) (zc (mVar 0) (aNil))))
noncomputable def zed (fX_put_beside : Fn) (fX_put_within : Fn) : Lm := lmOf (argE (valS (subS ((zaG zfu).getD 0 zdo) 8)) 0) ["_law_bad", "_law_great"] [9, 10] (zt fX_put_within (zc (mVar 0) (zc (mVar 1) (aNil))))
noncomputable def zdZ (fX_put_beside : Fn) (fX_put_within : Fn) : Lm := lmOf (argE (valS (subS ((zaG zfu).getD 0 zdo) 9)) 0) ["_law_bad", "_law_great"] [9, 10] (zt fX_put_within (zc (mVar 1) (zc (mVar 0) (aNil))))
noncomputable def zbV (fX_put_beside : Fn) (fX_put_within : Fn) : List Lm := [zdz fX_put_beside fX_put_within, zdB fX_put_beside fX_put_within, zd3 fX_put_beside fX_put_within, zd6 fX_put_beside fX_put_within, zed fX_put_beside fX_put_within, zdZ fX_put_beside fX_put_within]
theorem zkB {P : Program} {w : World} {K : Frag} {mg : Str -> Option Value} {k : Nat} (T : Bu mg) {fX_put_beside : Fn} (X_put_beside : ∀ base, FnX P w K mg base k "put_beside" 2 fX_put_beside) {fX_put_within : Fn} (X_put_within : ∀ base, FnX P w K mg base k "put_within" 2 fX_put_within) : LmOk P w K mg k zW (zdz fX_put_beside fX_put_within) :=
 ⟨⟨rfl, rfl, rfl, zcg (by kernel_rfl)⟩, λ _ _ _ _ => rfl, λ base cl a c A outer s H E hr xo => yE (Y.za9 xo (X_put_beside base) hr (Y.zi (Y.zh 0) (Y.zi (Y.zh 1) (Y.zm))) (zj (zj zp)))⟩
theorem zlu {P : Program} {w : World} {K : Frag} {mg : Str -> Option Value} {k : Nat} (T : Bu mg) {fX_put_beside : Fn} (X_put_beside : ∀ base, FnX P w K mg base k "put_beside" 2 fX_put_beside) {fX_put_within : Fn} (X_put_within : ∀ base, FnX P w K mg base k "put_within" 2 fX_put_within) : LmOk P w K mg k zW (zdB fX_put_beside fX_put_within) :=
 ⟨⟨rfl, rfl, rfl, zcg (by kernel_rfl)⟩, λ _ _ _ _ => rfl, λ base cl a c A outer s H E hr xo => yE (Y.za9 xo (X_put_within base) hr (Y.zi (Y.zh 0) (Y.zi (Y.zh 1) (Y.zm))) (zj (zj zp)))⟩
theorem zld {P : Program} {w : World} {K : Frag} {mg : Str -> Option Value} {k : Nat} (T : Bu mg) {fX_put_beside : Fn} (X_put_beside : ∀ base, FnX P w K mg base k "put_beside" 2 fX_put_beside) {fX_put_within : Fn} (X_put_within : ∀ base, FnX P w K mg base k "put_within" 2 fX_put_within) : LmOk P w K mg k zW (zd3 fX_put_beside fX_put_within) :=
 ⟨⟨rfl, rfl, rfl, zcg (by kernel_rfl)⟩, λ _ _ _ _ => rfl, λ base cl a c A outer s H E hr xo => yE (Y.za9 xo (X_put_beside base) hr (Y.zi (Y.zh 0) (Y.zi (Y.zh 1) (Y.zm))) (zj (zj zp)))⟩
theorem zll {P : Program} {w : World} {K : Frag} {mg : Str -> Option Value} {k : Nat} (T : Bu mg) {fX_put_beside : Fn} (X_put_beside : ∀ base, FnX P w K mg base k "put_beside" 2 fX_put_beside) {fX_put_within : Fn} (X_put_within : ∀ base, FnX P w K mg base k "put_within" 2 fX_put_within) : LmOk P w K mg k zW (zd6 fX_put_beside fX_put_within) :=
 ⟨⟨rfl, rfl, rfl, zcg (by kernel_rfl)⟩, λ _ _ _ _ => rfl, λ base cl a c A outer s H E hr xo => yE (Y.za9 xo (X_put_beside base) hr (Y.zi (Y.zh 1) (Y.zi (Y.zh 0) (Y.zm))) (zj (zj zp)))⟩
theorem zlk {P : Program} {w : World} {K : Frag} {mg : Str -> Option Value} {k : Nat} (T : Bu mg) {fX_put_beside : Fn} (X_put_beside : ∀ base, FnX P w K mg base k "put_beside" 2 fX_put_beside) {fX_put_within : Fn} (X_put_within : ∀ base, FnX P w K mg base k "put_within" 2 fX_put_within) : LmOk P w K mg k zW (zed fX_put_beside fX_put_within) :=
 ⟨⟨rfl, rfl, rfl, zcg (by kernel_rfl)⟩, λ _ _ _ _ => rfl, λ base cl a c A outer s H E hr xo => yE (Y.za9 xo (X_put_within base) hr (Y.zi (Y.zh 0) (Y.zi (Y.zh 1) (Y.zm))) (zj (zj zp)))⟩
theorem zk8 {P : Program} {w : World} {K : Frag} {mg : Str -> Option Value} {k : Nat} (T : Bu mg) {fX_put_beside : Fn} (X_put_beside : ∀ base, FnX P w K mg base k "put_beside" 2 fX_put_beside) {fX_put_within : Fn} (X_put_within : ∀ base, FnX P w K mg base k "put_within" 2 fX_put_within) : LmOk P w K mg k zW (zdZ fX_put_beside fX_put_within) :=
 ⟨⟨rfl, rfl, rfl, zcg (by kernel_rfl)⟩, λ _ _ _ _ => rfl, λ base cl a c A outer s H E hr xo => yE (Y.za9 xo (X_put_within base) hr (Y.zi (Y.zh 1) (Y.zi (Y.zh 0) (Y.zm))) (zj (zj zp)))⟩
theorem zpA {P : Program} {w : World} {K : Frag} {mg : Str -> Option Value} {k : Nat} (T : Bu mg) {fX_put_beside : Fn} (X_put_beside : ∀ base, FnX P w K mg base k "put_beside" 2 fX_put_beside) {fX_put_within : Fn} (X_put_within : ∀ base, FnX P w K mg base k "put_within" 2 fX_put_within) : ∀ t ∈ zbV fX_put_beside fX_put_within, LmOk P w K mg k zW t :=
 all_cons (zkB T X_put_beside X_put_within) (all_cons (zlu T X_put_beside X_put_within) (all_cons (zld T X_put_beside X_put_within) (all_cons (zll T X_put_beside X_put_within) (all_cons (zlk T X_put_beside X_put_within) (all_cons (zk8 T X_put_beside X_put_within) (all_nil))))))
noncomputable def znf (f__law_alike : Fn) (f__law_bad_table : Fn) (f__law_beside : Fn) (f__law_small : Fn) (f__law_some_table : Fn) (f__law_state : Fn) (f__law_take : Fn) (f__law_within : Fn) (fX_put_beside : Fn) (fX_put_within : Fn) (RF : Nat -> List W -> Hx -> R W) (Pt : Addr) (PF : PFam) (f0_law_right : Fn) : Ex := xSeq (xFor (zbq (mBin zf0 (mLit (.int 1)) (mBin zfm (mQ gLen (mSeq (mVar 0))) (mLit (.int 8))))) (gVar 1) (xSeq (xSet 2 (zt f__law_state (zc (mVar 0) (zc (mVar 1) (aNil))))) (xSeq (xPar 3 4 (zt f__law_some_table (zc (mVar 2) (zc (mLit (.int 4)) (aNil)))) (zt f__law_some_table (zc (mVar 2) (zc (mLit (.int 4)) (aNil))))) (xSeq (xIf (mBin gEq (zt f__law_take (zc (mVar 2) (zc (mLit (.int 3)) (aNil)))) (mLit (.int 0))) (xSeq (xSet 3 (zt f__law_small (zc (mVar 2) (aNil)))) (xNil)) (xNil)) (xSeq (xIf (mBin gEq (zt f__law_take (zc (mVar 2) (zc (mLit (.int 3)) (aNil)))) (mLit (.int 0))) (xSeq (xSet 4 (zt f__law_some_table (zc (mVar 2) (zc (mLit (.int 8)) (aNil))))) (xNil)) (xNil)) (xSeq (xFor (mIt (mLst (zc (mTup (zc (mVar 3) (zc (mVar 4) (aNil)))) (zc (mTup (zc (mVar 4) (zc (mVar 3) (aNil)))) (zc (mTup (zc (mVar 3) (zc (mVar 3) (aNil)))) (aNil)))))) (zbE 5 6) (xSeq (xSet 7 (mBin gLt (mBin gMul (mQ gLen (mSeq (mVar 5))) (mQ gLen (mSeq (mVar 6)))) (mLit (.int 9)))) (xSeq (xSet 8 (mIf (mVar 7) (zt f__law_beside (zc (mVar 5) (zc (mVar 6) (aNil)))) (mLit .non))) (xSeq (xIf (mNot (zeo (zbV fX_put_beside fX_put_within) PF f0_law_right (zc (mLam 1 zW Pt 0 (PF 0)) (zc (mVar 8) (aNil))))) (xSeq (xRet (mLit (.bl false))) (xNil)) (xNil)) (xSeq (xSet 8 (mIf (mVar 7) (zt f__law_within (zc (mVar 5) (zc (mVar 6) (aNil)))) (mLit .non))) (xSeq (xIf (mNot (zeo (zbV fX_put_beside fX_put_within) PF f0_law_right (zc (mLam 1 zW Pt 1 (PF 1)) (zc (mVar 8) (aNil))))) (xSeq (xRet (mLit (.bl false))) (xNil)) (xNil)) (xNil))))))) (xSeq (xAsg (mTup (zc (zt f__law_bad_table (zc (mVar 2) (aNil))) (zc (zt f__law_alike (zc (mLit (.int 8)) (aNil))) (aNil)))) (zbE 9 10)) (xSeq (xSet 11 (mLst (zc (mLam 1 zW Pt 2 (PF 2)) (aNil)))) (xSeq (xDo (zcq zaM (mVar 11) (mLam 1 zW Pt 3 (PF 3)))) (xSeq (xDo (zcq zaM (mVar 11) (mLam 1 zW Pt 4 (PF 4)))) (xSeq (xDo (zcq zaM (mVar 11) (mLam 1 zW Pt 5 (PF 5)))) (xSeq (xIf (mBin gNe (zb7 (zhP 1 (mIt (mVar 11)) (gVar 0) 0 PF (zbV fX_put_beside fX_put_within) RF)) (mBin gMul (mLst (zc (mLst (zc (mLit (.int 0)) (aNil))) (aNil))) (mLit (.int 4)))) (xSeq (xRet (mLit (.bl false))) (xNil)) (xNil)) (xNil))))))))))))) (xSeq (xRet (mLit (.bl true))) (xNil))
theorem o_law {P : Program} {w : World} {K : Frag} {mg : Str -> Option Value} {base : Heap} {k : Nat} (T : Bu mg) {f c Pt : Addr} {fd : FuncData} (F : Fun K "law" "law" zfu f fd) (hn : PySem.W.nsIn K mainGlobals "law" = some (some (.ref f))) (ht : PySem.W.tabIn K "law" = some (c, Pt)) (hB : BMain mg base) (hC : PySem.W.CodeHd base c Pt) {f__law_alike : Fn} (zaf : FnM P w K mg base k "_law_alike" 1 f__law_alike) {f__law_bad_table : Fn} (zao : FnM P w K mg base k "_law_bad_table" 1 f__law_bad_table) {f__law_beside : Fn} (zaW : FnM P w K mg base k "_law_beside" 2 f__law_beside) {f__law_small : Fn} (zaD : FnM P w K mg base k "_law_small" 1 f__law_small) {f__law_some_table : Fn} (zac : FnM P w K mg base k "_law_some_table" 2 f__law_some_table) {f__law_state : Fn} (zaQ : FnM P w K mg base k "_law_state" 2 f__law_state) {f__law_take : Fn} (zad : FnM P w K mg base k "_law_take" 2 f__law_take) {f__law_within : Fn} (zaS : FnM P w K mg base k "_law_within" 2 f__law_within) {fX_put_beside : Fn} {fX_put_within : Fn} {RF : Nat -> List W -> Hx -> R W} {j kk : Nat} (hkk : kk <= k) (hls : ∀ t ∈ zbV fX_put_beside fX_put_within, LmOk P w K mg j zW t) (hR : ∀ base PG, (∀ k, zck P w K mg base (j + 1) (PG k) (lamF (zbV fX_put_beside fX_put_within) k)) -> FnM P w K mg base kk "_law_refused" 1 (fRef PG RF)) {fG_law_right : PFam -> Fn} {f0_law_right : Fn} {kk_law_right : Nat} (hkk_law_right : kk_law_right <= k) (hR_law_right : ∀ base PG, (∀ k, zck P w K mg base (j + 1) (PG k) (lamF (zbV fX_put_beside fX_put_within) k)) -> FnM P w K mg base kk_law_right "_law_right" 2 (fG_law_right PG)) (hF_law_right : ∀ PG us A, f0_law_right us A = .bad ∨ fG_law_right PG (us.map (zfk PG)) A = f0_law_right us A) : FnOk P w K mg base CX0 (k + 1) f fd ["_law_script"] (spT K 1 λ PF => runB 12 (znf f__law_alike f__law_bad_table f__law_beside f__law_small f__law_some_table f__law_state f__law_take f__law_within fX_put_beside fX_put_within RF Pt PF f0_law_right)) :=
 Y.fnT (ls := zbV fX_put_beside fX_put_within) F hn ht zcJ λ A outer s H E hr => Y.zl (Y.zcK PassesOwn.never rfl (Y.zaU rfl T.b_range (Y.zfS rfl T.b_max (Y.zq) (Y.zfe rfl T.b_min (Y.zaI T.b_len (Y.sq_E (Y.zh 0))) (Y.zq)))) (Y.zaL 1 zcJ.nd) (Y.zl (Y.zat 2 zcJ.nd (Y.zX zaQ hr (Y.zi (Y.zh 0) (Y.zi (Y.zh 1) (Y.zm))) (zj (zj zp)))) (Y.zl (Y.zg2 3 4 rfl zcJ.nd (Y.zX zac hr (Y.zi (Y.zh 2) (Y.zi (Y.zq) (Y.zm))) (zj (zj zp))) (Y.zX zac hr (Y.zi (Y.zh 2) (Y.zi (Y.zq) (Y.zm))) (zj (zj zp)))) (Y.zl (Y.zci (Y.st_c (zgn hr) (Y.zX zad hr (Y.zi (Y.zh 2) (Y.zi (Y.zq) (Y.zm))) (zj (zj zp))) (Y.zq)) (Y.zl (Y.zat 3 zcJ.nd (Y.zX zaD hr (Y.zi (Y.zh 2) (Y.zm)) (zj zp))) (Y.zJ)) (Y.zJ)) (Y.zl (Y.zci (Y.st_c (zgn hr) (Y.zX zad hr (Y.zi (Y.zh 2) (Y.zi (Y.zq) (Y.zm))) (zj (zj zp))) (Y.zq)) (Y.zl (Y.zat 4 zcJ.nd (Y.zX zac hr (Y.zi (Y.zh 2) (Y.zi (Y.zq) (Y.zm))) (zj (zj zp)))) (Y.zJ)) (Y.zJ)) (Y.zl (Y.zcK PassesOwn.never rfl (Y.si_E (Y.zaz (Y.zi (Y.zak (Y.zi (Y.zh 3) (Y.zi (Y.zh 4) (Y.zm))) (zj (zj zp))) (Y.zi (Y.zak (Y.zi (Y.zh 4) (Y.zi (Y.zh 3) (Y.zm))) (zj (zj zp))) (Y.zi (Y.zak (Y.zi (Y.zh 3) (Y.zi (Y.zh 3) (Y.zm))) (zj (zj zp))) (Y.zm)))) (zj (zj (zj zp))))) (Y.zbP 5 6 rfl zcJ.nd) (Y.zl (Y.zat 7 zcJ.nd (Y.se_c c_lt (Y.zby (Y.zaI T.b_len (Y.sq_E (Y.zh 5))) (Y.zaI T.b_len (Y.sq_E (Y.zh 6)))) (Y.zq))) (Y.zl (Y.zat 8 zcJ.nd (Y.ziT (Y.zcf (Y.zh 7)) (Y.zX zaW hr (Y.zi (Y.zh 5) (Y.zi (Y.zh 6) (Y.zm))) (zj (zj zp))) (Y.zeq))) (Y.zl (Y.zci (Y.zdS (Y.zcf (Y.zeH (q := zW) (λ _ => rfl) hls (all_cons (zaR (by kernel_rfl)) (all_cons (zaR (by kernel_rfl)) (all_cons (zaR (by kernel_rfl)) (all_cons (zaR (by kernel_rfl)) (all_cons (zaR (by kernel_rfl)) (all_cons (zaR (by kernel_rfl)) (all_nil))))))) hR_law_right hF_law_right (hr.mono hkk_law_right) (Y.zi (Y.zc5 (ls := zbV fX_put_beside fX_put_within) (t := zdz fX_put_beside fX_put_within) rfl (by kernel_rfl) hB rfl hC rfl rfl) (Y.zi (Y.zh 8) (Y.zm))) (zj (zj zp))))) (Y.zl (Y.zU (Y.zdk)) (Y.zJ)) (Y.zJ)) (Y.zl (Y.zat 8 zcJ.nd (Y.ziT (Y.zcf (Y.zh 7)) (Y.zX zaS hr (Y.zi (Y.zh 5) (Y.zi (Y.zh 6) (Y.zm))) (zj (zj zp))) (Y.zeq))) (Y.zl (Y.zci (Y.zdS (Y.zcf (Y.zeH (q := zW) (λ _ => rfl) hls (all_cons (zaR (by kernel_rfl)) (all_cons (zaR (by kernel_rfl)) (all_cons (zaR (by kernel_rfl)) (all_cons (zaR (by kernel_rfl)) (all_cons (zaR (by kernel_rfl)) (all_cons (zaR (by kernel_rfl)) (all_nil))))))) hR_law_right hF_law_right (hr.mono hkk_law_right) (Y.zi (Y.zc5 (ls := zbV fX_put_beside fX_put_within) (t := zdB fX_put_beside fX_put_within) rfl (by kernel_rfl) hB rfl hC rfl rfl) (Y.zi (Y.zh 8) (Y.zm))) (zj (zj zp))))) (Y.zl (Y.zU (Y.zdk)) (Y.zJ)) (Y.zJ)) (Y.zJ))))))) (Y.zl (Y.zjZ (Y.zak (Y.zi (Y.zX zao hr (Y.zi (Y.zh 2) (Y.zm)) (zj zp)) (Y.zi (Y.zX zaf hr (Y.zi (Y.zq) (Y.zm)) (zj zp)) (Y.zm))) (zj (zj zp))) (Y.zbP 9 10 rfl zcJ.nd)) (Y.zl (Y.zat 11 zcJ.nd (Y.zaz (Y.zi (Y.zc5 (ls := zbV fX_put_beside fX_put_within) (t := zd3 fX_put_beside fX_put_within) rfl (by kernel_rfl) hB rfl hC rfl rfl) (Y.zm)) (zj zp))) (Y.zl (Y.zbl (Y.zbi (Y.zh 11) (Y.zc5 (ls := zbV fX_put_beside fX_put_within) (t := zd6 fX_put_beside fX_put_within) rfl (by kernel_rfl) hB rfl hC rfl rfl))) (Y.zl (Y.zbl (Y.zbi (Y.zh 11) (Y.zc5 (ls := zbV fX_put_beside fX_put_within) (t := zed fX_put_beside fX_put_within) rfl (by kernel_rfl) hB rfl hC rfl rfl))) (Y.zl (Y.zbl (Y.zbi (Y.zh 11) (Y.zc5 (ls := zbV fX_put_beside fX_put_within) (t := zdZ fX_put_beside fX_put_within) rfl (by kernel_rfl) hB rfl hC rfl rfl))) (Y.zl (Y.zci (Y.st_c (zhB hr) (Y.zhT (N := ["_law_call"]) (q := zW) (λ _ => rfl) hls (all_cons (zaR (by kernel_rfl)) (all_cons (zaR (by kernel_rfl)) (all_cons (zaR (by kernel_rfl)) (all_cons (zaR (by kernel_rfl)) (all_cons (zaR (by kernel_rfl)) (all_cons (zaR (by kernel_rfl)) (all_nil))))))) hR (hr.mono hkk) rfl (cps (by kernel_rfl)) (by kernel_rfl) (Y.si_E (Y.zh 11)) (λ _ _ _ => Y.zaL 0 (by decide +kernel : (["_law_call"] : List Str).Nodup)) rfl (Or.inl rfl) (λ _ _ _ => rfl)) (Y.zby (Y.zaz (Y.zi (Y.zaz (Y.zi (Y.zq) (Y.zm)) (zj zp)) (Y.zm)) (zj zp)) (Y.zq))) (Y.zl (Y.zU (Y.zdk)) (Y.zJ)) (Y.zJ)) (Y.zJ))))))))))))) (Y.zl (Y.zU (Y.zdk)) (Y.zJ))
noncomputable def zfE : Fn := runB 1 (zfA)
noncomputable def zbr : Fn :=  zfE
noncomputable def zjp : Fn := runB 5 (zfc)
noncomputable def zcR : Fn := iso zjp
noncomputable def zdh : Fn := runB 2 (za8)
noncomputable def zaA : Fn := iso zdh
noncomputable def zgv : Fn := runB 1 (zcG)
noncomputable def zaC : Fn := iso zgv
noncomputable def zdP : Fn := runB 2 (zco)
noncomputable def zaB : Fn := iso zdP
noncomputable def zfn : Fn := runB 2 (zbw)
noncomputable def zaZ : Fn :=  zfn
noncomputable def zcx : Fn := runB 4 (zcp)
noncomputable def zad : Fn := isoL zcx
noncomputable def zhy : Fn := runB 1 (zem)
noncomputable def zaf : Fn := iso zhy
noncomputable def zh7 : Fn := runB 1 (zeS)
noncomputable def zbm : Fn := iso zh7
noncomputable def zeW : Fn := runB 1 (zcT)
noncomputable def zaP : Fn := iso zeW
noncomputable def zgI : Fn := runB 1 (zet)
noncomputable def zaF : Fn := iso zgI
noncomputable def zds : Fn := runB 2 (zcA zbr)
noncomputable def zbc : Fn :=  zds
noncomputable def zhz : Fn := runB 3 (zb0 zaZ)
noncomputable def zaQ : Fn :=  zhz
noncomputable def zcj : Fn := runB 9 (zbs zad)
noncomputable def zac : Fn := isoL zcj
noncomputable def zc1 : Fn := runB 2 (zc3 zaf zaP zbm zad)
noncomputable def zaD : Fn := isoL zc1
noncomputable def zgk : Fn := runB 8 (zcv zaF)
noncomputable def zaW : Fn := iso zgk
noncomputable def zgi : Fn := runB 8 (zct zaF)
noncomputable def zaS : Fn := iso zgi
noncomputable def zcM : Fn := runB 2 (zbF zad)
noncomputable def zao : Fn :=  zcM
noncomputable def zbv : Fn := runB 3 (za4 zbc)
noncomputable def zag : Fn :=  zbv
noncomputable def zhs : Fn := runB 2 (za2 (λ _ _ => .bad))
noncomputable def zcW : Fn := iso zhs
noncomputable def zgQ : Fn := runB 2 (za2 zcW)
noncomputable def zc2 : Fn := iso zgQ
noncomputable def zdy : Fn := runB 2 (za2 zc2)
noncomputable def za3 : Fn := iso zdy
noncomputable def zc8 : Fn := runB 2 (zcc zcR zag zaA)
noncomputable def zah : Fn :=  zc8
noncomputable def zba : Fn := runX 1 (zbg zah)
noncomputable def zae : Fn := runX 2 (zan zba)
noncomputable def zab : Fn := runX 4 (zbC zaC zaB zae)
noncomputable def zaa : Fn := runX 4 (zbz zaC zaB zae)
structure Tx (K : Frag) : Prop where
 d_is_whole : FD K "is_whole" zdV
 d_is_even : FD K "is_even" ze0
 d_leaves_no_kind_out : FD K "leaves_no_kind_out" za6
 d_count_kinds : FD K "count_kinds" zcw
 d_pair_places : FD K "pair_places" zcl
 d__law_cell_at : FD K "_law_cell_at" zca
 d__law_take : FD K "_law_take" zdu
 d__law_alike : FD K "_law_alike" zc4
 d__law_ring : FD K "_law_ring" zdC
 d__law_each_own : FD K "_law_each_own" zbR
 d__law_kinds : FD K "_law_kinds" zcO
 d_is_wholes : FD K "is_wholes" zdr
 d__law_state : FD K "_law_state" zcY
 d__law_some_table : FD K "_law_some_table" zbu
 d__law_small : FD K "_law_small" zc0
 d__law_beside : FD K "_law_beside" zcz
 d__law_within : FD K "_law_within" zcE
 d__law_bad_table : FD K "_law_bad_table" zbD
 d_is_wholes_below : FD K "is_wholes_below" zbo
 d__law_same : FD K "_law_same" zdD
 d_is_table : FD K "is_table" zd9
 d_require_table : FD K "require_table" zbQ
 d_require_few_together : FD K "require_few_together" za0
 d_put_beside : FD K "put_beside" zcP
 d_put_within : FD K "put_within" zcX
 d__law_refused : FD K "_law_refused" zb9
 d__law_right : FD K "_law_right" zcU
 d_law : FD K "law" zfu
 n_ValueError : PySem.W.nsIn K mainGlobals "ValueError" = some none
 n_all : PySem.W.nsIn K mainGlobals "all" = some none
 n_bool : PySem.W.nsIn K mainGlobals "bool" = some none
 n_enumerate : PySem.W.nsIn K mainGlobals "enumerate" = some none
 n_int : PySem.W.nsIn K mainGlobals "int" = some none
 n_isinstance : PySem.W.nsIn K mainGlobals "isinstance" = some none
 n_len : PySem.W.nsIn K mainGlobals "len" = some none
 n_list : PySem.W.nsIn K mainGlobals "list" = some none
 n_max : PySem.W.nsIn K mainGlobals "max" = some none
 n_min : PySem.W.nsIn K mainGlobals "min" = some none
 n_range : PySem.W.nsIn K mainGlobals "range" = some none
 n_tuple : PySem.W.nsIn K mainGlobals "tuple" = some none
 n_zip : PySem.W.nsIn K mainGlobals "zip" = some none
 q_MOST_PLACES : CD K "MOST_PLACES" 8
 x_exc : zx.all (ziA K "NearError" ·) = true
 x_top : zjt K "NearError" = true
 x_row : zax.all (zV K zx) = true
section
variable {P : Program} {w : World} {K : Frag} {mg : Str -> Option Value} {base h : Heap}
theorem bu (X : K.In h) (G : h.Ns mainGlobals mg) (T : Tx K) : Bu mg := ⟨PySem.W.mg_none_of X G T.n_ValueError, PySem.W.mg_none_of X G T.n_all, PySem.W.mg_none_of X G T.n_bool, PySem.W.mg_none_of X G T.n_enumerate, PySem.W.mg_none_of X G T.n_int, PySem.W.mg_none_of X G T.n_isinstance, PySem.W.mg_none_of X G T.n_len, PySem.W.mg_none_of X G T.n_list, PySem.W.mg_none_of X G T.n_max, PySem.W.mg_none_of X G T.n_min, PySem.W.mg_none_of X G T.n_range, PySem.W.mg_none_of X G T.n_tuple, PySem.W.mg_none_of X G T.n_zip, (let ⟨t, e⟩ := T.q_MOST_PLACES; ⟨t, PySem.W.mg_of X G e⟩)⟩
theorem cl (T : Tx K) : Cls K zx "NearError" := zoD T.x_exc T.x_top
theorem ziQ (X : K.In h) (G : h.Ns mainGlobals mg) (T : Tx K) : FnM P w K mg base 1 "is_whole" 1 zbr := by
 obtain ⟨f, fd, F, a⟩ := T.d_is_whole
 exact (ziX (k := 0) (bu X G T) F (PySem.W.mg_of X G a))
theorem zjL (X : K.In h) (G : h.Ns mainGlobals mg) (T : Tx K) : FnM P w K mg base 1 "is_even" 1 zcR := by
 obtain ⟨f, fd, F, a⟩ := T.d_is_even
 exact (zjd (k := 0) (bu X G T) F (PySem.W.mg_of X G a)).iso
theorem zdg (X : K.In h) (G : h.Ns mainGlobals mg) (T : Tx K) : FnM P w K mg base 1 "leaves_no_kind_out" 1 zaA := by
 obtain ⟨f, fd, F, a⟩ := T.d_leaves_no_kind_out
 exact (zdi (k := 0) (bu X G T) F (PySem.W.mg_of X G a)).iso
theorem zdN (X : K.In h) (G : h.Ns mainGlobals mg) (T : Tx K) : FnM P w K mg base 1 "count_kinds" 1 zaC := by
 obtain ⟨f, fd, F, a⟩ := T.d_count_kinds
 exact (zf6 (k := 0) (bu X G T) F (PySem.W.mg_of X G a)).iso
theorem zdE (X : K.In h) (G : h.Ns mainGlobals mg) (T : Tx K) : FnM P w K mg base 1 "pair_places" 2 zaB := by
 obtain ⟨f, fd, F, a⟩ := T.d_pair_places
 exact (zf1 (k := 0) (bu X G T) F (PySem.W.mg_of X G a)).iso
theorem zfl (X : K.In h) (G : h.Ns mainGlobals mg) (T : Tx K) : FnM P w K mg base 1 "_law_cell_at" 2 zaZ := by
 obtain ⟨f, fd, F, a⟩ := T.d__law_cell_at
 exact (zfj (k := 0) (bu X G T) F (PySem.W.mg_of X G a))
theorem zcH (X : K.In h) (G : h.Ns mainGlobals mg) (T : Tx K) : FnM P w K mg base 1 "_law_take" 2 zad := by
 obtain ⟨f, fd, F, a⟩ := T.d__law_take
 exact (zhO (k := 0) (bu X G T) F (PySem.W.mg_of X G a)).isoL
theorem zek (X : K.In h) (G : h.Ns mainGlobals mg) (T : Tx K) : FnM P w K mg base 1 "_law_alike" 1 zaf := by
 obtain ⟨f, fd, F, a⟩ := T.d__law_alike
 exact (zhg (k := 0) (bu X G T) F (PySem.W.mg_of X G a)).iso
theorem zhD (X : K.In h) (G : h.Ns mainGlobals mg) (T : Tx K) : FnM P w K mg base 1 "_law_ring" 1 zbm := by
 obtain ⟨f, fd, F, a⟩ := T.d__law_ring
 exact (zhC (k := 0) (bu X G T) F (PySem.W.mg_of X G a)).iso
theorem zfh (X : K.In h) (G : h.Ns mainGlobals mg) (T : Tx K) : FnM P w K mg base 1 "_law_each_own" 1 zaP := by
 obtain ⟨f, fd, F, a⟩ := T.d__law_each_own
 exact (ze7 (k := 0) (bu X G T) F (PySem.W.mg_of X G a)).iso
theorem zej (X : K.In h) (G : h.Ns mainGlobals mg) (T : Tx K) : FnM P w K mg base 1 "_law_kinds" 1 zaF := by
 obtain ⟨f, fd, F, a⟩ := T.d__law_kinds
 exact (zhm (k := 0) (bu X G T) F (PySem.W.mg_of X G a)).iso
theorem zia (X : K.In h) (G : h.Ns mainGlobals mg) (T : Tx K) : FnM P w K mg base 2 "is_wholes" 2 zbc := by
 obtain ⟨f, fd, F, a⟩ := T.d_is_wholes
 exact (zhF (k := 1) (bu X G T) F (PySem.W.mg_of X G a) ((ziQ X G T).mono (by decide)))
theorem zhv (X : K.In h) (G : h.Ns mainGlobals mg) (T : Tx K) : FnM P w K mg base 2 "_law_state" 2 zaQ := by
 obtain ⟨f, fd, F, a⟩ := T.d__law_state
 exact (zhw (k := 1) (bu X G T) F (PySem.W.mg_of X G a) ((zfl X G T).mono (by decide)))
theorem zd7 (X : K.In h) (G : h.Ns mainGlobals mg) (T : Tx K) : FnM P w K mg base 2 "_law_some_table" 2 zac := by
 obtain ⟨f, fd, F, a⟩ := T.d__law_some_table
 exact (zee (k := 1) (bu X G T) F (PySem.W.mg_of X G a) ((zcH X G T).mono (by decide))).isoL
theorem zgY (X : K.In h) (G : h.Ns mainGlobals mg) (T : Tx K) : FnM P w K mg base 2 "_law_small" 1 zaD := by
 obtain ⟨f, fd, F, a⟩ := T.d__law_small
 exact (zgz (k := 1) (bu X G T) F (PySem.W.mg_of X G a) ((zek X G T).mono (by decide)) ((zfh X G T).mono (by decide)) ((zhD X G T).mono (by decide)) ((zcH X G T).mono (by decide))).isoL
theorem zgf (X : K.In h) (G : h.Ns mainGlobals mg) (T : Tx K) : FnM P w K mg base 2 "_law_beside" 2 zaW := by
 obtain ⟨f, fd, F, a⟩ := T.d__law_beside
 exact (zgj (k := 1) (bu X G T) F (PySem.W.mg_of X G a) ((zej X G T).mono (by decide))).iso
theorem zgh (X : K.In h) (G : h.Ns mainGlobals mg) (T : Tx K) : FnM P w K mg base 2 "_law_within" 2 zaS := by
 obtain ⟨f, fd, F, a⟩ := T.d__law_within
 exact (zgg (k := 1) (bu X G T) F (PySem.W.mg_of X G a) ((zej X G T).mono (by decide))).iso
theorem zeF (X : K.In h) (G : h.Ns mainGlobals mg) (T : Tx K) : FnM P w K mg base 2 "_law_bad_table" 1 zao := by
 obtain ⟨f, fd, F, a⟩ := T.d__law_bad_table
 exact (zey (k := 1) (bu X G T) F (PySem.W.mg_of X G a) ((zcH X G T).mono (by decide)))
theorem zea (X : K.In h) (G : h.Ns mainGlobals mg) (T : Tx K) : FnM P w K mg base 3 "is_wholes_below" 3 zag := by
 obtain ⟨f, fd, F, a⟩ := T.d_is_wholes_below
 exact (zdY (k := 2) (bu X G T) F (PySem.W.mg_of X G a) ((zia X G T).mono (by decide)))
theorem zgO (X : K.In h) (G : h.Ns mainGlobals mg) (T : Tx K) : FnM P w K mg base 1 "_law_same" 2 zcW := by
 obtain ⟨f, fd, F, a⟩ := T.d__law_same
 exact (zdA (k := 0) (bu X G T) F (PySem.W.mg_of X G a) (zpe (ps := ["_law_found", "_law_due"]) F (PySem.W.mg_of X G a) (λ _ _ _ _ _ _ us hl => (len2 hl).elim λ a h => h.elim λ b q => by subst q; rfl))).iso
theorem zgH (X : K.In h) (G : h.Ns mainGlobals mg) (T : Tx K) : FnM P w K mg base 2 "_law_same" 2 zc2 := by
 obtain ⟨f, fd, F, a⟩ := T.d__law_same
 exact (zdA (k := 1) (bu X G T) F (PySem.W.mg_of X G a) (zgO X G T)).iso
theorem zh5 (X : K.In h) (G : h.Ns mainGlobals mg) (T : Tx K) : FnM P w K mg base 3 "_law_same" 2 za3 := by
 obtain ⟨f, fd, F, a⟩ := T.d__law_same
 exact (zdA (k := 2) (bu X G T) F (PySem.W.mg_of X G a) (zgH X G T)).iso
theorem zi9 (X : K.In h) (G : h.Ns mainGlobals mg) (T : Tx K) : FnM P w K mg base 4 "is_table" 1 zah := by
 obtain ⟨f, fd, F, a⟩ := T.d_is_table
 exact (ziZ (k := 3) (bu X G T) F (PySem.W.mg_of X G a) ((zjL X G T).mono (by decide)) ((zea X G T).mono (by decide)) ((zdg X G T).mono (by decide)))
theorem zeC (X : K.In h) (G : h.Ns mainGlobals mg) (T : Tx K) : FnX P w K mg base 5 "require_table" 1 zba := by
 obtain ⟨f, fd, F, a⟩ := T.d_require_table
 exact zfb (k := 4) (bu X G T) (cl T) F (PySem.W.mg_of X G a) ((zi9 X G T).mono (by decide))
theorem zbf (X : K.In h) (G : h.Ns mainGlobals mg) (T : Tx K) : FnX P w K mg base 6 "require_few_together" 2 zae := by
 obtain ⟨f, fd, F, a⟩ := T.d_require_few_together
 exact zcN (k := 5) (bu X G T) (cl T) F (PySem.W.mg_of X G a) ((zeC X G T).mono (by decide))
theorem zfZ (X : K.In h) (G : h.Ns mainGlobals mg) (T : Tx K) : FnX P w K mg base 7 "put_beside" 2 zab := by
 obtain ⟨f, fd, F, a⟩ := T.d_put_beside
 exact zhn (k := 6) (bu X G T) (cl T) F (PySem.W.mg_of X G a) ((zdN X G T).mono (by decide)) ((zdE X G T).mono (by decide)) ((zbf X G T).mono (by decide))
theorem zf8 (X : K.In h) (G : h.Ns mainGlobals mg) (T : Tx K) : FnX P w K mg base 7 "put_within" 2 zaa := by
 obtain ⟨f, fd, F, a⟩ := T.d_put_within
 exact zgX (k := 6) (bu X G T) (cl T) F (PySem.W.mg_of X G a) ((zdN X G T).mono (by decide)) ((zdE X G T).mono (by decide)) ((zbf X G T).mono (by decide))
theorem zft (X : K.In h) (G : h.Ns mainGlobals mg) (T : Tx K) {PG : PFam} {lam : Nat -> Fn} (hL : ∀ k, zck P w K mg base 8 (PG k) (lam k)) : FnM P w K mg base 9 "_law_refused" 1 (iso (runB 4 (zaE PG lam))) := by
 obtain ⟨f, fd, F, a⟩ := T.d__law_refused
 exact (zdq (k := 8) (bu X G T) (cl T) T.x_row F (PySem.W.mg_of X G a) (Nat.le_refl _) hL).iso
noncomputable def zbY (PG : PFam) (lam : Nat -> Fn) : Fn := runB 2 (zbZ (iso (runB 4 (zaE PG lam))) za3 PG lam)
theorem zhc (X : K.In h) (G : h.Ns mainGlobals mg) (T : Tx K) {PG : PFam} {lam : Nat -> Fn} (hL : ∀ k, zck P w K mg base 8 (PG k) (lam k)) : FnM P w K mg base 10 "_law_right" 2 (zbY PG lam) := by
 obtain ⟨f, fd, F, a⟩ := T.d__law_right
 exact zgR (k := 9) (bu X G T) F (PySem.W.mg_of X G a) ((zft X G T hL).mono (by decide)) ((zh5 X G T).mono (by decide)) (by decide) hL
end
end G
namespace Mi
open PySem L2
section
variable {ws : List W} {m me : Ev} {ρ : En} {A A1 : Hx} {cap : List Nat}
theorem zh3 (h : m ρ A = .ok (.tup ws) A1) : mIt m ρ A = .ok ⟨λ A i => (zK (.tup ws) A).map λ ws => ws[i]?, ws.length⟩ A1 := by
 unfold mIt itOf
 rw [h, zr]
 rfl
theorem zdI (h : m ρ A = .ok (.tup ws) A) (hl : ws.length <= zR) {g : W -> W} (he : ∀ w ∈ ws, me (some w :: cap.map λ i => (ρ[i]?).join) A = .ok (g w) A) :
  zT 1 cap (mIt m) (gVar 0) (mLit (.bl true)) (zN me) ρ A = .ok (ws.map g) A := by
 have e := zd5 (cap := cap) (me := me) (ρ := ρ) (A := A) (N := ws.length) (item := λ i => ws.getD i .non) (g := λ i => g (ws.getD i .non)) (zh3 h) rfl hl
  (λ i hi => by show some ws[i]? = _; rw [List.getElem?_eq_getElem hi, List.getD_eq_getElem?_getD, List.getElem?_eq_getElem hi]; rfl)
  (by show some ws[ws.length]? = _; rw [List.getElem?_eq_none (Nat.le_refl _)])
  (λ i hi => by
   have : ws.getD i .non = ws[i] := by rw [List.getD_eq_getElem?_getD, List.getElem?_eq_getElem hi]; rfl
   rw [this]; exact he _ (List.getElem_mem hi))
 rw [e]
 congr 1
 apply List.ext_getElem
 ·simp
 ·intro i h1 h2
  have hi : i < ws.length := by simpa using h2
  simp [List.getD_eq_getElem?_getD, List.getElem?_eq_getElem hi]
theorem zgB {α : Type} (p : α -> Bool) : ∀ l : List α, zcQ (l.map λ x => W.bl (p x)) = some (l.map p)
 | [] => rfl
 | x :: l => by
  show (match truW (.bl (p x)), zcQ (l.map λ x => W.bl (p x)) with | some k, some ks => some (k :: ks) | _, _ => none) = _
  rw [zgB p l]; rfl
theorem zff {α : Type} {p : α -> Bool} {l : List α} (h : ∀ x ∈ l, p x = true) : gAll (l.map λ x => W.bl (p x)) A = .ok (.bl true) A := by
 show gTru (λ ks => ks.all id) _ A = _
 unfold gTru
 rw [zgB]
 dsimp only
 have : (l.map p).all id = true := by
  rw [List.all_map]
  exact List.all_eq_true.mpr λ x hx => h x hx
 rw [this]
theorem zdt {α : Type} {f : α -> W} (h : ∀ x, (f x).nr = true) : ∀ l : List α, nrs (l.map f) = true
 | [] => rfl
 | x :: l => by
  show ((f x).nr && nrs (l.map f)) = true
  rw [h x, zdt h l]; rfl
theorem eqI (i j : Int) (A : Hx) : gEq (.int i) (.int j) A = .ok (.bl (decide (i = j))) A := by
 show R.ok (W.bl (PyData.eqv (.int i) (.int j))) A = _
 simp [PyData.eqv]
 rfl
theorem neI (i j : Int) (A : Hx) : gNe (.int i) (.int j) A = .ok (.bl (!decide (i = j))) A := by
 show R.ok (W.bl (!PyData.eqv (.int i) (.int j))) A = _
 simp [PyData.eqv]
 rfl
theorem neB (i j : Bool) (A : Hx) : gNe (.bl i) (.bl j) A = .ok (.bl (!(i == j))) A := by
 cases i <;> cases j <;> rfl
end
noncomputable def rowW (r : List Int) : W := .tup (r.map W.int)
noncomputable def tabW (t : List (List Int)) : W := .tup (t.map rowW)
theorem zm9 (r : List Int) : (rowW r).nr = true := by
 show nrs (r.map W.int) = true
 exact zdt (λ _ => rfl) r
theorem zbb (t : List (List Int)) : (tabW t).nr = true := by
 show nrs (t.map rowW) = true
 exact zdt zm9 t
end Mi
namespace G
open PySem L2 Mi
theorem zi3 (i : Int) (A : Hx) : zbr [.int i] A = .ok (.bl true) A := by
 unfold zbr zfE
 exact zaq (w := .bl true) (A1 := A) rfl
theorem zli {r : List Int} (hl : r.length <= 8) (A : Hx) : zbc [rowW r, .int r.length] A = .ok (.bl true) A := by
 unfold zbc zds
 refine zaq ?_
 unfold zcA
 refine zaj (zaw ?_)
 refine (zfF (A1 := A) rfl).trans ?_
 have el : mQ gLen (mSeq (mVar 0)) [some (rowW r), some (.int r.length)] A = .ok (.int r.length) A := by
  rw [zcC (zbd (w := rowW r) (A1 := A) (zo rfl) rfl)]
  unfold gLen
  rw [List.length_map]
 refine (zfF (A1 := A) ((zL el (zo (i := 1) rfl)).trans ((eqI _ _ _).trans (by rw [decide_eq_true rfl])))).trans ?_
 have ec := zdI (cap := []) (A := A) (ρ := [some (rowW r), some (.int r.length)]) (ws := r.map W.int) (me := zt zbr (zc (mVar 0) (aNil))) (g := λ _ => .bl true) (zo (i := 0) rfl) (by rw [List.length_map]; unfold zR; omega) (λ w hw => by
  obtain ⟨i, _, rfl⟩ := List.mem_map.mp hw
  exact (zQ (ws := [.int i]) (A1 := A) rfl).trans (zi3 i A))
 exact (zcC ec).trans (zff (p := λ _ => true) λ _ _ => rfl)
theorem zjM {r : List Int} (hl : r.length <= 8) (hr : ∀ v ∈ r, 0 <= v /\ v < r.length) (A : Hx) : zag [rowW r, .int r.length, .int r.length] A = .ok (.bl true) A := by
 unfold zag zbv
 refine zaq ?_
 unfold za4
 refine zaj (zaw ?_)
 refine (zfF (A1 := A) ((zQ (ws := [rowW r, .int r.length]) (A1 := A) rfl).trans (zli hl A))).trans ?_
 have ec := zdI (cap := [2]) (A := A) (ρ := [some (rowW r), some (.int r.length), some (.int r.length)]) (ws := r.map W.int) (me := zbG gLe gLt (mLit (.int 0)) (mVar 0) (mVar 1)) (g := λ _ => .bl true) (zo (i := 0) rfl) (by rw [List.length_map]; unfold zR; omega) (λ w hw => by
  obtain ⟨v, hv, rfl⟩ := List.mem_map.mp hw
  obtain ⟨h1, h2⟩ := hr v hv
  unfold zbG
  rw [zaT, zr, zo (i := 0) (w := .int v) rfl, zr]
  show R.bind (R.ok (W.bl (decide ((0 : Int) <= v))) A) _ = _
  rw [decide_eq_true h1, zr]
  dsimp only
  rw [zo (i := 1) (w := .int r.length) rfl, zr]
  show R.ok (W.bl (decide (v < (r.length : Int)))) A = _
  rw [decide_eq_true h2])
 exact (zcC ec).trans (zff (p := λ _ => true) λ _ _ => rfl)
end G
namespace Mi
open PySem L2
theorem zeU {j : Itx} {st : W -> Ex} {A : Hx} {N : Nat} {item : Nat -> W} {I : En -> Prop} (hat : ∀ i, i < N -> j.at_ A i = some (some (item i))) (hend : j.at_ A N = some none)
  (hs : ∀ i, i < N -> ∀ ρ, I ρ -> ∃ ρ', st (item i) ρ A = .ok (.nx ρ') A /\ I ρ') : ∀ (n i : Nat) (ρ : En), i + n = N -> I ρ -> ∃ ρ', zbJ j st n i ρ A = .ok (.nx ρ') A /\ I ρ' := by
 intro n
 induction n with
 | zero =>
  intro i ρ h I0
  have : i = N := by omega
  subst this
  exact ⟨ρ, zbL hend, I0⟩
 | succ n ih =>
  intro i ρ h I0
  obtain ⟨ρ1, e1, I1⟩ := hs i (by omega) ρ I0
  obtain ⟨ρ2, e2, I2⟩ := ih (i + 1) ρ1 (by omega) I1
  exact ⟨ρ2, (zc7 (hat i (by omega)) e1).trans e2, I2⟩
theorem zgZ {m : Ev} {ρ : En} {A A1 : Hx} {ws : List W} (h : m ρ A = .ok (.tup ws) A1) : zh8 m ρ A = .ok (enIt (.tup ws) ws.length) A1 := by
 unfold zh8
 rw [h, zr]
 rfl
theorem zoR {A : Hx} {ws : List W} {i : Nat} {w : W} (h : ws[i]? = some w) : (enIt (.tup ws) ws.length).at_ A i = some (some (.tup [.int i, w])) := by
 show atEnd ws i _ = _
 unfold atEnd
 rw [h]
theorem zl0 {A : Hx} {ws : List W} : (enIt (.tup ws) ws.length).at_ A ws.length = some none := by
 show atEnd ws _ _ = _
 unfold atEnd
 rw [List.getElem?_eq_none (Nat.le_refl _)]
 exact if_pos rfl
noncomputable def at2 (t : List (List Int)) (a b : Nat) : Int := (t.getD a []).getD b 0
structure TabL (t : List (List Int)) : Prop where
 n1 : 1 <= t.length
 n8 : t.length <= 8
 sq : ∀ r ∈ t, r.length = t.length
 lo : ∀ r ∈ t, ∀ v ∈ r, 0 <= v /\ v < (t.length : Int)
 dg : ∀ a b, a < t.length -> b < t.length -> (at2 t a b = 0 ↔ a = b)
 sy : ∀ a b, a < t.length -> b < t.length -> at2 t a b = at2 t b a
 fu : ∀ k : Nat, (∃ v ∈ t.flatten, (k : Int) < v) -> (k : Int) ∈ t.flatten
section
variable {t : List (List Int)} {A : Hx} {a b : Nat}
theorem zkn (ha : a < t.length) : (t.map rowW)[a]? = some (rowW (t.getD a [])) := by
 rw [List.getElem?_map, List.getD_eq_getElem?_getD, List.getElem?_eq_getElem ha]; rfl
theorem zdv (ha : a < t.length) : t.getD a [] ∈ t := by
 rw [List.getD_eq_getElem?_getD, List.getElem?_eq_getElem ha]; exact List.getElem_mem ha
theorem zlV (ha : a < t.length) : gIx (tabW t) (.int a) A = .ok (rowW (t.getD a [])) A := by
 unfold gIx
 show (match atI (t.map rowW) (a : Int) with | some w => R.ok w A | none => R.bad) = _
 rw [zga (zkn ha)]
theorem int_at {r : List Int} (hb : b < r.length) : (r.map W.int)[b]? = some (.int (r.getD b 0)) := by
 rw [List.getElem?_map, List.getD_eq_getElem?_getD, List.getElem?_eq_getElem hb]; rfl
theorem zlJ {r : List Int} (hb : b < r.length) : gIx (rowW r) (.int b) A = .ok (.int (r.getD b 0)) A := by
 unfold gIx
 show (match atI (r.map W.int) (b : Int) with | some w => R.ok w A | none => R.bad) = _
 rw [zga (v := .int (r.getD b 0)) (by rw [List.getElem?_map, List.getD_eq_getElem?_getD, List.getElem?_eq_getElem hb]; rfl)]
end
end Mi
namespace G
open PySem L2 Mi
theorem znW {t : List (List Int)} (h : TabL t) (A : Hx) : zcR [tabW t] A = .ok (.bl true) A := by
 refine zbH (A1 := []) (by show ((tabW t).nr && true) = true; rw [zbb]; rfl) rfl (zaq ?_)
 unfold zfc
 obtain ⟨ρ', e, _⟩ := zeU (A := []) (N := t.length) (item := λ i => .tup [.int i, rowW (t.getD i [])]) (I := λ ρ => ∃ y1 y2 y3 y4, ρ = [some (tabW t), y1, y2, y3, y4])
  (j := enIt (tabW t) (t.map rowW).length) (st := turn (zbE 1 2) (xSeq (xFor (zh8 (mVar 2)) (zbE 3 4) (xSeq (xIf (mOr (mBin gNe (mBin gEq (mVar 4) (mLit (.int 0))) (mBin gEq (mVar 1) (mVar 3))) (mBin gNe (mBin gIx (mBin gIx (mVar 0) (mVar 3)) (mVar 1)) (mVar 4))) (xSeq (xRet (mLit (.bl false))) (xNil)) (xNil)) (xNil))) (xNil)))
  (λ i hi => zoR (zkn hi)) (by have := zl0 (A := []) (ws := t.map rowW); rw [List.length_map] at this; rw [List.length_map]; exact this) (λ a ha ρ hρ => by
   obtain ⟨y1, y2, y3, y4, rfl⟩ := hρ
   have hrl := h.sq _ (zdv ha)
   obtain ⟨ρ2, e2, z3, z4, hz⟩ := zeU (A := []) (N := t.length) (item := λ i => .tup [.int i, .int ((t.getD a []).getD i 0)]) (I := λ ρ => ∃ y3 y4, ρ = [some (tabW t), some (.int a), some (rowW (t.getD a [])), y3, y4])
    (j := enIt (rowW (t.getD a [])) ((t.getD a []).map W.int).length) (st := turn (zbE 3 4) (xSeq (xIf (mOr (mBin gNe (mBin gEq (mVar 4) (mLit (.int 0))) (mBin gEq (mVar 1) (mVar 3))) (mBin gNe (mBin gIx (mBin gIx (mVar 0) (mVar 3)) (mVar 1)) (mVar 4))) (xSeq (xRet (mLit (.bl false))) (xNil)) (xNil)) (xNil)))
    (λ i hi => zoR (int_at (by omega)))
    (by have := zl0 (A := []) (ws := (t.getD a []).map W.int); rw [List.length_map, hrl] at this; rw [List.length_map, hrl]; exact this)
    (λ b hb ρ hρ => by
     obtain ⟨y3, y4, rfl⟩ := hρ
     refine ⟨[some (tabW t), some (.int a), some (rowW (t.getD a [])), some (.int b), some (.int ((t.getD a []).getD b 0))], ?_, _, _, rfl⟩
     refine (zb6 rfl).trans ?_
     refine (zu ((zdf (A1 := []) ?_).trans rfl)).trans rfl
     have e1 : mBin gNe (mBin gEq (mVar 4) (mLit (.int 0))) (mBin gEq (mVar 1) (mVar 3)) [some (tabW t), some (.int a), some (rowW (t.getD a [])), some (.int b), some (.int ((t.getD a []).getD b 0))] [] = .ok (.bl false) [] := by
      refine (zL ((zL (zo (i := 4) rfl) (zaT (w := .int 0))).trans (eqI _ _ _)) ((zL (zo (i := 1) rfl) (zo (i := 3) rfl)).trans (eqI _ _ _))).trans ((neB _ _ _).trans ?_)
      have hd : (t.getD a []).getD b 0 = 0 ↔ a = b := h.dg a b ha hb
      have : decide ((t.getD a []).getD b 0 = 0) = decide ((a : Int) = (b : Int)) := by
       by_cases q : a = b
       ·rw [decide_eq_true (hd.mpr q), decide_eq_true (by omega)]
       ·rw [decide_eq_false (λ z => q (hd.mp z)), decide_eq_false (by omega)]
      rw [this]
      simp
     have e2 : mBin gNe (mBin gIx (mBin gIx (mVar 0) (mVar 3)) (mVar 1)) (mVar 4) [some (tabW t), some (.int a), some (rowW (t.getD a [])), some (.int b), some (.int ((t.getD a []).getD b 0))] [] = .ok (.bl false) [] := by
      have hbl := h.sq _ (zdv hb)
      refine (zL ((zL ((zL (zo (i := 0) rfl) (zo (i := 3) rfl)).trans (zlV hb)) (zo (i := 1) rfl)).trans (zlJ (by omega))) (zo (i := 4) rfl)).trans ((neI _ _ _).trans ?_)
      have hs : (t.getD b []).getD a 0 = (t.getD a []).getD b 0 := (h.sy a b ha hb).symm
      rw [hs, decide_eq_true rfl]
      rfl
     exact (znd e1).trans e2) t.length 0 [some (tabW t), some (.int a), some (rowW (t.getD a [])), y3, y4] (by omega) ⟨_, _, rfl⟩
   refine ⟨[some (tabW t), some (.int a), some (rowW (t.getD a [])), z3, z4], ?_, _, _, _, _, rfl⟩
   refine (zb6 rfl).trans ?_
   rw [hz] at e2
   have hlen : ((t.getD a []).map W.int).length = t.length := by rw [List.length_map, hrl]
   refine (zu ((zcI (zgZ (zo (i := 2) rfl))).trans ?_)).trans rfl
   show zbJ (enIt (rowW (t.getD a [])) ((t.getD a []).map W.int).length) _ ((t.getD a []).map W.int).length 0 _ _ = _
   rw [hlen] at e2 ⊢
   exact e2) t.length 0 [some (tabW t), none, none, none, none] (by omega) ⟨_, _, _, _, rfl⟩
 refine (zu (ρ1 := ρ') (A1 := []) ((zcI (zgZ (zo (i := 0) rfl))).trans ?_)).trans (zaj rfl)
 show zbJ (enIt (tabW t) (t.map rowW).length) _ (t.map rowW).length 0 _ _ = _
 have hlen : (t.map rowW).length = t.length := List.length_map ..
 rw [hlen] at e ⊢
 exact e
end G
namespace Mi
open PySem L2
section
variable {t : List (List Int)} {A : Hx}
theorem zlm {j : Itx} {me : Ev} {ws : List W} {c : Option W} (hj : ∀ i, i < ws.length -> j.at_ A i = some (some (ws.getD i .non))) (hend : j.at_ A ws.length = some none) (he : ∀ w, me [c, some w] A = .ok w A) :
  ∀ (f i : Nat) (x : Option W) (acc : List W), i + f = ws.length -> acc.length + f <= zR -> ∃ y, emGo j (gVar 1) (mLit (.bl true)) (zN me) f i [c, x] acc A = .ok ([c, y], acc ++ ws.drop i) A := by
 intro f
 induction f with
 | zero =>
  intro i x acc h hl
  have : i = ws.length := by omega
  subst this
  refine ⟨x, ?_⟩
  unfold emGo
  rw [hend, List.drop_length, List.append_nil]
 | succ f ih =>
  intro i x acc h hl
  have hi : i < ws.length := by omega
  have ew : ws.getD i .non = ws[i] := by rw [List.getD_eq_getElem?_getD, List.getElem?_eq_getElem hi]; rfl
  obtain ⟨y, e⟩ := ih (i + 1) (some ws[i]) (acc ++ [ws[i]]) (by omega) (by rw [List.length_append, List.length_singleton]; omega)
  refine ⟨y, ?_⟩
  rw [emGo, hj i hi, ew]
  dsimp only [gVar, List.set, mLit]
  rw [zr]
  dsimp only
  have ee : zN me [c, some ws[i]] acc A = .ok ([c, some ws[i]], acc ++ [ws[i]]) A := by
   unfold zN
   rw [he, zr, if_pos (by omega)]
  rw [ee, zr]
  rw [e, List.append_assoc]
  congr 3
  rw [List.singleton_append, <- List.drop_eq_getElem_cons hi]
theorem zkr {j : Itx} (hj : ∀ i, i < t.length -> j.at_ A i = some (some (rowW (t.getD i [])))) (hend : j.at_ A t.length = some none) :
  ∀ (f i : Nat) (x y : Option W) (acc : List W), i + f = t.length -> acc.length + (t.drop i).flatten.length <= zR ->
   ∃ ρ, emGo j (gVar 0) (mLit (.bl true)) (zeB (mIt (mVar 0)) (gVar 1) (mLit (.bl true)) (zN (mVar 1))) f i [x, y] acc A = .ok (ρ, acc ++ (t.drop i).flatten.map W.int) A := by
 intro f
 induction f with
 | zero =>
  intro i x y acc h hl
  have : i = t.length := by omega
  subst this
  refine ⟨[x, y], ?_⟩
  unfold emGo
  rw [hend, List.drop_length]
  simp
 | succ f ih =>
  intro i x y acc h hl
  have hi : i < t.length := by omega
  have er : t.getD i [] = t[i] := by rw [List.getD_eq_getElem?_getD, List.getElem?_eq_getElem hi]; rfl
  have ed : t.drop i = t[i] :: t.drop (i + 1) := List.drop_eq_getElem_cons hi
  rw [ed, List.flatten_cons, List.length_append] at hl
  obtain ⟨z, e1⟩ := zlm (A := A) (j := ⟨λ A i_1 => (zK (rowW t[i]) A).map λ ws => ws[i_1]?, (t[i].map W.int).length⟩) (me := mVar 1) (ws := t[i].map W.int) (c := some (rowW t[i]))
   (λ k hk => by
    show some (t[i].map W.int)[k]? = _
    rw [List.getD_eq_getElem?_getD, List.getElem?_eq_getElem hk]; rfl)
   (by show some (t[i].map W.int)[(t[i].map W.int).length]? = _; rw [List.getElem?_eq_none (Nat.le_refl _)])
   (λ w => zo rfl) (t[i].map W.int).length 0 y acc (by omega) (by rw [List.length_map]; omega)
  rw [List.drop_zero] at e1
  obtain ⟨ρ, e2⟩ := ih (i + 1) (some (rowW t[i])) z (acc ++ t[i].map W.int) (by omega) (by rw [List.length_append, List.length_map]; omega)
  refine ⟨ρ, ?_⟩
  rw [emGo, hj i hi, er]
  dsimp only [gVar, List.set, mLit]
  rw [zr]
  dsimp only
  have ee : zeB (mIt (mVar 0)) (gVar 1) (mLit (.bl true)) (zN (mVar 1)) [some (rowW t[i]), y] acc A = .ok ([some (rowW t[i]), z], acc ++ t[i].map W.int) A := by
   unfold zeB
   rw [zh3 (ws := t[i].map W.int) (A1 := A) (zo (i := 0) rfl), zr]
   exact e1
  rw [ee, zr]
  rw [e2, ed, List.flatten_cons, List.map_append, List.append_assoc]
theorem zmq {m : Ev} {ρ : En} (h : m ρ A = .ok (tabW t) A) (hl : t.flatten.length <= zR) :
  zT 2 [] (mIt m) (gVar 0) (mLit (.bl true)) (zeB (mIt (mVar 0)) (gVar 1) (mLit (.bl true)) (zN (mVar 1))) ρ A = .ok (t.flatten.map W.int) A := by
 have hlen : (t.map rowW).length = t.length := List.length_map ..
 obtain ⟨ρ', e⟩ := zkr (t := t) (A := A) (j := ⟨λ A i => (zK (tabW t) A).map λ ws => ws[i]?, (t.map rowW).length⟩) (λ i hi => by show some (t.map rowW)[i]? = _; rw [zkn hi])
  (by show some (t.map rowW)[t.length]? = _; rw [List.getElem?_eq_none (by omega)]) t.length 0 none none [] (by omega) (by simpa using hl)
 unfold zT
 rw [zh3 (ws := t.map rowW) h, zr]
 show R.bind (R.nox (emGo ⟨λ A i => (zK (tabW t) A).map λ ws => ws[i]?, (t.map rowW).length⟩ _ _ _ (t.map rowW).length 0 [none, none] [] A)) _ = _
 rw [hlen] at e ⊢
 rw [e]
 simp
 rfl
end
theorem zbM : ∀ l : List Int, intsOf (l.map W.int) = some l
 | [] => rfl
 | i :: l => by
  show (match intsOf (l.map W.int) with | some is => some (i :: is) | none => none) = _
  rw [zbM l]
theorem zid : ∀ (l : List Int) (m : Int), maxI l m = m ∨ maxI l m ∈ l
 | [], _ => .inl rfl
 | i :: l, m => by
  show maxI l (if i > m then i else m) = m ∨ maxI l (if i > m then i else m) ∈ i :: l
  rcases zid l (if i > m then i else m) with e | e
  ·by_cases h : i > m
   ·rw [if_pos h] at e ⊢; exact .inr (by rw [e]; exact List.mem_cons_self ..)
   ·rw [if_neg h] at e ⊢; exact .inl e
  ·exact .inr (List.mem_cons_of_mem _ e)
end Mi
namespace G
open PySem L2 Mi
theorem zkz {t : List (List Int)} (h : TabL t) : t.flatten.length <= 64 := by
 have : ∀ l : List (List Int), (∀ r ∈ l, r.length <= 8) -> l.flatten.length <= 8 * l.length := by
  intro l
  induction l with
  | nil => intro _; simp
  | cons r l ih =>
   intro hr
   have h1 := hr r (List.mem_cons_self ..)
   have h2 := ih λ r' hr' => hr r' (List.mem_cons_of_mem _ hr')
   rw [List.flatten_cons, List.length_append, List.length_cons]
   omega
 have h8 := h.n8
 have := this t λ r hr => by rw [h.sq r hr]; exact h.n8
 omega
theorem znh {t : List (List Int)} (h : TabL t) (A : Hx) : zaA [tabW t] A = .ok (.bl true) A := by
 have hfl := zkz h
 have hne : t.flatten ≠ [] := by
  intro e
  have h1 := h.n1
  have hr := h.sq _ (zdv (t := t) (a := 0) (by omega))
  have : t.getD 0 [] = [] := by
   have := List.flatten_eq_nil_iff.mp e _ (zdv (t := t) (a := 0) (by omega))
   exact this
  rw [this] at hr
  simp at hr
  omega
 obtain ⟨v0, l0, el⟩ := List.exists_cons_of_ne_nil hne
 refine zbH (A1 := [.lst (t.flatten.map W.int)]) (by show ((tabW t).nr && true) = true; rw [zbb]; rfl) rfl (zaq ?_)
 unfold za8
 refine (zu (ρ1 := [some (tabW t), some (.ref 0)]) (A1 := [.lst (t.flatten.map W.int)]) ((zap (zdH (zmq (zo rfl) (by unfold zR; omega)))).trans rfl)).trans (zaj (zaw ?_))
 generalize hB : [O.lst (t.flatten.map W.int)] = B
 have hs : zK (.ref 0) B = some (t.flatten.map W.int) := by rw [<- hB]; rfl
 have em : mQ gMax (mSeq (mVar 1)) [some (tabW t), some (.ref 0)] B = .ok (.int (maxI l0 v0)) B := by
  rw [zcC (zbd (w := .ref 0) (A1 := B) (zo rfl) hs)]
  unfold gMax
  rw [zbM, el]
 have hmax : maxI l0 v0 ∈ t.flatten := by
  rw [el]
  rcases zid l0 v0 with e | e
  ·rw [e]; exact List.mem_cons_self ..
  ·exact List.mem_cons_of_mem _ e
 have hb : 0 <= maxI l0 v0 /\ maxI l0 v0 < 8 := by
  obtain ⟨r, hr, hv⟩ := List.mem_flatten.mp hmax
  have := h.lo r hr _ hv
  have := h.n8
  omega
 generalize maxI l0 v0 = M at em hmax hb
 obtain ⟨K, rfl⟩ := Int.eq_ofNat_of_zero_le hb.1
 have ec := zd5 (cap := [1]) (me := mBin gIn (mVar 0) (mVar 1)) (ρ := [some (tabW t), some (.ref 0)]) (A := B) (N := K) (j := zbI 0 K) (item := λ i => .int (0 + i)) (g := λ _ => .bl true)
  ((zcy em (by unfold zaO; simp; omega)).trans (by rw [Int.toNat_natCast])) rfl (by unfold zR; omega) (λ i hi => zdn hi) (zb4 (by omega))
  (λ i hi => by
   refine (zL (zo (i := 0) (w := .int (0 + i)) rfl) (zo (i := 1) (w := .ref 0) rfl)).trans ?_
   show gInN false _ _ _ = _
   unfold gInN
   rw [hs]
   dsimp only
   have hf : (zez (.int (0 + (i : Int))) && (t.flatten.map W.int).all zez) = true := by
    have : (t.flatten.map W.int).all zez = true := List.all_eq_true.mpr λ w hw => by obtain ⟨x, _, rfl⟩ := List.mem_map.mp hw; rfl
    rw [this]; rfl
   rw [if_pos hf]
   have hin : inW (.int (0 + (i : Int))) (t.flatten.map W.int) = true := by
    unfold inW
    refine List.any_eq_true.mpr ⟨.int i, List.mem_map.mpr ⟨(i : Int), h.fu i ⟨_, hmax, by omega⟩, rfl⟩, ?_⟩
    show ((i : Int) == 0 + (i : Int)) = true
    rw [Int.zero_add]; exact beq_self_eq_true _
   rw [hin]
   rfl)
 refine (zcC ec).trans ?_
 exact zff (p := λ _ => true) λ _ _ => rfl
theorem zmA {t : List (List Int)} (h : TabL t) (A : Hx) : zah [tabW t] A = .ok (.bl true) A := by
 have n1 := h.n1
 have n8 := h.n8
 unfold zah zc8
 refine zaq ?_
 unfold zcc
 have el : ∀ ρ : En, mQ gLen (mSeq (mVar 0)) (some (tabW t) :: ρ) A = .ok (.int t.length) A := λ ρ => by
  rw [zcC (zbd (w := tabW t) (A1 := A) (zo rfl) rfl)]
  unfold gLen
  rw [List.length_map]
 refine (zu (ρ1 := [some (tabW t), none]) (A1 := A) ((zdf (A1 := A) ?_).trans rfl)).trans ?_
 ·refine (znd (A1 := A) rfl).trans ?_
  refine zc6 (k := true) ?_
  show zbG gLe gLe (mLit (.int 1)) (mQ gLen (mSeq (mVar 0))) (mLit (.int 8)) [some (tabW t), none] A = _
  unfold zbG
  rw [zaT, zr, el, zr]
  show R.bind (R.ok (W.bl (decide ((1 : Int) <= t.length))) A) _ = _
  rw [decide_eq_true (by omega), zr]
  dsimp only
  rw [zaT, zr]
  show R.ok (W.bl (decide ((t.length : Int) <= 8))) A = _
  rw [decide_eq_true (by omega)]
 refine (zu (ρ1 := [some (tabW t), some (.int t.length)]) (A1 := A) ((zap (el _)).trans rfl)).trans ?_
 have ec := zdI (cap := [1]) (A := A) (ρ := [some (tabW t), some (.int t.length)]) (ws := t.map rowW) (me := zt zag (zc (mVar 0) (zc (mVar 1) (zc (mVar 1) (aNil))))) (g := λ _ => .bl true) (zo (i := 0) rfl) (by rw [List.length_map]; unfold zR; omega) (λ w hw => by
  obtain ⟨r, hr, rfl⟩ := List.mem_map.mp hw
  have hl := h.sq r hr
  refine (zQ (ws := [rowW r, .int t.length, .int t.length]) (A1 := A) rfl).trans ?_
  rw [<- hl]
  exact zjM (by omega) (λ v hv => by have := h.lo r hr v hv; omega) A)
 refine (zu (ρ1 := [some (tabW t), some (.int t.length)]) (A1 := A) ((zdf (A1 := A) (zc6 (k := true) ((zcC ec).trans (zff (p := λ _ => true) λ _ _ => rfl)))).trans rfl)).trans (zaj (zaw ?_))
 refine (zfF (A1 := A) ((zQ (ws := [tabW t]) (A1 := A) rfl).trans (znW h A))).trans ?_
 exact (zQ (ws := [tabW t]) (A1 := A) rfl).trans (znh h A)
end G
namespace Mi
open PySem L2
section
variable {A : Hx} {c : En} {me : Ev} {j jin : Itx} {N M : Nat} {ot it : Nat -> W} {u : Option W}
theorem znk {g : Nat -> W} (hat : ∀ i, i < M -> jin.at_ A i = some (some (it i))) (hend : jin.at_ A M = some none) (he : ∀ i, i < M -> me (u :: some (it i) :: c) A = .ok (g i) A) :
  ∀ (f i : Nat) (x : Option W) (acc : List W), i + f = M -> acc.length + f <= zR -> ∃ y, emGo jin (gVar 1) (mLit (.bl true)) (zN me) f i (u :: x :: c) acc A = .ok (u :: y :: c, acc ++ (List.range' i f).map g) A := by
 intro f
 induction f with
 | zero =>
  intro i x acc h hl
  have : i = M := by omega
  subst this
  refine ⟨x, ?_⟩
  unfold emGo
  rw [hend]
  simp
 | succ f ih =>
  intro i x acc h hl
  obtain ⟨y, e⟩ := ih (i + 1) (some (it i)) (acc ++ [g i]) (by omega) (by rw [List.length_append, List.length_singleton]; omega)
  refine ⟨y, ?_⟩
  rw [emGo, hat i (by omega)]
  dsimp only [gVar, List.set, mLit]
  rw [zr]
  dsimp only
  have ee : zN me (u :: some (it i) :: c) acc A = .ok (u :: some (it i) :: c, acc ++ [g i]) A := by
   unfold zN
   rw [he i (by omega), zr, if_pos (by omega)]
  rw [ee, zr]
  rw [e, List.append_assoc, List.range'_succ, List.map_cons]
  rfl
theorem zkZ {g : Nat -> Nat -> W} {mi : Ei} (hat : ∀ i, i < N -> j.at_ A i = some (some (ot i))) (hend : j.at_ A N = some none) (hmi : ∀ a y, a < N -> mi (some (ot a) :: y :: c) A = .ok jin A) (hlen : jin.len = M)
  (hin : ∀ i, i < M -> jin.at_ A i = some (some (it i))) (hine : jin.at_ A M = some none) (he : ∀ a i, a < N -> i < M -> me (some (ot a) :: some (it i) :: c) A = .ok (g a i) A) (hc : N * M <= 1000) :
  ∀ (f i : Nat) (x y : Option W) (acc : List W), i + f = N -> acc.length + f * M <= zR -> ∃ ρ, emGo j (gVar 0) (mLit (.bl true)) (zeB mi (gVar 1) (mLit (.bl true)) (zN me)) f i (x :: y :: c) acc A =
   .ok (ρ, acc ++ ((List.range' i f).map λ a => (List.range M).map (g a)).flatten) A := by
 intro f
 induction f with
 | zero =>
  intro i x y acc h hl
  have : i = N := by omega
  subst this
  refine ⟨x :: y :: c, ?_⟩
  unfold emGo
  rw [hend]
  simp
 | succ f ih =>
  intro i x y acc h hl
  rw [Nat.succ_mul] at hl
  obtain ⟨z, e1⟩ := znk (A := A) (c := c) (u := some (ot i)) (g := g i) hin hine (λ k hk => he i k (by omega) hk) M 0 y acc (by omega) (by omega)
  obtain ⟨ρ, e2⟩ := ih (i + 1) (some (ot i)) z (acc ++ (List.range M).map (g i)) (by omega) (by rw [List.length_append, List.length_map, List.length_range]; omega)
  refine ⟨ρ, ?_⟩
  rw [emGo, hat i (by omega)]
  dsimp only [gVar, List.set, mLit]
  rw [zr]
  dsimp only
  have ee : zeB mi (gVar 1) (mLit (.bl true)) (zN me) (some (ot i) :: y :: c) acc A = .ok (some (ot i) :: z :: c, acc ++ (List.range M).map (g i)) A := by
   unfold zeB
   rw [hmi i y (by omega), zr, hlen, List.range_eq_range']
   exact e1
  rw [ee, zr]
  rw [e2, List.append_assoc, List.range'_succ, List.map_cons, List.flatten_cons]
theorem zi8 {cap : List Nat} {g : Nat -> Nat -> W} {mo mi : Ei} {ρ : En} (ho : mo ρ A = .ok j A) (hol : j.len = N) (hat : ∀ i, i < N -> j.at_ A i = some (some (ot i))) (hend : j.at_ A N = some none)
  (hmi : ∀ a y, a < N -> mi (some (ot a) :: y :: cap.map λ i => (ρ[i]?).join) A = .ok jin A) (hlen : jin.len = M) (hin : ∀ i, i < M -> jin.at_ A i = some (some (it i))) (hine : jin.at_ A M = some none)
  (he : ∀ a i, a < N -> i < M -> me (some (ot a) :: some (it i) :: cap.map λ i => (ρ[i]?).join) A = .ok (g a i) A) (hc : N * M <= 1000) :
  zT 2 cap mo (gVar 0) (mLit (.bl true)) (zeB mi (gVar 1) (mLit (.bl true)) (zN me)) ρ A = .ok ((List.range N).map λ a => (List.range M).map (g a)).flatten A := by
 obtain ⟨ρ', e⟩ := zkZ (A := A) (c := cap.map λ i => (ρ[i]?).join) hat hend hmi hlen hin hine he hc N 0 none none [] (by omega) (by unfold zR; simp; omega)
 unfold zT
 rw [ho, zr, hol]
 show R.bind (R.nox (emGo j _ _ _ N 0 (none :: none :: cap.map λ i => (ρ[i]?).join) [] A)) _ = _
 rw [e, <- List.range_eq_range', List.nil_append]
 rfl
end
end Mi
namespace G
open PySem L2 Mi
section
variable {s t : List (List Int)}
theorem zdl {ρ : En} {i : Nat} {A : Hx} (h : ρ[i]? = some (some (tabW t))) : mQ gLen (mSeq (mVar i)) ρ A = .ok (.int t.length) A := by
 rw [zcC (zbd (w := tabW t) (A1 := A) (zo h) rfl)]
 unfold gLen
 rw [List.length_map]
theorem zbT {n : Nat} (h : n < 1000000) : zaO (n : Int) = true := by
 unfold zaO
 simp
 omega
noncomputable def places (n m : Nat) : List W := ((List.range n).map λ (a : Nat) => (List.range m).map λ (b : Nat) => W.tup [.int (0 + (a : Int)), .int (0 + (b : Int))]).flatten
theorem zkj (n m : Nat) : nrs (places n m) = true := by
 have : ∀ l : List (List W), (∀ r ∈ l, nrs r = true) -> nrs l.flatten = true := by
  intro l
  induction l with
  | nil => intro _; rfl
  | cons r l ih =>
   intro h
   have h1 := h r (List.mem_cons_self ..)
   have h2 := ih λ r' hr => h r' (List.mem_cons_of_mem _ hr)
   rw [List.flatten_cons]
   clear ih h
   induction r with
   | nil => exact h2
   | cons w r ih2 =>
    have h1' : (w.nr && nrs r) = true := h1
    rw [Bool.and_eq_true] at h1'
    show (w.nr && nrs (r ++ l.flatten)) = true
    rw [h1'.1, ih2 h1'.2]; rfl
 refine this _ λ r hr => ?_
 obtain ⟨a, _, rfl⟩ := List.mem_map.mp hr
 exact zdt (λ _ => rfl) _
theorem zdJ (hs : s.length <= 8) (ht : t.length <= 8) (A : Hx) : zaB [tabW s, tabW t] A = .ok (.ref A.length) (A ++ [.lst (places s.length t.length)]) := by
 have e : zdP [tabW s, tabW t] [] = .ok (.ref 0) [.lst (places s.length t.length)] := by
  refine zaq ?_
  unfold zco
  refine zaj (zaw ((zdH (zi8 (cap := [1]) (A := []) (N := s.length) (M := t.length) (ot := λ a => .int (0 + (a : Int))) (it := λ b => .int (0 + (b : Int))) (g := λ a b => .tup [.int (0 + (a : Int)), .int (0 + (b : Int))])
   (j := zbI 0 s.length) (jin := zbI 0 t.length) ?_ rfl (λ i hi => zdn hi) (zb4 (by omega)) (λ a y ha => ?_) rfl (λ i hi => zdn hi) (zb4 (by omega)) (λ a i ha hi => rfl) ?_)).trans rfl))
  ·exact (zcy (zdl (t := s) rfl) (zbT (by omega))).trans (by rw [Int.toNat_natCast])
  ·exact (zcy (zdl (t := t) (i := 2) rfl) (zbT (by omega))).trans (by rw [Int.toNat_natCast])
  ·have := Nat.mul_le_mul hs ht; omega
 unfold zaB iso
 have hn : nrs [tabW s, tabW t] = true := by
  show ((tabW s).nr && ((tabW t).nr && true)) = true
  rw [zbb, zbb]; rfl
 rw [if_pos hn, e]
 show (if nrs (places s.length t.length) then _ else _) = _
 rw [if_pos (zkj _ _)]
end
end G
namespace Mi
open PySem L2
theorem zkp {A : Hx} {c : En} {me : Ev} {j : Itx} {N : Nat} {u v g : Nat -> W} (hat : ∀ i, i < N -> j.at_ A i = some (some (.tup [u i, v i]))) (hend : j.at_ A N = some none) (he : ∀ i, i < N -> me (some (u i) :: some (v i) :: c) A = .ok (g i) A) :
  ∀ (f i : Nat) (x y : Option W) (acc : List W), i + f = N -> acc.length + f <= zR -> ∃ ρ, emGo j (zbE 0 1) (mLit (.bl true)) (zN me) f i (x :: y :: c) acc A = .ok (ρ, acc ++ (List.range' i f).map g) A := by
 intro f
 induction f with
 | zero =>
  intro i x y acc h hl
  have : i = N := by omega
  subst this
  refine ⟨x :: y :: c, ?_⟩
  unfold emGo
  rw [hend]
  simp
 | succ f ih =>
  intro i x y acc h hl
  obtain ⟨ρ, e⟩ := ih (i + 1) (some (u i)) (some (v i)) (acc ++ [g i]) (by omega) (by rw [List.length_append, List.length_singleton]; omega)
  refine ⟨ρ, ?_⟩
  rw [emGo, hat i (by omega)]
  dsimp only
  rw [show zbE 0 1 (.tup [u i, v i]) (x :: y :: c) = some (some (u i) :: some (v i) :: c) from rfl]
  dsimp only [mLit]
  rw [zr]
  dsimp only
  have ee : zN me (some (u i) :: some (v i) :: c) acc A = .ok (some (u i) :: some (v i) :: c, acc ++ [g i]) A := by
   unfold zN
   rw [he i (by omega), zr, if_pos (by omega)]
  rw [ee, zr]
  rw [e, List.append_assoc, List.range'_succ, List.map_cons]
  rfl
theorem zdw {A : Hx} {cap : List Nat} {ρ : En} {me : Ev} {mi : Ei} {j : Itx} {N : Nat} {u v g : Nat -> W} (hm : mi ρ A = .ok j A) (hj : j.len = N) (hN : N <= 1000) (hat : ∀ i, i < N -> j.at_ A i = some (some (.tup [u i, v i]))) (hend : j.at_ A N = some none)
  (he : ∀ i, i < N -> me (some (u i) :: some (v i) :: cap.map λ i => (ρ[i]?).join) A = .ok (g i) A) : zT 2 cap mi (zbE 0 1) (mLit (.bl true)) (zN me) ρ A = .ok ((List.range N).map g) A := by
 obtain ⟨ρ', e⟩ := zkp (A := A) (c := cap.map λ i => (ρ[i]?).join) hat hend he N 0 none none [] (by omega) (by unfold zR; simp; omega)
 unfold zT
 rw [hm, zr, hj]
 show R.bind (R.nox (emGo j _ _ _ N 0 (none :: none :: cap.map λ i => (ρ[i]?).join) [] A)) _ = _
 rw [e, <- List.range_eq_range', List.nil_append]
 rfl
theorem zhM {m : Ev} {ρ : En} {A A1 : Hx} {n : Nat} {ws : List W} (h : m ρ A = .ok (.ref n) A1) (hA : A1[n]? = some (.lst ws)) : mIt m ρ A = .ok ⟨λ A i => (zK (.ref n) A).map λ ws => ws[i]?, ws.length⟩ A1 := by
 unfold mIt itOf
 rw [h, zr]
 have e : zK (.ref n) A1 = some ws := by unfold zK; dsimp only; rw [hA]
 rw [e]
theorem ziM {n i : Nat} {A : Hx} {ws : List W} (hA : A[n]? = some (.lst ws)) : ((zK (.ref n) A).map λ ws => ws[i]?) = some ws[i]? := by
 have e : zK (.ref n) A = some ws := by unfold zK; dsimp only; rw [hA]
 rw [e]; rfl
noncomputable def rmax : List Int -> Int
 | [] => 0
 | i :: is => maxI is i
theorem zje {r : List Int} {A : Hx} (h : r ≠ []) : gMax (r.map W.int) A = .ok (.int (rmax r)) A := by
 unfold gMax
 rw [zbM]
 cases r with
 | nil => exact absurd rfl h
 | cons i is => rfl
noncomputable def kds (t : List (List Int)) : Int := rmax (t.map rmax) + 1
end Mi
namespace G
open PySem L2 Mi
section
variable {s t : List (List Int)}
theorem _root_.Mi.TabL.row_ne (h : TabL t) {r : List Int} (hr : r ∈ t) : r ≠ [] := λ e => by
 have h1 := h.sq r hr
 have h2 := h.n1
 rw [e, List.length_nil] at h1
 omega
theorem _root_.Mi.TabL.map_ne (h : TabL t) : t.map rmax ≠ [] := λ e => by
 have := h.n1
 rw [List.map_eq_nil_iff] at e
 rw [e] at this
 simp at this
theorem zbK (h : TabL t) (A : Hx) : zaC [tabW t] A = .ok (.int (kds t)) A := by
 have n8 := h.n8
 refine zbH (A1 := []) (by show ((tabW t).nr && true) = true; rw [zbb]; rfl) rfl (zaq ?_)
 unfold zcG
 refine zaj (zaw ?_)
 have ec := zdI (cap := []) (A := []) (ρ := [some (tabW t)]) (ws := t.map rowW) (me := mQ gMax (mSeq (mVar 0))) (g := λ w => match w with | .tup ws => (match intsOf ws with | some r => .int (rmax r) | none => .non) | _ => .non) (zo (i := 0) rfl) (by rw [List.length_map]; unfold zR; omega) (λ w hw => by
  obtain ⟨r, hr, rfl⟩ := List.mem_map.mp hw
  refine (zcC (zbd (w := rowW r) (ws := r.map W.int) (A1 := []) (zo rfl) rfl)).trans ((zje (h.row_ne hr)).trans ?_)
  show _ = R.ok (match intsOf (r.map W.int) with | some r => W.int (rmax r) | none => W.non) []
  rw [zbM])
 have em : (t.map rowW).map (λ w => match w with | .tup ws => (match intsOf ws with | some r => W.int (rmax r) | none => W.non) | _ => W.non) = (t.map rmax).map W.int := by
  rw [List.map_map, List.map_map]
  apply List.map_congr_left
  intro r _
  show (match intsOf (r.map W.int) with | some r => W.int (rmax r) | none => W.non) = W.int (rmax r)
  rw [zbM]
 rw [em] at ec
 exact (zL ((zcC ec).trans (zje h.map_ne)) (zaT (w := .int 1))).trans rfl
theorem zel : zaF = zaC := rfl
theorem places_len (n m : Nat) : (places n m).length = n * m := by
 unfold places
 rw [List.length_flatten, List.map_map]
 have : (List.length ∘ λ (a : Nat) => (List.range m).map λ (b : Nat) => W.tup [.int (0 + (a : Int)), .int (0 + (b : Int))]) = λ _ => m := by funext a; simp
 rw [this, List.map_const', List.sum_replicate_nat, List.length_range]
theorem zme {α : Type} {m : Nat} (hm : 0 < m) (f : Nat -> Nat -> α) : ∀ (n k p : Nat), p < n * m -> (((List.range' k n).map λ a => (List.range m).map (f a)).flatten)[p]? = some (f (k + p / m) (p % m)) := by
 intro n
 induction n with
 | zero => intro k p h; simp at h
 | succ n ih =>
  intro k p h
  rw [List.range'_succ, List.map_cons, List.flatten_cons]
  by_cases hp : p < m
  ·rw [List.getElem?_append_left (by simpa using hp), List.getElem?_map, List.getElem?_range hp, Nat.div_eq_of_lt hp, Nat.mod_eq_of_lt hp]
   rfl
  ·rw [List.getElem?_append_right (by simpa using Nat.le_of_not_lt hp)]
   have hl : ((List.range m).map (f k)).length = m := by simp
   rw [hl, ih (k + 1) (p - m) (by rw [Nat.succ_mul] at h; omega)]
   have e1 : p / m = (p - m) / m + 1 := by rw [Nat.div_eq p m, if_pos ⟨hm, by omega⟩]
   have e2 : p % m = (p - m) % m := Nat.mod_eq_sub_mod (by omega)
   rw [e1, e2]
   congr 2
   omega
theorem zjQ {n m p : Nat} (hm : 0 < m) (h : p < n * m) : (places n m)[p]? = some (.tup [.int ((p / m : Nat) : Int), .int ((p % m : Nat) : Int)]) := by
 have := zme hm (λ a b => W.tup [.int (0 + (a : Int)), .int (0 + (b : Int))]) n 0 p h
 rw [<- List.range_eq_range'] at this
 rw [show (places n m)[p]? = _ from this]
 simp
noncomputable def besV (s t : List (List Int)) (p q : Nat) : Int := at2 s (p / t.length) (q / t.length) * kds t + at2 t (p % t.length) (q % t.length)
noncomputable def witV (s t : List (List Int)) (p q : Nat) : Int := if p / t.length = q / t.length then at2 t (p % t.length) (q % t.length) else at2 s (p / t.length) (q / t.length) + (kds t - 1)
noncomputable def sqW (n : Nat) (f : Nat -> Nat -> Int) : W := .tup ((List.range n).map λ p => .tup ((List.range n).map λ q => .int (f p q)))
theorem zm2 (h : TabL t) {a b : Nat} (ha : a < t.length) (hb : b < t.length) : 0 <= at2 t a b /\ at2 t a b < 8 := by
 have hl := h.sq _ (zdv ha)
 have : (t.getD a []).getD b 0 ∈ t.getD a [] := by
  rw [List.getD_eq_getElem?_getD (l := t.getD a []), List.getElem?_eq_getElem (by omega)]; exact List.getElem_mem _
 have h1 := h.lo _ (zdv ha) _ this
 have := h.n8
 unfold at2
 omega
theorem ix2 (h : TabL t) {ρ : En} {A : Hx} {ma mb mt : Ev} {a b : Nat} (ht : mt ρ A = .ok (tabW t) A) (ha : ma ρ A = .ok (.int a) A) (hb : mb ρ A = .ok (.int b) A) (la : a < t.length) (lb : b < t.length) : mBin gIx (mBin gIx mt ma) mb ρ A = .ok (.int (at2 t a b)) A :=
 (zL ((zL ht ha).trans (zlV la)) hb).trans (zlJ (by rw [h.sq _ (zdv la)]; exact lb))
theorem zgV {i j : Int} {A : Hx} (h1 : -(2 ^ 64) < i) (h2 : i < 2 ^ 64) : gMul (.int i) (.int j) A = .ok (.int (i * j)) A := by
 unfold gMul
 dsimp only
 rw [if_pos]
 unfold cMul
 rw [Bool.or_eq_true, Bool.and_eq_true, decide_eq_true_iff, decide_eq_true_iff]
 exact .inl ⟨h1, h2⟩
theorem zeY {q : Eq'} {ρ : En} {A A1 : Hx} {ws : List W} (h : q ρ A = .ok ws A1) : mQ gTup q ρ A = .ok (.tup ws) A1 := (zcC h).trans rfl
end
end G
namespace G
open PySem L2 Mi
theorem zfC {α : Type} {r : R α} {a : α} {A : Hx} (h : r = .ok a A) : r.nox = .ok a A := by rw [h]; rfl
theorem zjY {n : Nat} {m : Ex} {ws : List W} {w : W} {A A1 : Hx} (h : m (ws.map some ++ List.replicate (n - ws.length) none) A = .ok (.rt w) A1) : runX n m ws A = .ok w A1 := by unfold runX; rw [h]; rfl
theorem zkm {n : Nat} {m : Ex} {ws : List W} {ρ : En} {A A1 : Hx} (h : m (ws.map some ++ List.replicate (n - ws.length) none) A = .ok (.nx ρ) A1) : runX n m ws A = .ok .non A1 := by unfold runX; rw [h]; rfl
theorem zbx {m1 m2 : Ex} {ρ : En} {A A1 : Hx} {x : Str} (h : m1 ρ A = .exc x A1) : xSeq m1 m2 ρ A = .exc x A1 := by unfold xSeq; rw [h, zim]
theorem zd8 {m : Ev} {ρ : En} {A A1 : Hx} {x : Str} (h : m ρ A = .exc x A1) : xDo m ρ A = .exc x A1 := by unfold xDo; rw [h, zim]
theorem zb2 {n : Nat} {m : Ex} {ws : List W} {x : Str} {A A1 : Hx} (h : m (ws.map some ++ List.replicate (n - ws.length) none) A = .exc x A1) : runX n m ws A = .exc x A1 := by unfold runX; rw [h]; rfl
section
variable {s t : List (List Int)}
theorem zd1 (s t : List (List Int)) : nrs [tabW s, tabW t] = true := by
 show ((tabW s).nr && ((tabW t).nr && true)) = true
 rw [zbb, zbb]; rfl
theorem zcZ (h : TabL t) (A : Hx) : zba [tabW t] A = .ok .non A := by
 refine zkm (ρ := [some (tabW t)]) ?_
 unfold zbg
 refine (zu (ρ1 := [some (tabW t)]) (A1 := A) ((zdf (A1 := A) ?_).trans rfl)).trans rfl
 exact zfC (zc6 (k := true) ((zQ (ws := [tabW t]) (A1 := A) rfl).trans (zmA h A)))
theorem zoX {A : Hx} {ρ : En} (h0 : ρ[0]? = some (some (tabW s))) (h1 : ρ[1]? = some (some (tabW t))) (hs : s.length <= 8) : mBin gGt (mBin gMul (mQ gLen (mSeq (mVar 0))) (mQ gLen (mSeq (mVar 1)))) (mLit (.int 8)) ρ A = .ok (.bl (decide (8 < (s.length : Int) * t.length))) A :=
 (zL ((zL (zdl h0) (zdl h1)).trans (zgV (by omega) (by omega))) (zaT (w := .int 8))).trans rfl
theorem zn5 (hs : TabL s) (ht : TabL t) (hf : s.length * t.length <= 8) (A : Hx) : zae [tabW s, tabW t] A = .ok .non A := by
 refine zkm (ρ := [some (tabW s), some (tabW t)]) ?_
 unfold zan
 refine (zu (ρ1 := [some (tabW s), some (tabW t)]) (A1 := A) (zdM ((zQ (ws := [tabW s]) (A1 := A) rfl).trans (zcZ hs A)))).trans ?_
 refine (zu (ρ1 := [some (tabW s), some (tabW t)]) (A1 := A) (zdM ((zQ (ws := [tabW t]) (A1 := A) rfl).trans (zcZ ht A)))).trans ?_
 refine (zu (ρ1 := [some (tabW s), some (tabW t)]) (A1 := A) ((zdf (A1 := A) (zfC ?_)).trans rfl)).trans rfl
 rw [zoX rfl rfl hs.n8, decide_eq_false]
 have : ((s.length * t.length : Nat) : Int) <= 8 := by omega
 rw [Int.natCast_mul] at this
 omega
theorem znR (hs : TabL s) (ht : TabL t) (hf : 8 < s.length * t.length) (A : Hx) : zae [tabW s, tabW t] A = .exc "TooMany" A := by
 refine zb2 ?_
 unfold zan
 refine (zu (ρ1 := [some (tabW s), some (tabW t)]) (A1 := A) (zdM ((zQ (ws := [tabW s]) (A1 := A) rfl).trans (zcZ hs A)))).trans ?_
 refine (zu (ρ1 := [some (tabW s), some (tabW t)]) (A1 := A) (zdM ((zQ (ws := [tabW t]) (A1 := A) rfl).trans (zcZ ht A)))).trans ?_
 refine zbx ((zfq (A1 := A) (zfC ?_)).trans (zbx rfl))
 rw [zoX rfl rfl hs.n8, decide_eq_true]
 have : 8 < ((s.length * t.length : Nat) : Int) := by omega
 rw [Int.natCast_mul] at this
 omega
theorem zdp {p n m : Nat} (h : p < n * m) : p / m < n := Nat.div_lt_of_lt_mul (by rw [Nat.mul_comm]; exact h)
theorem ziJ (hs : TabL s) (ht : TabL t) (hf : s.length * t.length <= 8) {A : Hx} {r : Nat} {x : W} {me : Ev} {f : Nat -> Nat -> Int} (hA : A[r]? = some (.lst (places s.length t.length)))
  (he : ∀ p q, p < s.length * t.length -> q < s.length * t.length -> me [some (.int ((q / t.length : Nat) : Int)), some (.int ((q % t.length : Nat) : Int)), some (.int ((p / t.length : Nat) : Int)), some (.int ((p % t.length : Nat) : Int)), some (tabW s), some (tabW t), some x] A = .ok (.int (f p q)) A) :
  mQ gTup (zT 2 [0, 1, 2, 3] (mIt (mVar 3)) (zbE 0 1) (mLit (.bl true)) (zN (mQ gTup (zT 2 [0, 1, 2, 3, 4] (mIt (mVar 5)) (zbE 0 1) (mLit (.bl true)) (zN me))))) [some (tabW s), some (tabW t), some x, some (.ref r)] A = .ok (sqW (s.length * t.length) f) A := by
 have hm : 0 < t.length := ht.n1
 have hat : ∀ i, i < s.length * t.length -> ((zK (.ref r) A).map λ ws => ws[i]?) = some (some (.tup [.int ((i / t.length : Nat) : Int), .int ((i % t.length : Nat) : Int)])) := λ i hi => by rw [ziM hA, zjQ hm hi]
 have hend : ((zK (.ref r) A).map λ ws => ws[s.length * t.length]?) = some none := by rw [ziM hA, List.getElem?_eq_none (by rw [places_len]; exact Nat.le_refl _)]
 refine zeY ?_
 refine zdw (N := s.length * t.length) (u := λ i => .int ((i / t.length : Nat) : Int)) (v := λ i => .int ((i % t.length : Nat) : Int)) (zhM (zo (i := 3) rfl) hA) (places_len _ _) (by omega) hat hend λ p hp => ?_
 refine zeY ?_
 exact zdw (N := s.length * t.length) (u := λ i => .int ((i / t.length : Nat) : Int)) (v := λ i => .int ((i % t.length : Nat) : Int)) (zhM (zo (i := 5) rfl) hA) (places_len _ _) (by omega) hat hend λ q hq => he p q hp hq
theorem zk3 (hs : TabL s) (ht : TabL t) (hf : s.length * t.length <= 8) (A : Hx) : zab [tabW s, tabW t] A = .ok (sqW (s.length * t.length) (besV s t)) (A ++ [.lst (places s.length t.length)]) := by
 refine zjY ?_
 unfold zbC
 refine (zu (ρ1 := [some (tabW s), some (tabW t), none, none]) (A1 := A) ((zdM ((zQ (ws := [tabW s, tabW t]) (A1 := A) rfl).trans (zn5 hs ht hf A))).trans rfl)).trans (zfC ?_)
 refine (zu (ρ1 := [some (tabW s), some (tabW t), some (.int (kds t)), none]) (A1 := A) ((zap ((zQ (ws := [tabW t]) (A1 := A) rfl).trans (zbK ht A))).trans rfl)).trans ?_
 refine (zu (ρ1 := [some (tabW s), some (tabW t), some (.int (kds t)), some (.ref A.length)]) (A1 := A ++ [.lst (places s.length t.length)]) ((zap ((zQ (ws := [tabW s, tabW t]) (A1 := A) rfl).trans (zdJ hs.n8 ht.n8 A))).trans rfl)).trans (zaj (zaw ?_))
 refine ziJ hs ht hf (by simp) λ p q hp hq => ?_
 have l1 := zdp hp
 have l2 := zdp hq
 have l3 := Nat.mod_lt p ht.n1
 have l4 := Nat.mod_lt q ht.n1
 have b := zm2 hs l1 l2
 exact (zL ((zL (ix2 hs (zo (i := 4) rfl) (zo (i := 2) rfl) (zo (i := 0) rfl) l1 l2) (zo (i := 6) rfl)).trans (zgV (by omega) (by omega))) (ix2 ht (zo (i := 5) rfl) (zo (i := 3) rfl) (zo (i := 1) rfl) l3 l4)).trans rfl
theorem zlr (hs : TabL s) (ht : TabL t) (hf : s.length * t.length <= 8) (A : Hx) : zaa [tabW s, tabW t] A = .ok (sqW (s.length * t.length) (witV s t)) (A ++ [.lst (places s.length t.length)]) := by
 refine zjY ?_
 unfold zbz
 refine (zu (ρ1 := [some (tabW s), some (tabW t), none, none]) (A1 := A) ((zdM ((zQ (ws := [tabW s, tabW t]) (A1 := A) rfl).trans (zn5 hs ht hf A))).trans rfl)).trans (zfC ?_)
 refine (zu (ρ1 := [some (tabW s), some (tabW t), some (.int (kds t - 1)), none]) (A1 := A) ((zap ((zL ((zQ (ws := [tabW t]) (A1 := A) rfl).trans (zbK ht A)) (zaT (w := .int 1))).trans rfl)).trans rfl)).trans ?_
 refine (zu (ρ1 := [some (tabW s), some (tabW t), some (.int (kds t - 1)), some (.ref A.length)]) (A1 := A ++ [.lst (places s.length t.length)]) ((zap ((zQ (ws := [tabW s, tabW t]) (A1 := A) rfl).trans (zdJ hs.n8 ht.n8 A))).trans rfl)).trans (zaj (zaw ?_))
 refine ziJ hs ht hf (by simp) λ p q hp hq => ?_
 have l1 := zdp hp
 have l2 := zdp hq
 have l3 := Nat.mod_lt p ht.n1
 have l4 := Nat.mod_lt q ht.n1
 have ec := (zL (g := gEq) (ρ := [some (.int ((q / t.length : Nat) : Int)), some (.int ((q % t.length : Nat) : Int)), some (.int ((p / t.length : Nat) : Int)), some (.int ((p % t.length : Nat) : Int)), some (tabW s), some (tabW t), some (.int (kds t - 1))]) (A := A ++ [.lst (places s.length t.length)]) (zo (i := 2) rfl) (zo (i := 0) rfl)).trans (eqI _ _ _)
 unfold witV
 by_cases hc : p / t.length = q / t.length
 ·rw [decide_eq_true (by omega)] at ec
  rw [if_pos hc]
  exact (zkv ec).trans (ix2 ht (zo (i := 5) rfl) (zo (i := 3) rfl) (zo (i := 1) rfl) l3 l4)
 ·rw [decide_eq_false (by omega)] at ec
  rw [if_neg hc]
  exact (zkF ec).trans ((zL (ix2 hs (zo (i := 4) rfl) (zo (i := 2) rfl) (zo (i := 0) rfl) l1 l2) (zo (i := 6) rfl)).trans rfl)
theorem zlp (hs : TabL s) (ht : TabL t) (hf : 8 < s.length * t.length) (A : Hx) : zab [tabW s, tabW t] A = .exc "TooMany" A := by
 refine zb2 ?_
 unfold zbC
 exact zbx (zd8 ((zQ (ws := [tabW s, tabW t]) (A1 := A) rfl).trans (znR hs ht hf A)))
theorem zky (hs : TabL s) (ht : TabL t) (hf : 8 < s.length * t.length) (A : Hx) : zaa [tabW s, tabW t] A = .exc "TooMany" A := by
 refine zb2 ?_
 unfold zbz
 exact zbx (zd8 ((zQ (ws := [tabW s, tabW t]) (A1 := A) rfl).trans (znR hs ht hf A)))
end
end G
namespace G
open PySem L2 Mi
theorem zly {A : Hx} {ρ : En} {i c : Nat} {ws : List W} {mm : Ev} {w : W} (hc : ρ[i]? = some (some (.ref c))) (hA : A[c]? = some (.lst ws)) (hm : mm ρ A = .ok w A) (hl : ws.length < 100) : xDo (zcq zaM (mVar i) mm) ρ A = .ok (.nx ρ) (A.set c (.lst (ws ++ [w]))) := by
 refine zdM (w := .non) ?_
 unfold zcq
 rw [zo hc, zr]
 have il : isL (.ref c) A = true := by unfold isL; dsimp only; rw [hA]
 rw [if_pos il, hm, zr]
 unfold zaM
 dsimp only
 rw [hA]
 dsimp only
 rw [if_pos (by unfold zR; omega)]
section
variable {s t : List (List Int)} {x2 : W} {f : Nat -> Nat -> Int} {v : Nat -> Nat -> W} {m7 mx : Ev} {L : Nat}
noncomputable abbrev inB (m7 mx : Ev) : Ex := xSeq (xSet 7 m7) (xSeq (xDo (zcq zaM (mVar 5) mx)) (xNil))
theorem zmI {p r : Nat} (hL : L <= 8) (h7 : ∀ q y A, q < L -> m7 [some (tabW s), some (tabW t), some x2, some (.ref 0), some (.int (p : Int)), some (.ref r), some (.int (q : Int)), y] A = .ok (v p q) A)
  (hx : ∀ q A, q < L -> mx [some (tabW s), some (tabW t), some x2, some (.ref 0), some (.int (p : Int)), some (.ref r), some (.int (q : Int)), some (v p q)] A = .ok (.int (f p q)) A) :
  ∀ (n i : Nat) (y6 y7 : Option W) (A : Hx), i + n = L -> A[r]? = some (.lst ((List.range i).map λ q => W.int (f p q))) -> ∃ z6 z7 A', zbJ (zbI 0 L) (turn (gVar 6) (inB m7 mx)) n i [some (tabW s), some (tabW t), some x2, some (.ref 0), some (.int (p : Int)), some (.ref r), y6, y7] A =
   .ok (.nx [some (tabW s), some (tabW t), some x2, some (.ref 0), some (.int (p : Int)), some (.ref r), z6, z7]) A' /\ A'[r]? = some (.lst ((List.range L).map λ q => W.int (f p q))) /\ A'.length = A.length /\ ∀ k, k ≠ r -> A'[k]? = A[k]? := by
 intro n
 induction n with
 | zero =>
  intro i y6 y7 A h hA
  have : i = L := by omega
  subst this
  exact ⟨y6, y7, A, zbL (zb4 (by omega)), hA, rfl, λ _ _ => rfl⟩
 | succ n ih =>
  intro i y6 y7 A h hA
  have hlt : r < A.length := (List.getElem?_eq_some_iff.mp hA).1
  have e1 : inB m7 mx [some (tabW s), some (tabW t), some x2, some (.ref 0), some (.int (p : Int)), some (.ref r), some (.int (i : Int)), y7] A = .ok (.nx [some (tabW s), some (tabW t), some x2, some (.ref 0), some (.int (p : Int)), some (.ref r), some (.int (i : Int)), some (v p i)]) (A.set r (.lst ((List.range i).map (λ q => W.int (f p q)) ++ [W.int (f p i)]))) := by
   refine (zu ((zap (h7 i y7 A (by omega))).trans rfl)).trans ?_
   exact (zu (zly (i := 5) (c := r) rfl hA (hx i A (by omega)) (by simp; omega))).trans rfl
  obtain ⟨z6, z7, A', e2, hA', hl', hk'⟩ := ih (i + 1) (some (.int (i : Int))) (some (v p i)) (A.set r (.lst ((List.range i).map (λ q => W.int (f p q)) ++ [W.int (f p i)]))) (by omega) (by
   rw [List.getElem?_set_self hlt, List.range_succ, List.map_append, List.map_singleton])
  refine ⟨z6, z7, A', ?_, hA', by rw [hl', List.length_set], λ k hk => by rw [hk' k hk, List.getElem?_set_ne (Ne.symm hk)]⟩
  refine (zc7 (w := .int (0 + (i : Int))) (zdn (by omega)) ((zb6 rfl).trans ?_)).trans e2
  rw [Int.zero_add]
  exact e1
noncomputable abbrev outB (m7 mx : Ev) : Ex := xSeq (xSet 5 (mLst (aNil))) (xSeq (xFor (zbq (mBin gMul (mQ gLen (mSeq (mVar 0))) (mQ gLen (mSeq (mVar 1))))) (gVar 6) (inB m7 mx)) (xSeq (xDo (zcq zaM (mVar 3) (mQ gTup (mSeq (mVar 5))))) (xNil)))
noncomputable def rowQ (f : Nat -> Nat -> Int) (L p : Nat) : W := .tup ((List.range L).map λ q => .int (f p q))
theorem zhZ {ρ : En} {A : Hx} (h0 : ρ[0]? = some (some (tabW s))) (h1 : ρ[1]? = some (some (tabW t))) (hs : s.length <= 8) (hL : s.length * t.length = L) (h8 : L <= 8) : zbq (mBin gMul (mQ gLen (mSeq (mVar 0))) (mQ gLen (mSeq (mVar 1)))) ρ A = .ok (zbI 0 L) A := by
 have e : mBin gMul (mQ gLen (mSeq (mVar 0))) (mQ gLen (mSeq (mVar 1))) ρ A = .ok (.int (L : Int)) A := by
  refine (zL (zdl h0) (zdl h1)).trans ((zgV (by omega) (by omega)).trans ?_)
  rw [<- Int.natCast_mul, hL]
 exact (zcy e (zbT (by omega))).trans (by rw [Int.toNat_natCast])
theorem zif (hs : s.length <= 8) (hL : s.length * t.length = L) (h8 : L <= 8) (h7 : ∀ p r q y A, p < L -> q < L -> m7 [some (tabW s), some (tabW t), some x2, some (.ref 0), some (.int (p : Int)), some (.ref r), some (.int (q : Int)), y] A = .ok (v p q) A)
  (hx : ∀ p r q A, p < L -> q < L -> mx [some (tabW s), some (tabW t), some x2, some (.ref 0), some (.int (p : Int)), some (.ref r), some (.int (q : Int)), some (v p q)] A = .ok (.int (f p q)) A) :
  ∀ (n i : Nat) (y4 y5 y6 y7 : Option W) (A : Hx), i + n = L -> A[0]? = some (.lst ((List.range i).map (rowQ f L))) -> ∃ z4 z5 z6 z7 A', zbJ (zbI 0 L) (turn (gVar 4) (outB m7 mx)) n i [some (tabW s), some (tabW t), some x2, some (.ref 0), y4, y5, y6, y7] A =
   .ok (.nx [some (tabW s), some (tabW t), some x2, some (.ref 0), z4, z5, z6, z7]) A' /\ A'[0]? = some (.lst ((List.range L).map (rowQ f L))) := by
 intro n
 induction n with
 | zero =>
  intro i y4 y5 y6 y7 A h hA
  have : i = L := by omega
  subst this
  exact ⟨y4, y5, y6, y7, A, zbL (zb4 (by omega)), hA⟩
 | succ n ih =>
  intro i y4 y5 y6 y7 A h hA
  have hlt : 0 < A.length := (List.getElem?_eq_some_iff.mp hA).1
  obtain ⟨z6, z7, A1, e1, h1, hl1, hk1⟩ := zmI (s := s) (t := t) (x2 := x2) (p := i) (r := A.length) (L := L) h8 (v := v) (f := f) (m7 := m7) (mx := mx) (λ q y B hq => h7 i A.length q y B (by omega) hq) (λ q B hq => hx i A.length q B (by omega) hq) L 0 y6 y7 (A ++ [.lst []]) (by omega) (by simp)
  have h01 : A1[0]? = some (.lst ((List.range i).map (rowQ f L))) := by
   rw [hk1 0 (by omega), List.getElem?_append_left hlt]; exact hA
  have e2 : outB m7 mx [some (tabW s), some (tabW t), some x2, some (.ref 0), some (.int (i : Int)), y5, y6, y7] A = .ok (.nx [some (tabW s), some (tabW t), some x2, some (.ref 0), some (.int (i : Int)), some (.ref A.length), z6, z7]) (A1.set 0 (.lst ((List.range i).map (rowQ f L) ++ [rowQ f L i]))) := by
   refine (zu (ρ1 := [some (tabW s), some (tabW t), some x2, some (.ref 0), some (.int (i : Int)), some (.ref A.length), y6, y7]) (A1 := A ++ [.lst []]) ((zap (zbN rfl)).trans rfl)).trans ?_
   refine (zu ((zcI (zhZ (L := L) rfl rfl hs hL h8)).trans e1)).trans ?_
   have hs5 : zK (.ref A.length) A1 = some ((List.range L).map λ q => W.int (f i q)) := by unfold zK; dsimp only; rw [h1]
   exact (zu (zly (i := 3) (c := 0) rfl h01 (zeY (zbd (zo (i := 5) rfl) hs5)) (by simp; omega))).trans rfl
  obtain ⟨z4, z5, w6, w7, A', e3, hA'⟩ := ih (i + 1) (some (.int (i : Int))) (some (.ref A.length)) z6 z7 (A1.set 0 (.lst ((List.range i).map (rowQ f L) ++ [rowQ f L i]))) (by omega) (by
   rw [List.getElem?_set_self (by rw [hl1, List.length_append]; omega), List.range_succ, List.map_append, List.map_singleton])
  refine ⟨z4, z5, w6, w7, A', ?_, hA'⟩
  refine (zc7 (w := .int (0 + (i : Int))) (zdn (by omega)) ((zb6 rfl).trans ?_)).trans e3
  rw [Int.zero_add]
  exact e2
end
section
variable {s t : List (List Int)}
noncomputable abbrev m7L : Ev := mBin gIx (mBin gIx (mVar 0) (mBin gDiv (mVar 4) (mQ gLen (mSeq (mVar 1))))) (mBin gDiv (mVar 6) (mQ gLen (mSeq (mVar 1))))
noncomputable abbrev otL : Ev := mBin gIx (mBin gIx (mVar 1) (mBin zbU (mVar 4) (mQ gLen (mSeq (mVar 1))))) (mBin zbU (mVar 6) (mQ gLen (mSeq (mVar 1))))
theorem zlX {i j : Nat} {A : Hx} (h : 0 < j) (h2 : j <= 8) : gDiv (.int i) (.int j) A = .ok (.int ((i / j : Nat) : Int)) A := by
 unfold gDiv gIC
 dsimp only
 rw [if_pos]
 ·rw [Int.natCast_ediv]
 ·unfold cDiv
  rw [Bool.and_eq_true, decide_eq_true_iff, decide_eq_true_iff]
  omega
theorem zlZ {i j : Nat} {A : Hx} (h : 0 < j) : zbU (.int i) (.int j) A = .ok (.int ((i % j : Nat) : Int)) A := by
 unfold zbU gIC
 dsimp only
 rw [if_pos]
 ·rw [Int.natCast_emod]
 ·unfold cMod
  exact decide_eq_true (by omega)
theorem zor (hs : TabL s) (ht : TabL t) {ρ : En} {A : Hx} {p q : Nat} (h0 : ρ[0]? = some (some (tabW s))) (h1 : ρ[1]? = some (some (tabW t))) (h4 : ρ[4]? = some (some (.int (p : Int)))) (h6 : ρ[6]? = some (some (.int (q : Int)))) (hp : p < s.length * t.length) (hq : q < s.length * t.length) :
  m7L ρ A = .ok (.int (at2 s (p / t.length) (q / t.length))) A :=
 ix2 hs (zo h0) ((zL (zo h4) (zdl h1)).trans (zlX ht.n1 ht.n8)) ((zL (zo h6) (zdl h1)).trans (zlX ht.n1 ht.n8)) (zdp hp) (zdp hq)
theorem zn9 (ht : TabL t) {ρ : En} {A : Hx} {p q : Nat} (h1 : ρ[1]? = some (some (tabW t))) (h4 : ρ[4]? = some (some (.int (p : Int)))) (h6 : ρ[6]? = some (some (.int (q : Int)))) :
  otL ρ A = .ok (.int (at2 t (p % t.length) (q % t.length))) A :=
 ix2 ht (zo h1) ((zL (zo h4) (zdl h1)).trans (zlZ ht.n1)) ((zL (zo h6) (zdl h1)).trans (zlZ ht.n1)) (Nat.mod_lt _ ht.n1) (Nat.mod_lt _ ht.n1)
theorem ziv (n : Nat) (f : Nat -> Nat -> Int) : (sqW n f).nr = true := by
 show nrs ((List.range n).map λ p => W.tup ((List.range n).map λ q => W.int (f p q))) = true
 exact zdt (λ p => by show nrs ((List.range n).map λ q => W.int (f p q)) = true; exact zdt (λ _ => rfl) _) _
theorem zhl (hs : TabL s) (ht : TabL t) (hf : s.length * t.length <= 8) (A : Hx) : zaW [tabW s, tabW t] A = .ok (sqW (s.length * t.length) (besV s t)) A := by
 obtain ⟨z4, z5, z6, z7, A', e, hA'⟩ := zif (s := s) (t := t) (x2 := .int (kds t)) (L := s.length * t.length) (v := λ p q => .int (at2 s (p / t.length) (q / t.length))) (f := besV s t) (m7 := m7L) (mx := mBin gAdd (mBin gMul (mVar 7) (mVar 2)) otL) hs.n8 rfl hf
  (λ p r q y A hp hq => zor hs ht rfl rfl rfl rfl hp hq) (λ p r q A hp hq => by
   have b := zm2 hs (zdp hp) (zdp hq)
   exact (zL ((zL (zo (i := 7) rfl) (zo (i := 2) rfl)).trans (zgV (by omega) (by omega))) (zn9 ht rfl rfl rfl)).trans rfl) (s.length * t.length) 0 none none none none [.lst []] (by omega) rfl
 refine zbH (A1 := A') (zd1 s t) (ziv _ _) (zaq ?_)
 unfold zcv
 refine (zu (ρ1 := [some (tabW s), some (tabW t), some (.int (kds t)), some (.ref 0), none, none, none, none]) (A1 := [.lst []]) ?_).trans ?_
 ·unfold xPar
  rw [(zQ (ws := [tabW t]) (A1 := []) rfl : zt zaF (zc (mVar 1) (aNil)) _ _ = _), zel, zbK ht [], zr]
  rfl
 refine (zu ((zcI (zhZ (L := s.length * t.length) rfl rfl hs.n8 rfl hf)).trans e)).trans (zaj (zaw (zeY (zbd (w := .ref 0) (A1 := A') (zo (i := 3) rfl) ?_))))
 unfold zK; dsimp only; rw [hA']; rfl
theorem zg4 (hs : TabL s) (ht : TabL t) (hf : s.length * t.length <= 8) (A : Hx) : zaS [tabW s, tabW t] A = .ok (sqW (s.length * t.length) (witV s t)) A := by
 obtain ⟨z4, z5, z6, z7, A', e, hA'⟩ := zif (s := s) (t := t) (x2 := .int (kds t - 1)) (L := s.length * t.length) (v := λ p q => .int (at2 s (p / t.length) (q / t.length))) (f := witV s t) (m7 := m7L) (mx := mIf (mBin gGt (mVar 7) (mLit (.int 0))) (mBin gAdd (mVar 7) (mVar 2)) otL) hs.n8 rfl hf
  (λ p r q y A hp hq => zor hs ht rfl rfl rfl rfl hp hq) (λ p r q A hp hq => by
   have l1 := zdp hp
   have l2 := zdp hq
   have b := zm2 hs l1 l2
   have hd := hs.dg _ _ l1 l2
   have ec := (zL (g := gGt) (ρ := [some (tabW s), some (tabW t), some (.int (kds t - 1)), some (.ref 0), some (.int (p : Int)), some (.ref r), some (.int (q : Int)), some (.int (at2 s (p / t.length) (q / t.length)))]) (A := A) (zo (i := 7) rfl) (zaT (w := .int 0))).trans (rfl : _ = R.ok (W.bl (decide ((0 : Int) < at2 s (p / t.length) (q / t.length)))) A)
   unfold witV
   by_cases hc : p / t.length = q / t.length
   ·rw [decide_eq_false (by have := hd.mpr hc; omega)] at ec
    rw [if_pos hc]
    exact (zkF ec).trans (zn9 ht rfl rfl rfl)
   ·rw [decide_eq_true (by have : at2 s (p / t.length) (q / t.length) ≠ 0 := λ z => hc (hd.mp z); omega)] at ec
    rw [if_neg hc]
    exact (zkv ec).trans ((zL (zo (i := 7) rfl) (zo (i := 2) rfl)).trans rfl)) (s.length * t.length) 0 none none none none [.lst []] (by omega) rfl
 refine zbH (A1 := A') (zd1 s t) (ziv _ _) (zaq ?_)
 unfold zct
 refine (zu (ρ1 := [some (tabW s), some (tabW t), some (.int (kds t - 1)), some (.ref 0), none, none, none, none]) (A1 := [.lst []]) ?_).trans ?_
 ·unfold xPar
  rw [(zL (g := gSub) (x := .int (kds t)) (y := .int 1) (A1 := []) (A2 := []) ((zQ (ws := [tabW t]) (A1 := []) rfl).trans (by rw [zel]; exact zbK ht [])) rfl : mBin gSub (zt zaF (zc (mVar 1) (aNil))) (mLit (.int 1)) _ _ = _)]
  rfl
 refine (zu ((zcI (zhZ (L := s.length * t.length) rfl rfl hs.n8 rfl hf)).trans e)).trans (zaj (zaw (zeY (zbd (w := .ref 0) (A1 := A') (zo (i := 3) rfl) ?_))))
 unfold zK; dsimp only; rw [hA']; rfl
end
end G
namespace Mi
open PySem L2
theorem zfU {n : Nat} {ws : List W} {w : W} {A : Hx} {s : Nat} (h : A[n]? = some (.lst ws)) (hs : ws[s]? = some w) : gIx (.ref n) (.int (s : Int)) A = .ok w A := by
 unfold gIx
 have e : zK (.ref n) A = some ws := by unfold zK; dsimp only; rw [h]
 rw [e]
 dsimp only
 rw [zga hs]
theorem zcL {A : Hx} {o u : O} {n : Nat} (h : A[n]? = some o) : (A ++ [u])[n]? = some o := by
 have := (List.getElem?_eq_some_iff.mp h).1
 rw [List.getElem?_append_left this]; exact h
theorem zcd {A : Hx} {u : O} : (A ++ [u])[A.length]? = some u := by simp
noncomputable def kvF : Nat -> List Int -> List (Key × W)
 | _, [] => []
 | s, r :: l => (.inl r, .int ((s + 1 : Nat) : Int)) :: kvF (s + 1) l
theorem zh0 : ∀ (ks : List Int) (s : Nat), (kvF s ks).length = ks.length
 | [], _ => rfl
 | _ :: l, s => by show (kvF (s + 1) l).length + 1 = _; rw [zh0 l]; rfl
theorem zj5 (r : Int) : ∀ (ks : List Int) (s : Nat), kvF s (ks ++ [r]) = kvF s ks ++ [(.inl r, .int ((s + ks.length + 1 : Nat) : Int))]
 | [], s => rfl
 | k :: l, s => by
  show _ :: kvF (s + 1) (l ++ [r]) = _
  rw [zj5 r l (s + 1), show s + 1 + l.length + 1 = s + (k :: l).length + 1 by simp; omega]
  rfl
theorem zjq (r : Int) : ∀ (ks : List Int) (s : Nat), (∃ k : Nat, s + 1 <= k /\ k <= s + ks.length /\ valK (.inl r) (kvF s ks) = some (.int (k : Int))) ∨ (r ∉ ks /\ valK (.inl r) (kvF s ks) = none)
 | [], s => .inr ⟨by simp, rfl⟩
 | k :: l, s => by
  have e : valK (.inl r) (kvF s (k :: l)) = if (Sum.inl k : Key) = .inl r then some (.int ((s + 1 : Nat) : Int)) else valK (.inl r) (kvF (s + 1) l) := rfl
  by_cases h : k = r
  ·subst h
   exact .inl ⟨s + 1, Nat.le_refl _, (by show s + 1 <= s + (l.length + 1); omega), by rw [e, if_pos rfl]⟩
  ·rw [e, if_neg (λ z => h (Sum.inl.inj z))]
   rcases zjq r l (s + 1) with ⟨q, h1, h2, h3⟩ | ⟨h1, h2⟩
   ·exact .inl ⟨q, by omega, (by show q <= s + (l.length + 1); omega), h3⟩
   ·exact .inr ⟨by simp; exact ⟨λ z => h z.symm, h1⟩, h2⟩
theorem ziN : ∀ (n : Nat) (ks : List Int), ks.Nodup -> (∀ r ∈ ks, 0 <= r /\ r < (n : Int)) -> ks.length <= n
 | 0, ks, _, h => by
  cases ks with
  | nil => exact Nat.le_refl _
  | cons r l => have := h r (List.mem_cons_self ..); omega
 | n + 1, ks, nd, h => by
  by_cases hm : (n : Int) ∈ ks
  ·have h1 := ziN n (ks.erase (n : Int)) (nd.erase _) λ r hr => by
    have h2 := h r (List.mem_of_mem_erase hr)
    have h3 : r ≠ (n : Int) := λ z => (List.Nodup.mem_erase_iff nd).mp hr |>.1 z
    omega
   rw [List.length_erase_of_mem hm] at h1
   omega
  ·have := ziN n ks nd λ r hr => by
    have h2 := h r hr
    have h3 : r ≠ (n : Int) := λ z => hm (z ▸ hr)
    omega
   omega
noncomputable def upd2 (μ : Nat -> Nat -> Int) (a b : Nat) (k : Int) : Nat -> Nat -> Int := λ i j => if i = a /\ j = b then k else μ i j
structure Mu (n : Nat) (μ : Nat -> Nat -> Int) (c : Nat) (done : Nat -> Nat -> Prop) : Prop where
 dg : ∀ i, μ i i = 0
 sy : ∀ i j, μ i j = μ j i
 dn : ∀ i j, i < j -> j < n -> done i j -> 1 <= μ i j /\ μ i j <= (c : Int)
 un : ∀ i j, i < j -> j < n -> ¬ done i j -> μ i j = 0
 fu : ∀ k : Nat, 1 <= k -> k <= c -> ∃ i j, i < n /\ j < n /\ μ i j = (k : Int)
theorem Mu.to {n : Nat} {μ : Nat -> Nat -> Int} {c : Nat} {d d' : Nat -> Nat -> Prop} (h : Mu n μ c d) (e : ∀ i j, i < j -> j < n -> (d i j ↔ d' i j)) : Mu n μ c d' :=
 ⟨h.dg, h.sy, λ i j h1 h2 h3 => h.dn i j h1 h2 ((e i j h1 h2).mpr h3), λ i j h1 h2 h3 => h.un i j h1 h2 λ z => h3 ((e i j h1 h2).mp z), h.fu⟩
theorem Mu.step {n : Nat} {μ : Nat -> Nat -> Int} {c c' k : Nat} {d : Nat -> Nat -> Prop} {a b : Nat} (h : Mu n μ c d) (hab : a < b) (hb : b < n) (hd : ¬ d a b) (hk : 1 <= k) (hc : (k <= c /\ c' = c) ∨ (k = c + 1 /\ c' = c + 1)) :
  Mu n (upd2 (upd2 μ a b k) b a k) c' λ i j => d i j ∨ (i = a /\ j = b) := by
 have at_ : ∀ i j, upd2 (upd2 μ a b k) b a k i j = if (i = b /\ j = a) ∨ (i = a /\ j = b) then (k : Int) else μ i j := λ i j => by
  unfold upd2
  by_cases h1 : i = b /\ j = a
  ·rw [if_pos h1, if_pos (.inl h1)]
  ·rw [if_neg h1]
   by_cases h2 : i = a /\ j = b
   ·rw [if_pos h2, if_pos (.inr h2)]
   ·rw [if_neg h2, if_neg (by rintro (z | z); exact h1 z; exact h2 z)]
 have z0 : μ a b = 0 := h.un a b hab hb hd
 have z1 : μ b a = 0 := (h.sy b a).trans z0
 refine ⟨λ i => ?_, λ i j => ?_, λ i j h1 h2 h3 => ?_, λ i j h1 h2 h3 => ?_, λ q h1 h2 => ?_⟩
 ·rw [at_, if_neg (by omega)]; exact h.dg i
 ·rw [at_, at_]
  by_cases q : (i = b /\ j = a) ∨ (i = a /\ j = b)
  ·rw [if_pos q, if_pos (by omega)]
  ·rw [if_neg q, if_neg (by omega)]; exact h.sy i j
 ·rw [at_]
  by_cases q : (i = b /\ j = a) ∨ (i = a /\ j = b)
  ·rw [if_pos q]; omega
  ·rw [if_neg q]
   have := h.dn i j h1 h2 (by rcases h3 with z | z; exact z; exact absurd (.inr z) q)
   omega
 ·rw [at_, if_neg (by rintro (z | z); omega; exact h3 (.inr z))]
  exact h.un i j h1 h2 λ z => h3 (.inl z)
 ·by_cases hq : q = k
  ·subst hq
   exact ⟨a, b, by omega, hb, by rw [at_, if_pos (.inr ⟨rfl, rfl⟩)]⟩
  ·obtain ⟨i, j, hi, hj, e⟩ := h.fu q h1 (by omega)
   refine ⟨i, j, hi, hj, ?_⟩
   rw [at_, if_neg ?_, e]
   rintro (⟨rfl, rfl⟩ | ⟨rfl, rfl⟩)
   ·rw [z1] at e; omega
   ·rw [z0] at e; omega
noncomputable def tabF (n : Nat) (μ : Nat -> Nat -> Int) : List (List Int) := (List.range n).map λ i => (List.range n).map (μ i)
theorem zhU {n : Nat} {μ : Nat -> Nat -> Int} {i j : Nat} (hi : i < n) (hj : j < n) : at2 (tabF n μ) i j = μ i j := by
 unfold at2 tabF
 rw [List.getD_eq_getElem?_getD (l := (List.range n).map λ i => (List.range n).map (μ i)), List.getElem?_map, List.getElem?_range hi]
 show ((List.range n).map (μ i)).getD j 0 = _
 rw [List.getD_eq_getElem?_getD, List.getElem?_map, List.getElem?_range hj]
 rfl
theorem Mu.tab {n c : Nat} {μ : Nat -> Nat -> Int} {d : Nat -> Nat -> Prop} (h : Mu n μ c d) (all : ∀ i j, i < j -> j < n -> d i j) (n1 : 1 <= n) (n8 : n <= 8) (hc : n = 1 ∨ c < n) : TabL (tabF n μ) := by
 have len : (tabF n μ).length = n := by unfold tabF; simp
 have val : ∀ i j, i < n -> j < n -> i ≠ j -> 1 <= μ i j /\ μ i j <= (c : Int) := λ i j hi hj ne => by
  rcases Nat.lt_or_gt_of_ne ne with q | q
  ·exact h.dn i j q hj (all i j q hj)
  ·rw [h.sy]; exact h.dn j i q hi (all j i q hi)
 have mem : ∀ r ∈ tabF n μ, ∀ v ∈ r, ∃ i j, i < n /\ j < n /\ v = μ i j := λ r hr v hv => by
  unfold tabF at hr
  obtain ⟨i, hi, rfl⟩ := List.mem_map.mp hr
  obtain ⟨j, hj, rfl⟩ := List.mem_map.mp hv
  exact ⟨i, j, List.mem_range.mp hi, List.mem_range.mp hj, rfl⟩
 have inF : ∀ i j, i < n -> j < n -> μ i j ∈ (tabF n μ).flatten := λ i j hi hj => List.mem_flatten.mpr ⟨_, List.mem_map.mpr ⟨i, List.mem_range.mpr hi, rfl⟩, List.mem_map.mpr ⟨j, List.mem_range.mpr hj, rfl⟩⟩
 refine ⟨by rw [len]; exact n1, by rw [len]; exact n8, λ r hr => ?_, λ r hr v hv => ?_, λ a b ha hb => ?_, λ a b ha hb => ?_, λ k hk => ?_⟩
 ·rw [len]
  unfold tabF at hr
  obtain ⟨i, hi, rfl⟩ := List.mem_map.mp hr
  simp
 ·rw [len]
  obtain ⟨i, j, hi, hj, rfl⟩ := mem r hr v hv
  by_cases q : i = j
  ·subst q; rw [h.dg]; omega
  ·have := val i j hi hj q
   omega
 ·rw [len] at ha hb
  rw [zhU ha hb]
  constructor
  ·intro e
   by_cases q : a = b
   ·exact q
   ·have := val a b ha hb q; omega
  ·intro e; subst e; exact h.dg a
 ·rw [len] at ha hb
  rw [zhU ha hb, zhU hb ha]
  exact h.sy a b
 ·obtain ⟨v, hv, hlt⟩ := hk
  obtain ⟨r, hr, hv'⟩ := List.mem_flatten.mp hv
  obtain ⟨i, j, hi, hj, rfl⟩ := mem r hr v hv'
  by_cases k0 : k = 0
  ·subst k0
   have := inF 0 0 (by omega) (by omega)
   rw [h.dg] at this
   exact this
  ·by_cases q : i = j
   ·subst q; rw [h.dg] at hlt; omega
   ·have := val i j hi hj q
    obtain ⟨i', j', hi', hj', e⟩ := h.fu k (by omega) (by omega)
    have := inF i' j' hi' hj'
    rw [e] at this
    exact this
end Mi
namespace G
open PySem L2 Mi
theorem zgG {i j : Int} {A : Hx} (h1 : -(2 ^ 64) < i) (h2 : i < 2 ^ 64) : gMul (.int i) (.int j) A = .ok (.int (i * j)) A := by
 unfold gMul
 dsimp only
 rw [if_pos]
 unfold cMul
 rw [Bool.or_eq_true, Bool.and_eq_true, decide_eq_true_iff, decide_eq_true_iff]
 exact .inl ⟨h1, h2⟩
theorem zfG {i j : Int} {A : Hx} (h : 0 < j) : zbU (.int i) (.int j) A = .ok (.int (i % j)) A := by
 unfold zbU gIC
 dsimp only
 rw [if_pos]
 unfold cMod
 exact decide_eq_true h
theorem zlz {i j : Int} {A : Hx} (h : 0 < j) (h2 : j < 1073741824) : gDiv (.int i) (.int j) A = .ok (.int (i / j)) A := by
 unfold gDiv gIC
 dsimp only
 rw [if_pos]
 unfold cDiv
 rw [Bool.and_eq_true, decide_eq_true_iff, decide_eq_true_iff]
 exact ⟨h, h2⟩
theorem zn8 {c m : Int} (h1 : 0 < m) (h2 : m < 1000) : zcx [.ref 0, .int m] [.lst [.int c, .bl true]] = .ok (.int (c % m)) [.lst [.int (c / m), .bl true]] := by
 refine zaq ?_
 unfold zcp
 refine zaj (A1 := [.lst [.int (c / m), .bl true]]) ?_
 refine (zfq (A1 := [.lst [.int c, .bl true]]) rfl).trans ?_
 refine (zu (ρ1 := [some (.ref 0), some (.int m), some (.int (c % m)), none]) (A1 := [.lst [.int c, .bl true]]) ?_).trans ?_
 ·refine (zap (w := .int (c % m)) (A1 := [.lst [.int c, .bl true]]) ?_).trans rfl
  exact (zL (x := .int c) (y := .int m) (A1 := [.lst [.int c, .bl true]]) (A2 := [.lst [.int c, .bl true]]) rfl rfl).trans (zfG h1)
 ·refine (zu (ρ1 := [some (.ref 0), some (.int m), some (.int (c % m)), none]) (A1 := [.lst [.int (c / m), .bl true]]) ?_).trans rfl
  have e : mBin gDiv (mBin gIx (mVar 0) (mLit (.int 0))) (mVar 1) [some (.ref 0), some (.int m), some (.int (c % m)), none] [.lst [.int c, .bl true]] = .ok (.int (c / m)) [.lst [.int c, .bl true]] :=
   (zL (x := .int c) (y := .int m) (A1 := [.lst [.int c, .bl true]]) (A2 := [.lst [.int c, .bl true]]) rfl rfl).trans (zlz h1 (by omega))
  unfold zce
  rw [e, zr]
  rfl
noncomputable def st1 (c : Int) : Int := (c * 48271 + 29) % 2147483647
noncomputable def st2 (d : Int) : Int := (d * d + 39373 * d + 7) % 2147483629
noncomputable def st3 (e : Int) : Int := (e * e + 16807 * e) % 2147483587
theorem zni (c : Int) : 0 <= st1 c /\ st1 c < 2147483647 := ⟨Int.emod_nonneg _ (by decide), Int.emod_lt_of_pos _ (by decide)⟩
theorem zpC (c : Int) : 0 <= st2 c /\ st2 c < 2147483629 := ⟨Int.emod_nonneg _ (by decide), Int.emod_lt_of_pos _ (by decide)⟩
theorem zoW {c m : Int} (hc : 0 <= c) (hc2 : c < 2147483647) (h1 : 0 < m) (h2 : m < 1000) : zcx [.ref 0, .int m] [.lst [.int c, .bl false]] = .ok (.int (st3 (st2 (st1 c)) / 8 % m)) [.lst [.int (st1 c), .bl false]] := by
 have b1 := zni c
 refine zaq ?_
 unfold zcp
 refine (zu (ρ1 := [some (.ref 0), some (.int m), none, none]) (A1 := [.lst [.int c, .bl false]]) ((zdf (A1 := [.lst [.int c, .bl false]]) rfl).trans rfl)).trans ?_
 have e1 : mBin zbU (mBin gAdd (mBin gMul (mBin gIx (mVar 0) (mLit (.int 0))) (mLit (.int 48271))) (mLit (.int 29))) (mLit (.int 2147483647)) [some (.ref 0), some (.int m), none, none] [.lst [.int c, .bl false]] = .ok (.int (st1 c)) [.lst [.int c, .bl false]] := by
  have em : mBin gMul (mBin gIx (mVar 0) (mLit (.int 0))) (mLit (.int 48271)) [some (.ref 0), some (.int m), none, none] [.lst [.int c, .bl false]] = .ok (.int (c * 48271)) [.lst [.int c, .bl false]] :=
   (zL (x := .int c) (y := .int 48271) (A1 := [.lst [.int c, .bl false]]) (A2 := [.lst [.int c, .bl false]]) rfl rfl).trans (zgG (by omega) (by omega))
  refine (zL (x := .int (c * 48271 + 29)) (y := .int 2147483647) (A1 := [.lst [.int c, .bl false]]) (A2 := [.lst [.int c, .bl false]]) ((zL em rfl).trans rfl) rfl).trans ?_
  exact zfG (by decide)
 refine (zu (ρ1 := [some (.ref 0), some (.int m), none, none]) (A1 := [.lst [.int (st1 c), .bl false]]) ?_).trans ?_
 ·unfold zce
  rw [e1, zr]
  rfl
 generalize st1 c = d at *
 have e2 : mBin zbU (mBin gAdd (mBin gAdd (mBin gMul (mBin gIx (mVar 0) (mLit (.int 0))) (mBin gIx (mVar 0) (mLit (.int 0)))) (mBin gMul (mLit (.int 39373)) (mBin gIx (mVar 0) (mLit (.int 0))))) (mLit (.int 7))) (mLit (.int 2147483629)) [some (.ref 0), some (.int m), none, none] [.lst [.int d, .bl false]] =
   .ok (.int (st2 d)) [.lst [.int d, .bl false]] := by
  have em : mBin gMul (mBin gIx (mVar 0) (mLit (.int 0))) (mBin gIx (mVar 0) (mLit (.int 0))) [some (.ref 0), some (.int m), none, none] [.lst [.int d, .bl false]] = .ok (.int (d * d)) [.lst [.int d, .bl false]] :=
   (zL (x := .int d) (y := .int d) (A1 := [.lst [.int d, .bl false]]) (A2 := [.lst [.int d, .bl false]]) rfl rfl).trans (zgG (by omega) (by omega))
  have en : mBin gMul (mLit (.int 39373)) (mBin gIx (mVar 0) (mLit (.int 0))) [some (.ref 0), some (.int m), none, none] [.lst [.int d, .bl false]] = .ok (.int (39373 * d)) [.lst [.int d, .bl false]] :=
   (zL (x := .int 39373) (y := .int d) (A1 := [.lst [.int d, .bl false]]) (A2 := [.lst [.int d, .bl false]]) rfl rfl).trans (zgG (by decide) (by decide))
  have es : mBin gAdd (mBin gMul (mBin gIx (mVar 0) (mLit (.int 0))) (mBin gIx (mVar 0) (mLit (.int 0)))) (mBin gMul (mLit (.int 39373)) (mBin gIx (mVar 0) (mLit (.int 0)))) [some (.ref 0), some (.int m), none, none] [.lst [.int d, .bl false]] = .ok (.int (d * d + 39373 * d)) [.lst [.int d, .bl false]] :=
   (zL em en).trans rfl
  refine (zL (x := .int (d * d + 39373 * d + 7)) (y := .int 2147483629) (A1 := [.lst [.int d, .bl false]]) (A2 := [.lst [.int d, .bl false]]) ((zL es rfl).trans rfl) rfl).trans ?_
  exact zfG (by decide)
 refine (zu (ρ1 := [some (.ref 0), some (.int m), none, some (.int (st2 d))]) (A1 := [.lst [.int d, .bl false]]) ((zap e2).trans rfl)).trans ?_
 have b2 := zpC d
 generalize st2 d = e at *
 have e3 : mBin zbU (mBin gAdd (mBin gMul (mVar 3) (mVar 3)) (mBin gMul (mLit (.int 16807)) (mVar 3))) (mLit (.int 2147483587)) [some (.ref 0), some (.int m), none, some (.int e)] [.lst [.int d, .bl false]] = .ok (.int (st3 e)) [.lst [.int d, .bl false]] := by
  have em : mBin gMul (mVar 3) (mVar 3) [some (.ref 0), some (.int m), none, some (.int e)] [.lst [.int d, .bl false]] = .ok (.int (e * e)) [.lst [.int d, .bl false]] :=
   (zL (x := .int e) (y := .int e) (A1 := [.lst [.int d, .bl false]]) (A2 := [.lst [.int d, .bl false]]) rfl rfl).trans (zgG (by omega) (by omega))
  have en : mBin gMul (mLit (.int 16807)) (mVar 3) [some (.ref 0), some (.int m), none, some (.int e)] [.lst [.int d, .bl false]] = .ok (.int (16807 * e)) [.lst [.int d, .bl false]] :=
   (zL (x := .int 16807) (y := .int e) (A1 := [.lst [.int d, .bl false]]) (A2 := [.lst [.int d, .bl false]]) rfl rfl).trans (zgG (by decide) (by decide))
  refine (zL (x := .int (e * e + 16807 * e)) (y := .int 2147483587) (A1 := [.lst [.int d, .bl false]]) (A2 := [.lst [.int d, .bl false]]) ((zL em en).trans rfl) rfl).trans ?_
  exact zfG (by decide)
 refine (zu (ρ1 := [some (.ref 0), some (.int m), none, some (.int (st3 e))]) (A1 := [.lst [.int d, .bl false]]) ((zap e3).trans rfl)).trans ?_
 generalize st3 e = f at *
 refine zaj (zaw ?_)
 refine (zL (x := .int (f / 8)) (y := .int m) (A1 := [.lst [.int d, .bl false]]) (A2 := [.lst [.int d, .bl false]]) ?_ rfl).trans (zfG h1)
 exact (zL (x := .int f) (y := .int 8) (A1 := [.lst [.int d, .bl false]]) (A2 := [.lst [.int d, .bl false]]) rfl rfl).trans (zlz (by decide) (by decide))
noncomputable def StOk (n : Nat) (A : Hx) : Prop := ∃ c b, A[n]? = some (.lst [.int c, .bl b]) /\ 0 <= c /\ (b = false -> c < 2147483647)
theorem zhi {n : Nat} {A : Hx} (h : StOk n A) {m : Int} (h1 : 0 < m) (h2 : m < 1000) : ∃ r o, zad [.ref n, .int m] A = .ok (.int r) (A.set n o) /\ 0 <= r /\ r < m /\ StOk n (A.set n o) := by
 obtain ⟨c, b, hA, hc, hb⟩ := h
 have hn : n < A.length := (List.getElem?_eq_some_iff.mp hA).1
 have fin : ∀ (r c' : Int), zcx [.ref 0, .int m] [.lst [.int c, .bl b]] = .ok (.int r) [.lst [.int c', .bl b]] -> zad [.ref n, .int m] A = .ok (.int r) (A.set n (.lst [.int c', .bl b])) := λ r c' e => by
  unfold zad isoL
  dsimp only
  rw [hA]
  dsimp only
  have hn1 : (nrs [W.int c, W.bl b] && nrs [W.int m]) = true := rfl
  rw [if_pos hn1, e]
  rfl
 cases b with
 | true =>
  refine ⟨c % m, _, fin _ _ (zn8 h1 h2), Int.emod_nonneg _ (by omega), Int.emod_lt_of_pos _ h1, c / m, true, List.getElem?_set_self hn, Int.ediv_nonneg hc (by omega), λ z => nomatch z⟩
 | false =>
  exact ⟨_, _, fin _ _ (zoW hc (hb rfl) h1 h2), Int.emod_nonneg _ (by omega), Int.emod_lt_of_pos _ h1, st1 c, false, List.getElem?_set_self hn, (zni c).1, λ _ => (zni c).2⟩
end G
namespace G
open PySem L2 Mi
structure SH (n D : Nat) (μ : Nat -> Nat -> Int) (ks : List Int) (A : Hx) : Prop where
 st : StOk 0 A
 rws : A[1 + 2 * n]? = some (.lst ((List.range n).map λ i => W.ref (2 + 2 * i)))
 row : ∀ i, i < n -> A[2 + 2 * i]? = some (.lst ((List.range n).map λ j => W.int (μ i j)))
 dc : A[D]? = some (.dct (kvF 0 ks))
 hD : 1 + 2 * n < D
inductive DI (n D kh : Nat) (done : Nat -> Nat -> Prop) (A : Hx) : Prop
 | mk (μ : Nat -> Nat -> Int) (ks : List Int) (sh : SH n D μ ks A) (nd : ks.Nodup) (kb : ∀ r ∈ ks, 0 <= r /\ r < (kh : Int)) (mu : Mu n μ ks.length done)
section
variable {n D kh a b : Nat} {μ : Nat -> Nat -> Int} {ks : List Int} {A : Hx} {done : Nat -> Nat -> Prop}
theorem SH.take (h : SH n D μ ks A) {m : Int} (h1 : 0 < m) (h2 : m < 1000) : ∃ (r : Nat) (A' : Hx), zad [.ref 0, .int m] A = .ok (.int (r : Int)) A' /\ (r : Int) < m /\ SH n D μ ks A' := by
 obtain ⟨r, o, e, a, b, s⟩ := zhi h.st h1 h2
 have hD := h.hD
 refine ⟨r.toNat, A.set 0 o, by rw [e, Int.toNat_of_nonneg a], by omega, s, ?_, λ i hi => ?_, ?_, h.hD⟩
 ·rw [List.getElem?_set_ne (by omega)]; exact h.rws
 ·rw [List.getElem?_set_ne (by omega)]; exact h.row i hi
 ·rw [List.getElem?_set_ne (by omega)]; exact h.dc
theorem zna {g : Nat -> Int} {k : Int} (hb : b < n) : ((List.range n).map λ j => W.int (g j)).set b (.int k) = (List.range n).map λ j => W.int (if j = b then k else g j) := by
 apply List.ext_getElem?
 intro i
 by_cases hi : i < n
 ·by_cases q : b = i
  ·subst q
   rw [List.getElem?_set_self (by simpa using hi), List.getElem?_map, List.getElem?_range hi]
   simp
  ·rw [List.getElem?_set_ne q, List.getElem?_map, List.getElem?_map, List.getElem?_range hi]
   simp [Ne.symm q]
 ·rw [List.getElem?_eq_none (by simp; omega), List.getElem?_eq_none (by simp; omega)]
theorem SH.put (h : SH n D μ ks A) (ha : a < n) (hb : b < n) (k : Int) : ∃ A', gPut (.ref (2 + 2 * a)) (.int (b : Int)) (.int k) A = .ok () A' /\ SH n D (upd2 μ a b k) ks A' := by
 have hr := h.row a ha
 have hlt : 2 + 2 * a < A.length := (List.getElem?_eq_some_iff.mp hr).1
 have hD := h.hD
 refine ⟨A.set (2 + 2 * a) (.lst (((List.range n).map λ j => W.int (μ a j)).set b (.int k))), ?_, ?_, ?_, λ i hi => ?_, ?_, h.hD⟩
 ·unfold gPut
  dsimp only
  rw [hr]
  dsimp only
  have e : ixN ((List.range n).map λ j => W.int (μ a j)).length (b : Int) = some b := by
   unfold ixN
   rw [if_pos (by omega)]
   simp
   omega
  rw [e]
 ·obtain ⟨c, q, e, r⟩ := h.st
  exact ⟨c, q, by rw [List.getElem?_set_ne (by omega)]; exact e, r⟩
 ·rw [List.getElem?_set_ne (by omega)]; exact h.rws
 ·by_cases q : i = a
  ·subst q
   rw [List.getElem?_set_self hlt, zna hb]
   congr 3
   funext j
   unfold upd2
   by_cases z : j = b
   ·rw [if_pos z, if_pos ⟨rfl, z⟩]
   ·rw [if_neg z, if_neg (by rintro ⟨_, w⟩; exact z w)]
  ·rw [List.getElem?_set_ne (by omega), h.row i hi]
   congr 3
   funext j
   unfold upd2
   rw [if_neg (by rintro ⟨w, _⟩; exact q w)]
 ·rw [List.getElem?_set_ne (by omega)]; exact h.dc
theorem SH.setd (h : SH n D μ ks A) (hl : ks.length <= 100) (r : Int) : (∃ k : Nat, 1 <= k /\ k <= ks.length /\ zbO (.ref D) (.int r) (.int ((ks.length + 1 : Nat) : Int)) A = .ok (.int (k : Int)) A) ∨
  (r ∉ ks /\ ∃ A', zbO (.ref D) (.int r) (.int ((ks.length + 1 : Nat) : Int)) A = .ok (.int ((ks.length + 1 : Nat) : Int)) A' /\ SH n D μ (ks ++ [r]) A') := by
 have hD := h.hD
 have hlt : D < A.length := (List.getElem?_eq_some_iff.mp h.dc).1
 have e : zbO (.ref D) (.int r) (.int ((ks.length + 1 : Nat) : Int)) A = (match valK (.inl r) (kvF 0 ks) with
   | some w => .ok w A
   | none => .ok (.int ((ks.length + 1 : Nat) : Int)) (A.set D (.dct (kvF 0 ks ++ [(.inl r, .int ((ks.length + 1 : Nat) : Int))])))) := by
  unfold zbO keyW
  dsimp only
  rw [h.dc]
  dsimp only
  rw [if_pos (by rw [zh0]; unfold zR; omega)] <;> (cases valK (.inl r) (kvF 0 ks) <;> rfl)
 rcases zjq r ks 0 with ⟨k, h1, h2, h3⟩ | ⟨h1, h2⟩
 ·exact .inl ⟨k, by omega, by omega, by rw [e, h3]⟩
 ·refine .inr ⟨h1, _, by rw [e, h2], ?_, ?_, λ i hi => ?_, ?_, h.hD⟩
  ·obtain ⟨c, q, e, w⟩ := h.st
   exact ⟨c, q, by rw [List.getElem?_set_ne (by omega)]; exact e, w⟩
  ·rw [List.getElem?_set_ne (by omega)]; exact h.rws
  ·rw [List.getElem?_set_ne (by omega)]; exact h.row i hi
  ·rw [List.getElem?_set_self hlt, zj5, Nat.zero_add]
noncomputable abbrev inT : Ex := xSeq (xSet 8 (zfO zbO (mVar 5) (zt zad (zc (mVar 0) (zc (mVar 4) (aNil)))) (mBin gAdd (zgS (mVar 5)) (mLit (.int 1))))) (xSeq (zce gPut (mVar 8) (mBin gIx (mVar 3) (mVar 6)) (mVar 7)) (xSeq (zce gPut (mVar 8) (mBin gIx (mVar 3) (mVar 7)) (mVar 6)) (xNil)))
theorem zix (h : SH n D μ ks A) (ha : a < n) (hb : b < n) {k : Int} {ρ : En} {i j : Nat} (h8 : ρ[8]? = some (some (.int k))) (h3 : ρ[3]? = some (some (.ref (1 + 2 * n)))) (hi : ρ[i]? = some (some (.int (a : Int)))) (hj : ρ[j]? = some (some (.int (b : Int)))) :
  ∃ A', zce gPut (mVar 8) (mBin gIx (mVar 3) (mVar i)) (mVar j) ρ A = .ok (.nx ρ) A' /\ SH n D (upd2 μ a b k) ks A' := by
 obtain ⟨A', e, h'⟩ := h.put ha hb k
 refine ⟨A', ?_, h'⟩
 have ei : mBin gIx (mVar 3) (mVar i) ρ A = .ok (.ref (2 + 2 * a)) A := (zL (zo h3) (zo hi)).trans (zfU h.rws (by rw [List.getElem?_map, List.getElem?_range ha]; rfl))
 unfold zce
 rw [zo h8, zr, ei, zr, zo hj, zr, e, zr]
theorem zl3 {up : W} {y8 : Option W} (h : DI n D kh done A) (hkh : 1 <= kh) (hk3 : kh <= 3) (hab : a < b) (hb : b < n) (hd : ¬ done a b) : ∃ z8 A', inT [some (.ref 0), some up, some (.int (n : Int)), some (.ref (1 + 2 * n)), some (.int (kh : Int)), some (.ref D), some (.int (a : Int)), some (.int (b : Int)), y8] A =
  .ok (.nx [some (.ref 0), some up, some (.int (n : Int)), some (.ref (1 + 2 * n)), some (.int (kh : Int)), some (.ref D), some (.int (a : Int)), some (.int (b : Int)), z8]) A' /\ DI n D kh (λ i j => done i j ∨ (i = a /\ j = b)) A' := by
 obtain ⟨μ, ks, sh, nd, kb, mu⟩ := h
 have hlen : ks.length <= kh := ziN kh ks nd kb
 obtain ⟨r, A1, e1, hr, sh1⟩ := sh.take (m := (kh : Int)) (by omega) (by omega)
 have ed : isD (.ref D) A = true := by unfold isD; dsimp only; rw [sh.dc]
 have el : mBin gAdd (zgS (mVar 5)) (mLit (.int 1)) [some (.ref 0), some up, some (.int (n : Int)), some (.ref (1 + 2 * n)), some (.int (kh : Int)), some (.ref D), some (.int (a : Int)), some (.int (b : Int)), y8] A1 = .ok (.int ((ks.length + 1 : Nat) : Int)) A1 := by
  have e : zgS (mVar 5) [some (.ref 0), some up, some (.int (n : Int)), some (.ref (1 + 2 * n)), some (.int (kh : Int)), some (.ref D), some (.int (a : Int)), some (.int (b : Int)), y8] A1 = .ok (.int (ks.length : Int)) A1 := by
   unfold zgS
   rw [zo (i := 5) rfl, zr]
   dsimp only
   rw [sh1.dc]
   dsimp only
   rw [zh0]
  exact (zL e (zaT (w := .int 1))).trans (by show R.ok (W.int ((ks.length : Int) + 1)) A1 = _; rw [Int.natCast_add]; rfl)
 have go : ∀ (k : Nat) (ks' : List Int) (A2 : Hx), zbO (.ref D) (.int (r : Int)) (.int ((ks.length + 1 : Nat) : Int)) A1 = .ok (.int (k : Int)) A2 -> SH n D μ ks' A2 -> ks'.Nodup -> (∀ r ∈ ks', 0 <= r /\ r < (kh : Int)) -> 1 <= k -> ((k <= ks.length /\ ks'.length = ks.length) ∨ (k = ks.length + 1 /\ ks'.length = ks.length + 1)) ->
   ∃ z8 A', inT [some (.ref 0), some up, some (.int (n : Int)), some (.ref (1 + 2 * n)), some (.int (kh : Int)), some (.ref D), some (.int (a : Int)), some (.int (b : Int)), y8] A =
    .ok (.nx [some (.ref 0), some up, some (.int (n : Int)), some (.ref (1 + 2 * n)), some (.int (kh : Int)), some (.ref D), some (.int (a : Int)), some (.int (b : Int)), z8]) A' /\ DI n D kh (λ i j => done i j ∨ (i = a /\ j = b)) A' := by
  intro k ks' A2 e2 sh2 nd' kb' k1 kc
  have es : zfO zbO (mVar 5) (zt zad (zc (mVar 0) (zc (mVar 4) (aNil)))) (mBin gAdd (zgS (mVar 5)) (mLit (.int 1))) [some (.ref 0), some up, some (.int (n : Int)), some (.ref (1 + 2 * n)), some (.int (kh : Int)), some (.ref D), some (.int (a : Int)), some (.int (b : Int)), y8] A = .ok (.int (k : Int)) A2 := by
   unfold zfO
   rw [zo (i := 5) rfl, zr, if_pos ed, (zQ (ws := [.ref 0, .int (kh : Int)]) (A1 := A) rfl).trans e1, zr, el, zr]
   exact e2
  obtain ⟨A3, e3, sh3⟩ := zix (a := a) (b := b) (k := (k : Int)) (ρ := [some (.ref 0), some up, some (.int (n : Int)), some (.ref (1 + 2 * n)), some (.int (kh : Int)), some (.ref D), some (.int (a : Int)), some (.int (b : Int)), some (.int (k : Int))]) (i := 6) (j := 7) sh2 (by omega) hb rfl rfl rfl rfl
  obtain ⟨A4, e4, sh4⟩ := zix (a := b) (b := a) (k := (k : Int)) (ρ := [some (.ref 0), some up, some (.int (n : Int)), some (.ref (1 + 2 * n)), some (.int (kh : Int)), some (.ref D), some (.int (a : Int)), some (.int (b : Int)), some (.int (k : Int))]) (i := 7) (j := 6) sh3 hb (by omega) rfl rfl rfl rfl
  refine ⟨some (.int (k : Int)), A4, ?_, _, ks', sh4, nd', kb', mu.step hab hb hd k1 kc⟩
  exact (zu ((zap es).trans rfl)).trans ((zu e3).trans ((zu e4).trans rfl))
 rcases sh1.setd (by omega) (r : Int) with ⟨k, k1, k2, e2⟩ | ⟨hn, A2, e2, sh2⟩
 ·exact go k ks A1 e2 sh1 nd kb k1 (.inl ⟨k2, rfl⟩)
 ·refine go (ks.length + 1) (ks ++ [(r : Int)]) A2 e2 sh2 ?_ (λ q hq => ?_) (by omega) (.inr ⟨rfl, by simp⟩)
  ·rw [List.nodup_append]
   exact ⟨nd, by simp, λ x hx y hy => by have := List.mem_singleton.mp hy; subst this; exact λ z => hn (z ▸ hx)⟩
  ·rcases List.mem_append.mp hq with z | z
   ·exact kb q z
   ·have := List.mem_singleton.mp z; omega
end
end G
namespace G
open PySem L2 Mi
section
variable {n D kh a : Nat} {A : Hx} {up : W}
noncomputable def D2 (a b : Nat) : Nat -> Nat -> Prop := λ i j => i < a ∨ (i = a /\ j < b)
theorem DI.to {d d' : Nat -> Nat -> Prop} (h : DI n D kh d A) (e : ∀ i j, i < j -> j < n -> (d i j ↔ d' i j)) : DI n D kh d' A := by
 obtain ⟨μ, ks, sh, nd, kb, mu⟩ := h
 exact ⟨μ, ks, sh, nd, kb, mu.to e⟩
theorem zkJ (hkh : 1 <= kh) (hk3 : kh <= 3) (ha : a < n) : ∀ (f i : Nat) (y7 y8 : Option W) (A : Hx), i + f = n - (a + 1) -> DI n D kh (D2 a (a + 1 + i)) A -> ∃ z7 z8 A',
  zbJ (zbI ((a : Int) + 1) (n - (a + 1))) (turn (gVar 7) inT) f i [some (.ref 0), some up, some (.int (n : Int)), some (.ref (1 + 2 * n)), some (.int (kh : Int)), some (.ref D), some (.int (a : Int)), y7, y8] A =
   .ok (.nx [some (.ref 0), some up, some (.int (n : Int)), some (.ref (1 + 2 * n)), some (.int (kh : Int)), some (.ref D), some (.int (a : Int)), z7, z8]) A' /\ DI n D kh (D2 a n) A' := by
 intro f
 induction f with
 | zero =>
  intro i y7 y8 A h hA
  exact ⟨y7, y8, A, zbL (zb4 (by omega)), hA.to λ x y h1 h2 => by unfold D2; omega⟩
 | succ f ih =>
  intro i y7 y8 A h hA
  obtain ⟨z8, A1, e1, h1⟩ := zl3 (a := a) (b := a + 1 + i) (up := up) (y8 := y8) hA hkh hk3 (by omega) (by omega) (by unfold D2; omega)
  obtain ⟨w7, w8, A2, e2, h2⟩ := ih (i + 1) (some (.int ((a + 1 + i : Nat) : Int))) z8 A1 (by omega) (h1.to λ x y q1 q2 => by unfold D2; omega)
  refine ⟨w7, w8, A2, ?_, h2⟩
  refine (zc7 (w := .int ((a : Int) + 1 + (i : Int))) (zdn (by omega)) ((zb6 rfl).trans ?_)).trans e2
  rw [show (a : Int) + 1 + (i : Int) = ((a + 1 + i : Nat) : Int) by omega]
  exact e1
noncomputable abbrev outT : Ex := xSeq (xFor (zi6 (mBin gAdd (mVar 6) (mLit (.int 1))) (mVar 2)) (gVar 7) inT) (xNil)
theorem zjc (hkh : 1 <= kh) (hk3 : kh <= 3) (hn : n <= 8) : ∀ (f i : Nat) (y6 y7 y8 : Option W) (A : Hx), i + f = n -> DI n D kh (λ x _ => x < i) A -> ∃ z6 z7 z8 A',
  zbJ (zbI 0 n) (turn (gVar 6) outT) f i [some (.ref 0), some up, some (.int (n : Int)), some (.ref (1 + 2 * n)), some (.int (kh : Int)), some (.ref D), y6, y7, y8] A =
   .ok (.nx [some (.ref 0), some up, some (.int (n : Int)), some (.ref (1 + 2 * n)), some (.int (kh : Int)), some (.ref D), z6, z7, z8]) A' /\ DI n D kh (λ x _ => x < n) A' := by
 intro f
 induction f with
 | zero =>
  intro i y6 y7 y8 A h hA
  have : i = n := by omega
  subst this
  exact ⟨y6, y7, y8, A, zbL (zb4 (by omega)), hA⟩
 | succ f ih =>
  intro i y6 y7 y8 A h hA
  obtain ⟨z7, z8, A1, e1, h1⟩ := zkJ (up := up) (a := i) hkh hk3 (by omega) (n - (i + 1)) 0 y7 y8 A (by omega) (hA.to λ x y q1 q2 => by unfold D2; omega)
  obtain ⟨w6, w7, w8, A2, e2, h2⟩ := ih (i + 1) (some (.int (i : Int))) z7 z8 A1 (by omega) (h1.to λ x y q1 q2 => by unfold D2; omega)
  refine ⟨w6, w7, w8, A2, ?_, h2⟩
  refine (zc7 (w := .int (0 + (i : Int))) (zdn (by omega)) ((zb6 rfl).trans ?_)).trans e2
  rw [Int.zero_add]
  have er : zi6 (mBin gAdd (mVar 6) (mLit (.int 1))) (mVar 2) [some (.ref 0), some up, some (.int (n : Int)), some (.ref (1 + 2 * n)), some (.int (kh : Int)), some (.ref D), some (.int (i : Int)), y7, y8] A = .ok (zbI ((i : Int) + 1) (n - (i + 1))) A := by
   unfold zi6
   rw [(zL (zo (i := 6) rfl) (zaT (w := .int 1)) : mBin gAdd (mVar 6) (mLit (.int 1)) [some (.ref 0), some up, some (.int (n : Int)), some (.ref (1 + 2 * n)), some (.int (kh : Int)), some (.ref D), some (.int (i : Int)), y7, y8] A = _)]
   show R.bind (R.ok (W.int ((i : Int) + 1)) A) _ = _
   rw [zr, zo (i := 2) rfl, zr]
   dsimp only
   have s1 : zaO ((i : Int) + 1) = true := by unfold zaO; simp; omega
   rw [s1, zbT (n := n) (by omega)]
   show R.ok (zbI ((i : Int) + 1) ((n : Int) - ((i : Int) + 1)).toNat) A = _
   rw [show ((n : Int) - ((i : Int) + 1)).toNat = n - (i + 1) by omega]
  exact (zu ((zcI er).trans e1)).trans rfl
noncomputable def Z (n : Nat) : List O := [O.lst [.int 0], O.lst ((List.range n).map λ _ => W.int 0)]
theorem zom (n t : Nat) : ∀ i, t < i -> ((List.replicate i (Z n)).flatten)[2 * t + 1]? = some (O.lst ((List.range n).map λ _ => W.int 0)) := by
 induction t with
 | zero =>
  intro i h
  cases i with
  | zero => omega
  | succ i => rw [List.replicate_succ, List.flatten_cons]; rfl
 | succ t ih =>
  intro i h
  cases i with
  | zero => omega
  | succ i =>
   rw [List.replicate_succ, List.flatten_cons, List.getElem?_append_right (by show 2 <= _; omega)]
   have := ih i (by omega)
   rw [show 2 * (t + 1) + 1 - (Z n).length = 2 * t + 1 by show 2 * (t + 1) + 1 - 2 = _; omega]
   exact this
theorem zf9 (n i : Nat) : ((List.replicate i (Z n)).flatten).length = 2 * i := by
 induction i with
 | zero => rfl
 | succ i ih => rw [List.replicate_succ, List.flatten_cons, List.length_append, ih]; show 2 + 2 * i = _; omega
theorem zkR {x : Option W} {A : Hx} (hn : n <= 8) : mBin gMul (mLst (zc (mLit (.int 0)) (aNil))) (mVar 1) [x, some (.int (n : Int))] A = .ok (.ref (A.length + 1)) (A ++ Z n) := by
 refine (zL (zbN (ws := [.int 0]) (A1 := A) rfl) (zo (i := 1) rfl)).trans ?_
 unfold gMul
 dsimp only
 rw [zcd]
 dsimp only
 rw [if_pos ?_]
 ·rw [List.length_append, List.length_singleton, List.append_assoc]
  congr 2
  rw [List.flatten_replicate_singleton, Int.toNat_natCast]
  show [O.lst [.int 0], O.lst (List.replicate n (.int 0))] = Z n
  unfold Z
  rw [show List.replicate n (W.int 0) = (List.range n).map λ _ => W.int 0 from ?_]
  rw [List.map_const', List.length_range]
 ·rw [zbT (by omega), Int.toNat_natCast]
  simp
  unfold zR
  omega
theorem zm1 {A1 : Hx} (hn : n <= 8) : ∀ (f i : Nat) (x : Option W), i + f = n -> ∃ y, emGo (zbI 0 n) (gVar 0) (mLit (.bl true)) (zN (mBin gMul (mLst (zc (mLit (.int 0)) (aNil))) (mVar 1))) f i [x, some (.int (n : Int))] ((List.range i).map λ t => W.ref (A1.length + 2 * t + 1)) (A1 ++ (List.replicate i (Z n)).flatten) =
  .ok ([y, some (.int (n : Int))], (List.range n).map λ t => W.ref (A1.length + 2 * t + 1)) (A1 ++ (List.replicate n (Z n)).flatten) := by
 intro f
 induction f with
 | zero =>
  intro i x h
  have : i = n := by omega
  subst this
  refine ⟨x, ?_⟩
  unfold emGo
  rw [zb4 (by omega)]
 | succ f ih =>
  intro i x h
  obtain ⟨y, e⟩ := ih (i + 1) (some (.int (0 + (i : Int)))) (by omega)
  refine ⟨y, ?_⟩
  rw [emGo, zdn (by omega)]
  dsimp only [gVar, List.set, mLit]
  rw [zr]
  dsimp only
  have ee : zN (mBin gMul (mLst (zc (mLit (.int 0)) (aNil))) (mVar 1)) [some (.int (0 + (i : Int))), some (.int (n : Int))] ((List.range i).map λ t => W.ref (A1.length + 2 * t + 1)) (A1 ++ (List.replicate i (Z n)).flatten) =
    .ok ([some (.int (0 + (i : Int))), some (.int (n : Int))], (List.range (i + 1)).map λ t => W.ref (A1.length + 2 * t + 1)) (A1 ++ (List.replicate (i + 1) (Z n)).flatten) := by
   unfold zN
   rw [zkR hn, zr, if_pos (by unfold zR; simp; omega)]
   rw [List.length_append, zf9, List.range_succ, List.map_append, List.map_singleton, List.append_assoc, List.replicate_succ', List.flatten_append]
   simp
  rw [ee, zr]
  exact e
theorem zmD {A1 : Hx} {ρ : En} (hn : n <= 8) (h2 : ρ[2]? = some (some (.int (n : Int)))) : zb7 (zT 1 [2] (zbq (mVar 2)) (gVar 0) (mLit (.bl true)) (zN (mBin gMul (mLst (zc (mLit (.int 0)) (aNil))) (mVar 1)))) ρ A1 =
  .ok (.ref (A1.length + 2 * n)) (A1 ++ (List.replicate n (Z n)).flatten ++ [.lst ((List.range n).map λ t => W.ref (A1.length + 2 * t + 1))]) := by
 obtain ⟨y, e⟩ := zm1 (A1 := A1) hn n 0 none (by omega)
 have ec : zT 1 [2] (zbq (mVar 2)) (gVar 0) (mLit (.bl true)) (zN (mBin gMul (mLst (zc (mLit (.int 0)) (aNil))) (mVar 1))) ρ A1 = .ok ((List.range n).map λ t => W.ref (A1.length + 2 * t + 1)) (A1 ++ (List.replicate n (Z n)).flatten) := by
  unfold zT
  rw [zcy (zo h2) (zbT (by omega)), zr, Int.toNat_natCast]
  have hc : zf3 1 [2] ρ = [none, some (.int (n : Int))] := by
   show [none, (ρ[2]?).join] = _
   rw [h2]; rfl
  rw [hc]
  have e' : emGo (zbI 0 n) (gVar 0) (mLit (.bl true)) (zN (mBin gMul (mLst (zc (mLit (.int 0)) (aNil))) (mVar 1))) (zbI 0 n).len 0 [none, some (.int (n : Int))] [] A1 = .ok ([y, some (.int (n : Int))], (List.range n).map λ t => W.ref (A1.length + 2 * t + 1)) (A1 ++ (List.replicate n (Z n)).flatten) := by
   have := e
   rw [List.replicate_zero, List.flatten_nil, List.append_nil] at this
   exact this
  rw [e']
  rfl
 rw [zdH ec, List.length_append, zf9]
end
end G
namespace G
open PySem L2 Mi
section
variable {n D kh : Nat} {A : Hx}
theorem SH.fin {μ : Nat -> Nat -> Int} {ks : List Int} (h : SH n D μ ks A) (hn : n <= 8) {ρ : En} (h3 : ρ[3]? = some (some (.ref (1 + 2 * n)))) : mQ gTup (zT 1 [] (mIt (mVar 3)) (gVar 0) (mLit (.bl true)) (zN (mQ gTup (mSeq (mVar 0))))) ρ A = .ok (tabW (tabF n μ)) A := by
 have e := zd5 (cap := []) (me := mQ gTup (mSeq (mVar 0))) (ρ := ρ) (A := A) (N := n) (item := λ i => .ref (2 + 2 * i)) (g := λ i => .tup ((List.range n).map λ j => W.int (μ i j))) (zhM (zo h3) h.rws) (by simp) (by unfold zR; omega)
  (λ i hi => (ziM h.rws).trans (by rw [List.getElem?_map, List.getElem?_range hi]; rfl)) ((ziM h.rws).trans (by rw [List.getElem?_eq_none (by simp)]))
  (λ i hi => zeY (zbd (w := .ref (2 + 2 * i)) (A1 := A) (zo rfl) (by unfold zK; dsimp only; rw [h.row i hi])))
 rw [zeY e]
 congr 2
 unfold tabF
 rw [List.map_map]
 apply List.map_congr_left
 intro i _
 show W.tup _ = W.tup (((List.range n).map (μ i)).map W.int)
 rw [List.map_map]
 rfl
theorem zpv {ρ : En} (h2 : ρ[2]? = some (some (.int (n : Int)))) (n1 : 1 <= n) : ∃ M : Nat, mBin zf0 (mLit (.int 1)) (mBin zfm (mLit (.int 3)) (mBin gSub (mVar 2) (mLit (.int 1)))) ρ A = .ok (.int (M : Int)) A /\ 1 <= M /\ M <= 3 /\ (n = 1 ∨ M < n) := by
 have e : mBin zf0 (mLit (.int 1)) (mBin zfm (mLit (.int 3)) (mBin gSub (mVar 2) (mLit (.int 1)))) ρ A = .ok (.int (if (if (n : Int) - 1 < 3 then (n : Int) - 1 else 3) > 1 then (if (n : Int) - 1 < 3 then (n : Int) - 1 else 3) else 1)) A :=
  (zL (zaT (w := .int 1)) ((zL (zaT (w := .int 3)) ((zL (zo h2) (zaT (w := .int 1))).trans rfl)).trans rfl)).trans rfl
 refine ⟨(if (if (n : Int) - 1 < 3 then (n : Int) - 1 else 3) > 1 then (if (n : Int) - 1 < 3 then (n : Int) - 1 else 3) else 1).toNat, ?_, ?_⟩
 ·rw [e, Int.toNat_of_nonneg (by split <;> split <;> omega)]
 ·split <;> split <;> omega
theorem zkI {A : Hx} (hl : A.length = 2 + 2 * n) (st : StOk 0 A) (rws : A[1 + 2 * n]? = some (.lst ((List.range n).map λ i => W.ref (2 + 2 * i)))) (row : ∀ i, i < n -> A[2 + 2 * i]? = some (.lst ((List.range n).map λ _ => W.int 0))) :
  DI n (2 + 2 * n) kh (λ x _ => x < 0) (A ++ [.dct []]) := by
 obtain ⟨c, b, e, r⟩ := st
 refine ⟨λ _ _ => 0, [], ⟨⟨c, b, zcL e, r⟩, zcL rws, λ i hi => zcL (row i hi), ?_, by omega⟩, List.nodup_nil, λ _ h => absurd h (by simp), ⟨λ _ => rfl, λ _ _ => rfl, λ _ _ _ _ h => absurd h (by omega), λ _ _ _ _ _ => rfl, λ k h1 h2 => absurd h2 (by simp; omega)⟩⟩
 rw [<- hl]
 exact zcd
theorem zod {A0 : Hx} (h : StOk 0 A0) (hl0 : A0.length = 1) {u : Nat} (u1 : 1 <= u) (u8 : u <= 8) : ∃ t A1, zcj [.ref 0, .int (u : Int)] A0 = .ok (tabW t) A1 /\ StOk 0 A1 /\ TabL t /\ t.length <= u := by
 obtain ⟨r, o, e1, r0, r1, s1⟩ := zhi h (m := (u : Int)) (by omega) (by omega)
 obtain ⟨r', rfl⟩ := Int.eq_ofNat_of_zero_le r0
 have hl1 : (A0.set 0 o).length = 1 := by rw [List.length_set]; exact hl0
 generalize A0.set 0 o = A1 at e1 s1 hl1
 have f1 : xSet 2 (mBin gAdd (mLit (.int 1)) (zt zad (zc (mVar 0) (zc (mVar 1) (aNil))))) [some (.ref 0), some (.int (u : Int)), none, none, none, none, none, none, none] A0 = .ok (.nx [some (.ref 0), some (.int (u : Int)), some (.int ((1 + r' : Nat) : Int)), none, none, none, none, none, none]) A1 := by
  refine (zap ((zL (zaT (w := .int 1)) ((zQ (ws := [.ref 0, .int (u : Int)]) (A1 := A0) rfl).trans e1)).trans (rfl : _ = R.ok (W.int (1 + (r' : Int))) A1))).trans ?_
  rw [show (1 + (r' : Int)) = ((1 + r' : Nat) : Int) by omega]
  rfl
 have n1 : 1 <= 1 + r' := by omega
 have nu : 1 + r' <= u := by omega
 generalize 1 + r' = n at f1 n1 nu
 have f2 := zmD (n := n) (A1 := A1) (ρ := [some (.ref 0), some (.int (u : Int)), some (.int (n : Int)), none, none, none, none, none, none]) (by omega) rfl
 rw [hl1] at f2
 have st2 : StOk 0 (A1 ++ (List.replicate n (Z n)).flatten ++ [.lst ((List.range n).map λ t => W.ref (1 + 2 * t + 1))]) := by
  obtain ⟨c, b, e, r⟩ := s1
  exact ⟨c, b, zcL (by rw [List.getElem?_append_left (by omega)]; exact e), r⟩
 have rws2 : (A1 ++ (List.replicate n (Z n)).flatten ++ [O.lst ((List.range n).map λ t => W.ref (1 + 2 * t + 1))])[1 + 2 * n]? = some (.lst ((List.range n).map λ i => W.ref (2 + 2 * i))) := by
  have hlen : (A1 ++ (List.replicate n (Z n)).flatten).length = 1 + 2 * n := by rw [List.length_append, zf9, hl1]
  rw [<- hlen, zcd]
  have : (λ t : Nat => W.ref (1 + 2 * t + 1)) = λ i : Nat => W.ref (2 + 2 * i) := by funext i; rw [show 1 + 2 * i + 1 = 2 + 2 * i by omega]
  rw [this]
 have row2 : ∀ i, i < n -> (A1 ++ (List.replicate n (Z n)).flatten ++ [O.lst ((List.range n).map λ t => W.ref (1 + 2 * t + 1))])[2 + 2 * i]? = some (.lst ((List.range n).map λ _ => W.int 0)) := λ i hi => by
  refine zcL ?_
  rw [List.getElem?_append_right (by omega), hl1, show 2 + 2 * i - 1 = 2 * i + 1 by omega]
  exact zom n i n hi
 have len2 : (A1 ++ (List.replicate n (Z n)).flatten ++ [O.lst ((List.range n).map λ t => W.ref (1 + 2 * t + 1))]).length = 2 + 2 * n := by
  rw [List.length_append, List.length_append, zf9, hl1, List.length_singleton]; omega
 generalize A1 ++ (List.replicate n (Z n)).flatten ++ [O.lst ((List.range n).map λ t => W.ref (1 + 2 * t + 1))] = A2 at f2 st2 rws2 row2 len2
 obtain ⟨M, eM, M1, M3, Mn⟩ := zpv (A := A2) (n := n) (ρ := [some (.ref 0), some (.int (u : Int)), some (.int (n : Int)), some (.ref (1 + 2 * n)), none, none, none, none, none]) rfl n1
 obtain ⟨q, o2, e3, q0, q1, s3⟩ := zhi st2 (m := (M : Int)) (by omega) (by omega)
 obtain ⟨q', rfl⟩ := Int.eq_ofNat_of_zero_le q0
 have f3 : xSet 4 (mBin gAdd (mLit (.int 1)) (zt zad (zc (mVar 0) (zc (mBin zf0 (mLit (.int 1)) (mBin zfm (mLit (.int 3)) (mBin gSub (mVar 2) (mLit (.int 1))))) (aNil))))) [some (.ref 0), some (.int (u : Int)), some (.int (n : Int)), some (.ref (1 + 2 * n)), none, none, none, none, none] A2 =
   .ok (.nx [some (.ref 0), some (.int (u : Int)), some (.int (n : Int)), some (.ref (1 + 2 * n)), some (.int ((1 + q' : Nat) : Int)), none, none, none, none]) (A2.set 0 o2) := by
  refine (zap ((zL (zaT (w := .int 1)) ((zQ (ws := [.ref 0, .int (M : Int)]) (A1 := A2) (zay (zo rfl) (zay eM zjo))).trans e3)).trans (rfl : _ = R.ok (W.int (1 + (q' : Int))) (A2.set 0 o2)))).trans ?_
  rw [show (1 + (q' : Int)) = ((1 + q' : Nat) : Int) by omega]
  rfl
 have k1 : 1 <= 1 + q' := by omega
 have k3 : 1 + q' <= M := by omega
 generalize 1 + q' = kh at f3 k1 k3
 have rws3 : (A2.set 0 o2)[1 + 2 * n]? = some (.lst ((List.range n).map λ i => W.ref (2 + 2 * i))) := by rw [List.getElem?_set_ne (by omega)]; exact rws2
 have row3 : ∀ i, i < n -> (A2.set 0 o2)[2 + 2 * i]? = some (.lst ((List.range n).map λ _ => W.int 0)) := λ i hi => by rw [List.getElem?_set_ne (by omega)]; exact row2 i hi
 have len3 : (A2.set 0 o2).length = 2 + 2 * n := by rw [List.length_set]; exact len2
 generalize A2.set 0 o2 = A3 at f3 s3 rws3 row3 len3
 have di := zkI (kh := kh) len3 s3 rws3 row3
 obtain ⟨z6, z7, z8, A4, e5, di4⟩ := zjc (up := .int (u : Int)) k1 (by omega) (by omega) n 0 none none none (A3 ++ [.dct []]) (by omega) di
 obtain ⟨μ, ks, sh, nd, kb, mu⟩ := di4
 have hp := ziN kh ks nd kb
 have tb : TabL (tabF n μ) := mu.tab (λ i j h1 h2 => by omega) n1 (by omega) (by omega)
 refine ⟨tabF n μ, A4, zaq ?_, sh.st, tb, by unfold tabF; simp; exact nu⟩
 unfold zbs
 refine (zu f1).trans ?_
 refine (zu ((zap f2).trans rfl)).trans ?_
 refine (zu f3).trans ?_
 refine (zu (ρ1 := [some (.ref 0), some (.int (u : Int)), some (.int (n : Int)), some (.ref (1 + 2 * n)), some (.int (kh : Int)), some (.ref (2 + 2 * n)), none, none, none]) (A1 := A3 ++ [.dct []]) ((zap (w := .ref (2 + 2 * n)) (A1 := A3 ++ [.dct []]) (by unfold mDct; rw [len3])).trans rfl)).trans ?_
 refine (zu ((zcI ((zcy (zo (i := 2) rfl) (zbT (by omega))).trans (by rw [Int.toNat_natCast]))).trans e5)).trans (zaj (zaw ?_))
 exact sh.fin (by omega) rfl
theorem zn0 {m : Nat} {A : Hx} (h : StOk m A) {u : Nat} (u1 : 1 <= u) (u8 : u <= 8) : ∃ t o, zac [.ref m, .int (u : Int)] A = .ok (tabW t) (A.set m o) /\ StOk m (A.set m o) /\ TabL t /\ t.length <= u := by
 obtain ⟨c, b, hA, hc, hb⟩ := h
 have hm : m < A.length := (List.getElem?_eq_some_iff.mp hA).1
 obtain ⟨t, A1, e, ⟨c', b', e', hc', hb'⟩, tb, tl⟩ := zod (A0 := [.lst [.int c, .bl b]]) ⟨c, b, rfl, hc, hb⟩ rfl u1 u8
 refine ⟨t, .lst [.int c', .bl b'], ?_, ⟨c', b', List.getElem?_set_self hm, hc', hb'⟩, tb, tl⟩
 unfold zac isoL
 dsimp only
 rw [hA]
 dsimp only
 have h1 : (nrs [W.int c, W.bl b] && nrs [W.int (u : Int)]) = true := rfl
 rw [if_pos h1, e]
 dsimp only
 rw [List.head?_eq_getElem?, e']
 dsimp only
 have h2 : (nrs [W.int c', W.bl b'] && (tabW t).nr) = true := by rw [zbb]; rfl
 rw [if_pos h2]
end
end G
namespace Mi
open PySem L2
theorem ziu {n k : Nat} {xs ys : List W} {A : Hx} (h : A[n]? = some (.lst xs)) (h2 : A[k]? = some (.lst ys)) (hl : xs.length + ys.length <= zR) : gAdd (.ref n) (.ref k) A = .ok (.ref A.length) (A ++ [.lst (xs ++ ys)]) := by
 unfold gAdd
 dsimp only
 rw [h, h2]
 dsimp only
 rw [if_pos hl]
noncomputable def Ext (A A' : Hx) : Prop := ∃ l, A' = A ++ l
theorem Ext.trans {A B C : Hx} (a : Ext A B) (b : Ext B C) : Ext A C := let ⟨l, e⟩ := a; let ⟨k, f⟩ := b; ⟨l ++ k, by rw [f, e, List.append_assoc]⟩
theorem Ext.one {A : Hx} {o : O} : Ext A (A ++ [o]) := ⟨[o], rfl⟩
theorem Ext.at {A A' : Hx} {n : Nat} {o : O} (x : Ext A A') (h : A[n]? = some o) : A'[n]? = some o := by
 obtain ⟨l, rfl⟩ := x
 have := (List.getElem?_eq_some_iff.mp h).1
 rw [List.getElem?_append_left this]; exact h
theorem zkQ {m m' : Ev} {ρ : En} {A : Hx} {us vs : List W} (h : m ρ A = .ok (.tup us) A) (h' : m' ρ A = .ok (.tup vs) A) : mZip m m' ρ A = .ok (ziIt (.tup us) (.tup vs) us.length) A := by
 unfold mZip
 rw [h, zr, h', zr]
 rfl
end Mi
namespace G
open PySem L2 Mi
theorem zit {f : Fn} {ws : List W} (hl : ws.length <= 1000) (hf : ∀ w ∈ ws, f [w, w] [] = .ok (.bl true) []) : runB 2 (za2 f) [.tup ws, .tup ws] [] = .ok (.bl true) [] := by
 refine zaq ?_
 unfold za2
 have el : mQ gLen (mSeq (mVar 0)) [some (.tup ws), some (.tup ws)] [] = .ok (.int ws.length) [] := zcC (zbd (w := .tup ws) (A1 := []) (zo rfl) rfl)
 have el' : mQ gLen (mSeq (mVar 1)) [some (.tup ws), some (.tup ws)] [] = .ok (.int ws.length) [] := zcC (zbd (w := .tup ws) (A1 := []) (zo rfl) rfl)
 refine zaj ((zfq (A1 := []) rfl).trans ?_)
 refine (zu (ρ1 := [some (.tup ws), some (.tup ws)]) (A1 := []) ((zdf (A1 := []) ((znd (A1 := []) rfl).trans rfl)).trans rfl)).trans ?_
 refine (zu (ρ1 := [some (.tup ws), some (.tup ws)]) (A1 := []) ((zdf (A1 := []) ((zL el el').trans ((neI _ _ _).trans (by rw [decide_eq_true rfl]; rfl)))).trans rfl)).trans (zaj (zaw ?_))
 have ec := zdw (A := []) (cap := []) (ρ := [some (.tup ws), some (.tup ws)]) (me := zt f (zc (mVar 0) (zc (mVar 1) (aNil)))) (N := ws.length) (u := λ i => ws.getD i .non) (v := λ i => ws.getD i .non) (g := λ _ => .bl true) (zkQ (zo (i := 0) rfl) (zo (i := 1) rfl)) rfl hl
  (λ i hi => by show some (zip2 ws[i]? ws[i]?) = _; rw [List.getD_eq_getElem?_getD, List.getElem?_eq_getElem hi]; rfl) (by show some (zip2 ws[ws.length]? ws[ws.length]?) = _; rw [List.getElem?_eq_none (Nat.le_refl _)]; rfl)
  (λ i hi => by
   have e : ws.getD i .non = ws[i] := by rw [List.getD_eq_getElem?_getD, List.getElem?_eq_getElem hi]; rfl
   rw [e]
   exact (zQ (ws := [ws[i], ws[i]]) (A1 := []) rfl).trans (hf _ (List.getElem_mem hi)))
 exact (zcC ec).trans (zff (p := λ _ => true) λ _ _ => rfl)
theorem same_int {f : Fn} (v : Int) : runB 2 (za2 f) [.int v, .int v] [] = .ok (.bl true) [] := by
 refine zaq ?_
 unfold za2
 refine (zu (ρ1 := [some (.int v), some (.int v)]) (A1 := []) ((zdf (A1 := []) rfl).trans rfl)).trans (zaj (zaw ?_))
 exact (zfF (A1 := []) ((zL (zo (i := 0) rfl) (zo (i := 1) rfl)).trans ((eqI _ _ _).trans (by rw [decide_eq_true rfl])))).trans rfl
theorem zpn (v : Int) (A : Hx) : zcW [.int v, .int v] A = .ok (.bl true) A := zbH rfl rfl (same_int v)
theorem zol (L : Nat) (g : Nat -> Int) : (W.tup ((List.range L).map λ q => W.int (g q))).nr = true := by
 show nrs ((List.range L).map λ q => W.int (g q)) = true
 exact zdt (λ _ => rfl) _
theorem zpH {L : Nat} (hL : L <= 8) (g : Nat -> Int) (A : Hx) : zc2 [.tup ((List.range L).map λ q => .int (g q)), .tup ((List.range L).map λ q => .int (g q))] A = .ok (.bl true) A := by
 refine zbH (by show (W.nr _ && (W.nr _ && true)) = true; rw [zol]; rfl) rfl (zit (by simp; omega) λ w hw => ?_)
 obtain ⟨q, _, rfl⟩ := List.mem_map.mp hw
 exact zpn _ []
theorem zi1 {a : Ea} {xs ys : List W} {A : Hx} {r : Nat} {u e : Option W} (hA : A[r]? = some (.lst xs)) (ha : a [u, e, none, some (.ref r)] A = .ok ys A) (hl : xs.length + ys.length <= 100) :
  xSet 3 (mBin gAdd (mVar 3) (mLst a)) [u, e, none, some (.ref r)] A = .ok (.nx [u, e, none, some (.ref (A.length + 1))]) (A ++ [.lst ys] ++ [.lst (xs ++ ys)]) := by
 refine (zap ((zL (zo (i := 3) rfl) (zbN ha)).trans (ziu (zcL hA) zcd (by unfold zR; omega)))).trans ?_
 rw [List.length_append, List.length_singleton]
 rfl
theorem zdU {a : Ea} {xs ys zs : List W} {A L : Hx} {j : Nat} {u e : Option W} (hL : L[j]? = some (.lst xs)) (ha : ∀ m A, a [u, e, none, m] A = .ok ys A) (hl : xs.length + ys.length <= 100) (hz : xs ++ ys = zs) :
  xSet 3 (mBin gAdd (mVar 3) (mLst a)) [u, e, none, some (.ref (A.length + j))] (A ++ L) = .ok (.nx [u, e, none, some (.ref (A.length + (L.length + 1)))]) (A ++ (L ++ [.lst ys, .lst zs])) := by
 have hA : (A ++ L)[A.length + j]? = some (.lst xs) := by rw [List.getElem?_append_right (by omega), show A.length + j - A.length = j by omega]; exact hL
 rw [zi1 hA (ha _ _) hl, hz, List.length_append, List.append_assoc, List.append_assoc, Nat.add_assoc]
 rfl
noncomputable def mkW (i a n : Nat) : List W := (List.range' a n).map λ k => W.bl (decide (k = i))
noncomputable def GX (i : Nat) : Hx := [.lst (mkW i 0 3), .lst (mkW i 3 3), .lst (mkW i 0 6), .lst (mkW i 6 3), .lst (mkW i 0 9), .lst (mkW i 9 3), .lst (mkW i 0 12), .lst (mkW i 12 3), .lst (mkW i 0 15), .lst (mkW i 15 3), .lst (mkW i 0 18), .lst [.int i]]
noncomputable def zdm (x : Str) : Option Nat := if x = "NoTable" then some 0 else if x = "TooMany" then some 11 else none
theorem zls {x : Str} {i : Nat} (hx : zdm x = some i) (u : W) (A : Hx) : zbS [some u, some (.xc x), none, none] A = .ok (.rt (.ref (A.length + 11))) (A ++ GX i) := by
 have two : (x = "NoTable" /\ i = 0) ∨ (x = "TooMany" /\ i = 11) := by
  unfold zdm at hx
  by_cases h : x = "NoTable"
  ·rw [if_pos h] at hx; cases hx; exact .inl ⟨h, rfl⟩
  ·rw [if_neg h] at hx
   by_cases h' : x = "TooMany"
   ·rw [if_pos h'] at hx; cases hx; exact .inr ⟨h', rfl⟩
   ·rw [if_neg h'] at hx; cases hx
 unfold zbS
 have a0 : ∀ (m : Option W) (A : Hx), (zc (mIsX (isF zx "NoTable") (mVar 1)) (zc (mIsX (isF zx "NotSteady") (mVar 1)) (zc (mIsX (isF zx "NoPlace") (mVar 1)) (aNil)))) [some u, some (.xc x), none, m] A = .ok (mkW i 0 3) A := λ m A => by
  rcases two with ⟨rfl, rfl⟩ | ⟨rfl, rfl⟩ <;> kernel_rfl
 have a1 : ∀ (m : Option W) (A : Hx), (zc (mIsX (isF zx "NoKind") (mVar 1)) (zc (mIsX (isF zx "NoMix") (mVar 1)) (zc (mIsX (isF zx "NoNumber") (mVar 1)) (aNil)))) [some u, some (.xc x), none, m] A = .ok (mkW i 3 3) A := λ m A => by
  rcases two with ⟨rfl, rfl⟩ | ⟨rfl, rfl⟩ <;> kernel_rfl
 have a2 : ∀ (m : Option W) (A : Hx), (zc (mIsX (isF zx "NoLot") (mVar 1)) (zc (mIsX (isF zx "NoKinds") (mVar 1)) (zc (mIsX (isF zx "NoPaper") (mVar 1)) (aNil)))) [some u, some (.xc x), none, m] A = .ok (mkW i 6 3) A := λ m A => by
  rcases two with ⟨rfl, rfl⟩ | ⟨rfl, rfl⟩ <;> kernel_rfl
 have a3 : ∀ (m : Option W) (A : Hx), (zc (mIsX (isF zx "NoParting") (mVar 1)) (zc (mIsX (isF zx "NoClosed") (mVar 1)) (zc (mIsX (isF zx "TooMany") (mVar 1)) (aNil)))) [some u, some (.xc x), none, m] A = .ok (mkW i 9 3) A := λ m A => by
  rcases two with ⟨rfl, rfl⟩ | ⟨rfl, rfl⟩ <;> kernel_rfl
 have a4 : ∀ (m : Option W) (A : Hx), (zc (mIsX (isF zx "NoText") (mVar 1)) (zc (mIsX (isF zx "NoLine") (mVar 1)) (zc (mIsX (isF zx "NoDeed") (mVar 1)) (aNil)))) [some u, some (.xc x), none, m] A = .ok (mkW i 12 3) A := λ m A => by
  rcases two with ⟨rfl, rfl⟩ | ⟨rfl, rfl⟩ <;> kernel_rfl
 have a5 : ∀ (m : Option W) (A : Hx), (zc (mIsX (isF zx "NoWeights") (mVar 1)) (zc (mIsX (isF zx "NotWhole") (mVar 1)) (zc (mIsX (isF zx "NoNumbers") (mVar 1)) (aNil)))) [some u, some (.xc x), none, m] A = .ok (mkW i 15 3) A := λ m A => by
  rcases two with ⟨rfl, rfl⟩ | ⟨rfl, rfl⟩ <;> kernel_rfl
 have ap : ∀ n, mkW i 0 n ++ mkW i n 3 = mkW i 0 (n + 3) := λ n => by
  unfold mkW
  rw [<- List.map_append]
  congr 1
  have := List.range'_append_1 (s := 0) (m := n) (n := 3)
  rw [Nat.zero_add] at this
  exact this
 have e0 : xSet 3 (mLst (zc (mIsX (isF zx "NoTable") (mVar 1)) (zc (mIsX (isF zx "NotSteady") (mVar 1)) (zc (mIsX (isF zx "NoPlace") (mVar 1)) (aNil))))) [some u, some (.xc x), none, none] A = .ok (.nx [some u, some (.xc x), none, some (.ref (A.length + 0))]) (A ++ [.lst (mkW i 0 3)]) := (zap (zbN (a0 _ A))).trans rfl
 refine (zu e0).trans ?_
 refine (zu (zdU (A := A) (L := [.lst (mkW i 0 3)]) (j := 0) (xs := mkW i 0 3) (ys := mkW i 3 3) (zs := mkW i 0 6) rfl a1 (by simp [mkW]) (ap 3))).trans ?_
 refine (zu (zdU (A := A) (L := [.lst (mkW i 0 3), .lst (mkW i 3 3), .lst (mkW i 0 6)]) (j := 2) (xs := mkW i 0 6) (ys := mkW i 6 3) (zs := mkW i 0 9) rfl a2 (by simp [mkW]) (ap 6))).trans ?_
 refine (zu (zdU (A := A) (L := [.lst (mkW i 0 3), .lst (mkW i 3 3), .lst (mkW i 0 6), .lst (mkW i 6 3), .lst (mkW i 0 9)]) (j := 4) (xs := mkW i 0 9) (ys := mkW i 9 3) (zs := mkW i 0 12) rfl a3 (by simp [mkW]) (ap 9))).trans ?_
 refine (zu (zdU (A := A) (L := [.lst (mkW i 0 3), .lst (mkW i 3 3), .lst (mkW i 0 6), .lst (mkW i 6 3), .lst (mkW i 0 9), .lst (mkW i 9 3), .lst (mkW i 0 12)]) (j := 6) (xs := mkW i 0 12) (ys := mkW i 12 3) (zs := mkW i 0 15) rfl a4 (by simp [mkW]) (ap 12))).trans ?_
 refine (zu (zdU (A := A) (L := [.lst (mkW i 0 3), .lst (mkW i 3 3), .lst (mkW i 0 6), .lst (mkW i 6 3), .lst (mkW i 0 9), .lst (mkW i 9 3), .lst (mkW i 0 12), .lst (mkW i 12 3), .lst (mkW i 0 15)]) (j := 8) (xs := mkW i 0 15) (ys := mkW i 15 3) (zs := mkW i 0 18) rfl a5 (by simp [mkW]) (ap 15))).trans ?_
 generalize hB : A ++ ([.lst (mkW i 0 3), .lst (mkW i 3 3), .lst (mkW i 0 6), .lst (mkW i 6 3), .lst (mkW i 0 9), .lst (mkW i 9 3), .lst (mkW i 0 12), .lst (mkW i 12 3), .lst (mkW i 0 15)] ++ [.lst (mkW i 15 3), .lst (mkW i 0 18)]) = B
 have hl : B.length = A.length + 11 := by rw [<- hB]; simp
 have hm : B[A.length + 10]? = some (.lst (mkW i 0 18)) := by rw [<- hB, List.getElem?_append_right (by omega), show A.length + 10 - A.length = 10 by omega]; rfl
 refine (zu (ρ1 := [some u, some (.xc x), none, some (.ref (A.length + 10))]) (A1 := B) ((zdf (A1 := B) (zc6 (k := true) ?_)).trans rfl)).trans (zaj (zaw ?_))
 ·rcases two with ⟨rfl, rfl⟩ | ⟨rfl, rfl⟩ <;> kernel_rfl
 have ec := zfQ (cap := [3]) (mi := zbq (mLit (.int 18))) (j := zbI 0 18) (ifs := mBin gIx (mVar 1) (mVar 0)) (me := mVar 0) (ρ := [some u, some (.xc x), none, some (.ref (A.length + 10))]) (A := B) (N := 18) (item := λ k => .int (0 + (k : Int))) (g := λ k => .int (0 + (k : Int))) (keep := λ k => decide (k = i)) rfl rfl (by unfold zR; omega) (λ k hk => zdn hk) (zb4 (by omega))
  (λ k hk => by
   refine (zL (zo (i := 1) (w := .ref (A.length + 10)) rfl) (zo (i := 0) (w := .int (0 + (k : Int))) rfl)).trans ?_
   rw [Int.zero_add]
   refine zfU hm ?_
   unfold mkW
   rw [List.getElem?_map, List.getElem?_range' (by omega)]
   simp) (λ k hk _ => rfl)
 rw [zdH ec, hl]
 have hf : ((List.range 18).filter λ k => decide (k = i)).map (λ k : Nat => W.int (0 + (k : Int))) = [.int i] := by
  rcases two with ⟨rfl, rfl⟩ | ⟨rfl, rfl⟩ <;> rfl
 rw [hf, <- hB, List.append_assoc]
 rfl
end G
namespace G
open PySem L2 Mi
noncomputable abbrev LS : List Lm := zbV zab zaa
noncomputable def RF (k : Nat) (ws : List W) (A : Hx) : R W := match lamF LS k ws A with
 | .exc x A1 => (match zdm x with
  | some i => .ok (.ref (A1.length + 11)) (A1 ++ GX i)
  | none => .bad)
 | _ => .bad
theorem zpG {x : Str} {i : Nat} (hx : zdm x = some i) : zx.contains x = true := by
 unfold zdm at hx
 by_cases h : x = "NoTable"
 ·subst h; decide +kernel
 ·rw [if_neg h] at hx
  by_cases h' : x = "TooMany"
  ·subst h'; decide +kernel
  ·rw [if_neg h'] at hx; cases hx
theorem zjX {PG : PFam} {k i : Nat} {ws : List W} {x : Str} {A A1 : Hx} (hl : lamF LS k ws A = .exc x A1) (hx : zdm x = some i) :
  runB 4 (zaE PG (lamF LS)) [.clo k ws (PG k)] A = .ok (.ref (A1.length + 11)) (A1 ++ GX i) := by
 have ec : mClo 0 PG (lamF LS) [some (.clo k ws (PG k)), some .non, none, none] A = .exc x A1 := by
  unfold mClo
  refine (if_pos rfl).trans hl
 have et : xTry 0 1 2 zx PG (lamF LS) [some (.clo k ws (PG k)), some .non, none, none] A = .ok (.nx [some (.clo k ws (PG k)), some (.xc x), none, none]) A1 := by
  unfold xTry
  rw [ec]
  dsimp only
  rw [if_pos (zpG hx)]
  rfl
 refine zaq ?_
 unfold zaE
 refine (zu (ρ1 := [some (.clo k ws (PG k)), some .non, none, none]) (A1 := A) rfl).trans ?_
 exact (zu et).trans (zls hx _ A1)
theorem zkc {k i : Nat} {ws : List W} {x : Str} {A A1 : Hx} (hl : lamF LS k ws A = .exc x A1) (hx : zdm x = some i) : RF k ws A = .ok (.ref (A1.length + 11)) (A1 ++ GX i) := by
 unfold RF
 rw [hl]
 dsimp only
 rw [hx]
theorem znp {PG : PFam} (us : List W) (A : Hx) : fRef PG RF us A = .bad ∨ runB 4 (zaE PG (lamF LS)) us A = fRef PG RF us A := by
 by_cases hb : fRef PG RF us A = .bad
 ·exact .inl hb
 right
 unfold fRef at hb ⊢
 split
 ·rename_i k ws P
  dsimp only at hb
  by_cases hP : P = PG k
  ·subst hP
   rw [if_pos rfl] at hb ⊢
   cases e : lamF LS k ws A with
   | exc x A1 =>
    cases hm : zdm x with
    | none => exfalso; apply hb; unfold RF; rw [e]; dsimp only; rw [hm]
    | some i => rw [zjX e hm, zkc e hm]
   | ok w A1 => exfalso; apply hb; unfold RF; rw [e]
   | bad => exfalso; apply hb; unfold RF; rw [e]
  ·rw [if_neg hP] at hb; exact absurd rfl hb
 ·rename_i h
  exfalso
  apply hb
  split
  ·rename_i k ws P
   exact (h k ws P rfl).elim
  ·rfl
noncomputable def isTr (r : R W) : Bool := match r with
 | .ok (.bl b) _ => b
 | _ => false
theorem znl {r : R W} (h : isTr r = true) : ∃ A, r = .ok (.bl true) A := by
 cases r with
 | ok w A => cases w with
  | bl b => cases b with
   | true => exact ⟨A, rfl⟩
   | false => exact Bool.noConfusion h
  | _ => exact Bool.noConfusion h
 | _ => exact Bool.noConfusion h
noncomputable def isNo (r : R W) : Bool := match r with
 | .exc x [] => decide (x = "TooMany")
 | _ => false
theorem zl6 {r : R W} (h : isNo r = true) : r = .exc "TooMany" [] := by
 cases r with
 | exc x A => cases A with
  | nil => rw [of_decide_eq_true (show decide (x = "TooMany") = true from h)]
  | cons _ _ => exact Bool.noConfusion h
 | _ => exact Bool.noConfusion h
noncomputable def zgE (w d : W) : Bool := nrs [w, d] && isTr (zdy [w, d] [])
theorem zki {w d : W} (h : zgE w d = true) (A : Hx) : za3 [w, d] A = .ok (.bl true) A := by
 unfold zgE at h
 rw [Bool.and_eq_true] at h
 obtain ⟨A1, e⟩ := znl h.2
 exact zbH h.1 rfl e
noncomputable def zfK (k : Nat) (ws : List W) (d : W) : Bool := match lamF LS k ws [] with
 | .ok w A1 => zgE w d && (match lamF LS k ws A1 with
  | .ok w2 _ => zgE w2 d
  | _ => false)
 | _ => false
theorem zjT {k : Nat} {ws : List W} {d : W} (h : zfK k ws d = true) : ∃ w A1 w2 A2, lamF LS k ws [] = .ok w A1 /\ zgE w d = true /\ lamF LS k ws A1 = .ok w2 A2 /\ zgE w2 d = true := by
 unfold zfK at h
 cases e1 : lamF LS k ws [] with
 | ok w A1 =>
  rw [e1] at h
  dsimp only at h
  rw [Bool.and_eq_true] at h
  cases e2 : lamF LS k ws A1 with
  | ok w2 A2 => rw [e2] at h; exact ⟨w, A1, w2, A2, rfl, h.1, e2, h.2⟩
  | exc _ _ => rw [e2] at h; exact Bool.noConfusion h.2
  | bad => rw [e2] at h; exact Bool.noConfusion h.2
 | exc _ _ => rw [e1] at h; exact Bool.noConfusion h
 | bad => rw [e1] at h; exact Bool.noConfusion h
noncomputable def isTup (d : W) : Bool := match d with
 | .tup _ => true
 | _ => false
theorem zfT {d : W} (h : isTup d = true) : ∃ ds, d = .tup ds := by
 cases d with
 | tup ds => exact ⟨ds, rfl⟩
 | _ => exact Bool.noConfusion h
noncomputable def okB (k : Nat) (ws : List W) (d : W) : Bool := nrs ws && (d.nr && (if isTup d then zfK k ws d else isNo (lamF LS k ws [])))
noncomputable def f0R : Fn := λ us A => match us with
 | [.clo k ws _, d] => if (isTup d || ziS d) && okB k ws d then .ok (.bl true) A else .bad
 | _ => .bad
noncomputable def fGR (PG : PFam) : Fn := iso (zbY PG (lamF LS))
section
variable {PG : PFam} {k : Nat} {ws : List W} {A : Hx} {d : W}
theorem zlG (ρ : En) : mClo 0 PG (lamF LS) (some (.clo k ws (PG k)) :: ρ) A = lamF LS k ws A := by
 unfold mClo
 exact if_pos rfl
theorem zmn {ds : List W} (h : zfK k ws (.tup ds) = true) : ∃ A2, zbY PG (lamF LS) [.clo k ws (PG k), .tup ds] [] = .ok (.bl true) A2 := by
 obtain ⟨w, A1, w2, A2, e1, s1, e2, s2⟩ := zjT h
 refine ⟨A2, zaq ?_⟩
 unfold zbZ
 refine (zu (ρ1 := [some (.clo k ws (PG k)), some (.tup ds)]) (A1 := []) ((zdf (A1 := []) rfl).trans rfl)).trans (zaj (zaw ?_))
 have c1 : zgc 0 PG (lamF LS) [some (.clo k ws (PG k)), some (.tup ds)] [] = .ok w A1 := by
  unfold zgc; rw [zlG, e1]; rfl
 have c2 : zgc 0 PG (lamF LS) [some (.clo k ws (PG k)), some (.tup ds)] A1 = .ok w2 A2 := by
  unfold zgc; rw [zlG, e2]; rfl
 rw [zfF (A1 := A1) ((zQ (ws := [w, .tup ds]) (A1 := A1) (zay c1 rfl)).trans (zki s1 A1))]
 exact (zQ (ws := [w2, .tup ds]) (A1 := A2) (zay c2 rfl)).trans (zki s2 A2)
theorem eqmm : gEq (.ref 0) (.ref 1) [.lst [.int 11], .lst [.int 11]] = .ok (.bl true) [.lst [.int 11], .lst [.int 11]] := by kernel_rfl
theorem zjz : zdm "TooMany" = some 11 := by decide +kernel
theorem znc (hn : nrs ws = true) (h : isNo (lamF LS k ws []) = true) : ∃ A2, zbY PG (lamF LS) [.clo k ws (PG k), .non] [] = .ok (.bl true) A2 := by
 refine ⟨[.lst [.int 11], .lst [.int 11]], zaq ?_⟩
 unfold zbZ
 refine zaj ((zfq (A1 := []) rfl).trans (zaj (zaw ?_)))
 have e : iso (runB 4 (zaE PG (lamF LS))) [.clo k ws (PG k)] [] = .ok (.ref 0) [.lst [.int 11]] := by
  unfold iso
  have hn1 : nrs [W.clo k ws (PG k)] = true := by
   show (nrs ws && true) = true
   rw [hn]; rfl
  rw [if_pos hn1, zjX (zl6 h) zjz]
  rfl
 refine (zL (x := .ref 0) (y := .ref 1) (A1 := [.lst [.int 11]]) (A2 := [.lst [.int 11], .lst [.int 11]]) ((zQ (ws := [.clo k ws (PG k)]) (A1 := []) rfl).trans e) rfl).trans ?_
 exact eqmm
theorem zlo (PG : PFam) (us : List W) (A : Hx) : f0R us A = .bad ∨ fGR PG (us.map (zfk PG)) A = f0R us A := by
 by_cases hb : f0R us A = .bad
 ·exact .inl hb
 right
 unfold f0R at hb ⊢
 split at hb
 ·rename_i k ws P d
  by_cases hc : ((isTup d || ziS d) && okB k ws d) = true
  ·rw [if_pos hc]
   rw [Bool.and_eq_true, Bool.or_eq_true] at hc
   obtain ⟨hd, hk⟩ := hc
   unfold okB at hk
   rw [Bool.and_eq_true, Bool.and_eq_true] at hk
   obtain ⟨h1, h2, h3⟩ := hk
   have hr : ([W.clo k ws P, d].map (zfk PG)) = [.clo k ws (PG k), d] := by
    have : zfk PG d = d := by
     rcases hd with z | z
     ·obtain ⟨ds, rfl⟩ := zfT z; rfl
     ·cases d <;> first | rfl | exact Bool.noConfusion z
    show [zfk PG (.clo k ws P), zfk PG d] = _
    rw [this]; rfl
   rw [hr]
   have hn : nrs [W.clo k ws (PG k), d] = true := by
    show (nrs ws && (d.nr && true)) = true
    rw [h1, h2]; rfl
   rcases hd with z | z
   ·rw [if_pos z] at h3
    obtain ⟨ds, rfl⟩ := zfT z
    obtain ⟨A2, e⟩ := zmn (PG := PG) h3
    exact zbH hn rfl e
   ·have : d = .non := by cases d <;> first | rfl | exact Bool.noConfusion z
    subst this
    obtain ⟨A2, e⟩ := znc (PG := PG) h1 h3
    exact zbH hn rfl e
  ·rw [if_neg hc] at hb; exact absurd rfl hb
 ·exact absurd rfl hb
end
structure HOk (ns : List Int) (Pt : Addr) (n : Nat) (A : Hx) : Prop where
 h0 : A[0]? = some (.ro (ns.map W.int))
 h1 : A[1]? = some (.tab zW Pt)
 two : 2 <= n
 st : StOk n A
section
variable {ns : List Int} {Pt : Addr} {n : Nat} {A : Hx}
theorem HOk.lt (h : HOk ns Pt n A) : n < A.length := by obtain ⟨c, b, e, _⟩ := h.st; exact (List.getElem?_eq_some_iff.mp e).1
theorem HOk.app (h : HOk ns Pt n A) (o : O) : HOk ns Pt n (A ++ [o]) := ⟨zcL h.h0, zcL h.h1, h.two, let ⟨c, b, e, r⟩ := h.st; ⟨c, b, zcL e, r⟩⟩
theorem HOk.put (h : HOk ns Pt n A) {k : Nat} (hk : n < k) (o : O) : HOk ns Pt n (A.set k o) := by
 have := h.two
 refine ⟨?_, ?_, h.two, ?_⟩
 ·rw [List.getElem?_set_ne (by omega)]; exact h.h0
 ·rw [List.getElem?_set_ne (by omega)]; exact h.h1
 ·obtain ⟨c, b, e, r⟩ := h.st
  exact ⟨c, b, by rw [List.getElem?_set_ne (by omega)]; exact e, r⟩
theorem zlK (h : HOk ns Pt n A) {m : Int} (h1 : 0 < m) (h2 : m < 1000) : ∃ (r : Nat) (A' : Hx), zad [.ref n, .int m] A = .ok (.int r) A' /\ (r : Int) < m /\ HOk ns Pt n A' /\ ∀ i, i ≠ n -> A'[i]? = A[i]? := by
 obtain ⟨r, o, e, a, b, s⟩ := zhi h.st h1 h2
 have := h.two
 refine ⟨r.toNat, A.set n o, ?_, by omega, ⟨?_, ?_, h.two, s⟩, λ i hi => List.getElem?_set_ne (Ne.symm hi)⟩
 ·rw [e, Int.toNat_of_nonneg a]
 ·rw [List.getElem?_set_ne (by omega)]; exact h.h0
 ·rw [List.getElem?_set_ne (by omega)]; exact h.h1
theorem zhx (h : HOk ns Pt n A) {ρ : En} {k : Nat} {PF : PFam} : mLam 1 zW Pt k (PF k) ρ A = .ok (.clo k [] (PF k)) A := by
 unfold mLam
 rw [h.h1]
 dsimp only
 rw [if_pos ⟨rfl, rfl⟩]
end
section
variable {ns : List Int} {Pt : Addr} {m : Nat} {A A' : Hx}
theorem HOk.ext (h : HOk ns Pt m A) (x : Ext A A') : HOk ns Pt m A' := ⟨x.at h.h0, x.at h.h1, h.two, let ⟨a, b, e, r⟩ := h.st; ⟨a, b, x.at e, r⟩⟩
end
section
variable {ns : List Int} {Pt : Addr} {n k : Nat} {A : Hx} {PF : PFam} {ρ : En} {t : Lm} {ws : List W} {d : W} {mm : Ev}
theorem zeO (H : HOk ns Pt n A) (ht : LS[k]? = some t) (hc : capE t.idx ρ = some ws) (hm : mm ρ A = .ok d A) (hd : (isTup d || ziS d) = true) (hr : okB k ws d = true) :
  zeo LS PF f0R (zc (mLam 1 zW Pt k (PF k)) (zc mm (aNil))) ρ A = .ok (.bl true) A := by
 unfold zeo
 rw [zay (zhx H) (zay hm rfl), zr]
 have hw : capW LS PF ρ d = some d := by
  rcases Bool.or_eq_true_iff.mp hd with z | z
  ·obtain ⟨ds, rfl⟩ := zfT z; rfl
  ·cases d <;> first | rfl | exact Bool.noConfusion z
 have hk : capW LS PF ρ (.clo k [] (PF k)) = some (.clo k ws (PF k)) := by
  unfold capW
  refine (if_pos rfl).trans ?_
  rw [ht]
  dsimp only
  rw [hc]; rfl
 have e : ze3 LS PF ρ [.clo k [] (PF k), d] = some [.clo k ws (PF k), d] := by
  unfold ze3
  rw [hk]
  unfold ze3
  rw [hw]
  rfl
 rw [e]
 dsimp only
 unfold f0R
 exact if_pos (by rw [hd, hr]; rfl)
end
section
variable {s t : List (List Int)}
theorem zmV {L : Nat} (hL : L <= 8) (f : Nat -> Nat -> Int) : zgE (sqW L f) (sqW L f) = true := by
 unfold zgE
 have e : zdy [sqW L f, sqW L f] [] = .ok (.bl true) [] := zit (by simp; omega) λ w hw => by
  obtain ⟨p, _, rfl⟩ := List.mem_map.mp hw
  exact zpH hL (f p) []
 rw [e]
 show (((sqW L f).nr && ((sqW L f).nr && true)) && true) = true
 rw [ziv]; rfl
theorem zlN {k L : Nat} {f : Nat -> Nat -> Int} {ws : List W} (hn : nrs ws = true) (hL : L <= 8) {G : Hx -> Hx} (h : ∀ A, lamF LS k ws A = .ok (sqW L f) (G A)) : okB k ws (sqW L f) = true := by
 unfold okB
 have hr : zfK k ws (sqW L f) = true := by
  unfold zfK
  rw [h []]
  dsimp only
  rw [h]
  dsimp only
  rw [zmV hL]; rfl
 have ht : isTup (sqW L f) = true := rfl
 rw [hn, ziv, if_pos ht, hr]
 rfl
theorem zjU {k : Nat} {ws : List W} (hn : nrs ws = true) (h : lamF LS k ws [] = .exc "TooMany" []) : okB k ws .non = true := by
 unfold okB
 rw [hn, h]
 show (true && (true && isNo (R.exc "TooMany" []))) = true
 decide +kernel
end
section
variable {A : Hx}
theorem zd4 {ls : List Lm} {k : Nat} {t : Lm} {ws : List W} (h : ls[k]? = some t) : lamF ls k ws A = t.m (ws.map some) A := by unfold lamF; rw [h]
end
section
variable {s t : List (List Int)}
theorem lam0 {x y : W} (A : Hx) : lamF LS 0 [x, y] A = zab [x, y] A := by
 rw [zd4 (t := zdz zab zaa) rfl]
 unfold zdz lmOf
 dsimp only
 exact zQ (f := zab) (ws := [x, y]) (A1 := A) rfl
theorem lam1 {x y : W} (A : Hx) : lamF LS 1 [x, y] A = zaa [x, y] A := by
 rw [zd4 (t := zdB zab zaa) rfl]
 unfold zdB lmOf
 dsimp only
 exact zQ (f := zaa) (ws := [x, y]) (A1 := A) rfl
theorem lam2 {x y : W} (A : Hx) : lamF LS 2 [x, y] A = zab [x, y] A := by
 rw [zd4 (t := zd3 zab zaa) rfl]
 unfold zd3 lmOf
 dsimp only
 exact zQ (f := zab) (ws := [x, y]) (A1 := A) rfl
theorem lam3 {x y : W} (A : Hx) : lamF LS 3 [x, y] A = zab [y, x] A := by
 rw [zd4 (t := zd6 zab zaa) rfl]
 unfold zd6 lmOf
 dsimp only
 exact zQ (f := zab) (ws := [y, x]) (A1 := A) rfl
theorem lam4 {x y : W} (A : Hx) : lamF LS 4 [x, y] A = zaa [x, y] A := by
 rw [zd4 (t := zed zab zaa) rfl]
 unfold zed lmOf
 dsimp only
 exact zQ (f := zaa) (ws := [x, y]) (A1 := A) rfl
theorem lam5 {x y : W} (A : Hx) : lamF LS 5 [x, y] A = zaa [y, x] A := by
 rw [zd4 (t := zdZ zab zaa) rfl]
 unfold zdZ lmOf
 dsimp only
 exact zQ (f := zaa) (ws := [y, x]) (A1 := A) rfl
theorem ok0 (hs : TabL s) (ht : TabL t) (hf : s.length * t.length <= 8) : okB 0 [tabW s, tabW t] (sqW (s.length * t.length) (besV s t)) = true := zlN (zd1 s t) hf λ A => (lam0 A).trans (zk3 hs ht hf A)
theorem ok1 (hs : TabL s) (ht : TabL t) (hf : s.length * t.length <= 8) : okB 1 [tabW s, tabW t] (sqW (s.length * t.length) (witV s t)) = true := zlN (zd1 s t) hf λ A => (lam1 A).trans (zlr hs ht hf A)
theorem no0 (hs : TabL s) (ht : TabL t) (hf : 8 < s.length * t.length) : okB 0 [tabW s, tabW t] .non = true := zjU (zd1 s t) ((lam0 []).trans (zlp hs ht hf []))
theorem no1 (hs : TabL s) (ht : TabL t) (hf : 8 < s.length * t.length) : okB 1 [tabW s, tabW t] .non = true := zjU (zd1 s t) ((lam1 []).trans (zky hs ht hf []))
end
end G
namespace Mi
open PySem L2
noncomputable def tabB (t : List (List Int)) : Bool := decide (1 <= t.length) && (decide (t.length <= 8) && ((t.all λ r => r.length == t.length && r.all λ v => decide (0 <= v) && decide (v < (t.length : Int))) &&
 (((List.range t.length).all λ a => (List.range t.length).all λ b => (decide (at2 t a b = 0) == decide (a = b)) && decide (at2 t a b = at2 t b a)) && (List.range 8).all λ k => !(t.flatten.any λ v => decide ((k : Int) < v)) || t.flatten.contains (k : Int))))
theorem zl5 {t : List (List Int)} (h : tabB t = true) : TabL t := by
 unfold tabB at h
 rw [Bool.and_eq_true, Bool.and_eq_true, Bool.and_eq_true, Bool.and_eq_true, decide_eq_true_iff, decide_eq_true_iff] at h
 obtain ⟨n1, n8, hr, hs, hf⟩ := h
 have rw_ : ∀ r ∈ t, r.length = t.length /\ ∀ v ∈ r, 0 <= v /\ v < (t.length : Int) := λ r hm => by
  have := List.all_eq_true.mp hr r hm
  rw [Bool.and_eq_true, beq_iff_eq] at this
  refine ⟨this.1, λ v hv => ?_⟩
  have := List.all_eq_true.mp this.2 v hv
  rw [Bool.and_eq_true, decide_eq_true_iff, decide_eq_true_iff] at this
  exact this
 have at_ : ∀ a b, a < t.length -> b < t.length -> (decide (at2 t a b = 0) == decide (a = b)) = true /\ at2 t a b = at2 t b a := λ a b ha hb => by
  have := List.all_eq_true.mp (List.all_eq_true.mp hs a (List.mem_range.mpr ha)) b (List.mem_range.mpr hb)
  rw [Bool.and_eq_true, decide_eq_true_iff] at this
  exact this
 refine ⟨n1, n8, λ r hm => (rw_ r hm).1, λ r hm => (rw_ r hm).2, λ a b ha hb => ?_, λ a b ha hb => (at_ a b ha hb).2, λ k hk => ?_⟩
 ·have := beq_iff_eq.mp (at_ a b ha hb).1
  by_cases q : a = b
  ·rw [decide_eq_true q] at this; exact ⟨λ _ => q, λ _ => of_decide_eq_true this⟩
  ·rw [decide_eq_false q] at this; exact ⟨λ z => absurd z (of_decide_eq_false this), λ z => absurd z q⟩
 ·obtain ⟨v, hv, hlt⟩ := hk
  obtain ⟨r, hm, hv'⟩ := List.mem_flatten.mp hv
  have := (rw_ r hm).2 v hv'
  have h8 := List.all_eq_true.mp hf k (List.mem_range.mpr (by omega))
  rw [Bool.or_eq_true] at h8
  rcases h8 with z | z
  ·exfalso
   have : (t.flatten.any λ v => decide ((k : Int) < v)) = true := List.any_eq_true.mpr ⟨v, hv, decide_eq_true hlt⟩
   rw [this] at z
   cases z
  ·exact List.contains_iff_mem.mp z
end Mi
namespace G
open PySem L2 Mi
noncomputable def smT : Nat -> List (List Int)
 | 0 => [[0, 1], [1, 0]]
 | 1 => [[0, 1, 1], [1, 0, 1], [1, 1, 0]]
 | 2 => [[0, 1, 2, 1], [1, 0, 1, 2], [2, 1, 0, 1], [1, 2, 1, 0]]
 | 3 => [[0, 1, 1, 1], [1, 0, 1, 1], [1, 1, 0, 1], [1, 1, 1, 0]]
 | 4 => [[0, 1, 2, 3], [1, 0, 3, 2], [2, 3, 0, 1], [3, 2, 1, 0]]
 | _ => (List.range 8).map λ i => (List.range 8).map λ j => if i = j then 0 else 1
theorem zmg : ((List.range 6).all λ i => tabB (smT i)) = true := by decide +kernel
theorem zj9 {i : Nat} (h : i < 6) : TabL (smT i) := zl5 (List.all_eq_true.mp zmg i (List.mem_range.mpr h))
section
variable (A : Hx)
theorem zoZ : zaf [.int 2] A = .ok (tabW (smT 0)) A := zbH (A1 := []) rfl (zbb _) (by kernel_rfl)
theorem zoq : zaf [.int 3] A = .ok (tabW (smT 1)) A := zbH (A1 := []) rfl (zbb _) (by kernel_rfl)
theorem zph : zbm [.int 4] A = .ok (tabW (smT 2)) A := zbH (A1 := []) rfl (zbb _) (by kernel_rfl)
theorem zow : zaf [.int 4] A = .ok (tabW (smT 3)) A := zbH (A1 := []) rfl (zbb _) (by kernel_rfl)
theorem own2 : zaP [.int 2] A = .ok (tabW (smT 4)) A := zbH (A1 := []) rfl (zbb _) (by kernel_rfl)
theorem zot : zaf [.int 8] A = .ok (tabW (smT 5)) A := zbH (A1 := []) rfl (zbb _) (by kernel_rfl)
end
theorem zmW {A0 : Hx} (h : StOk 0 A0) (hl : A0.length = 1) : ∃ t A1, zc1 [.ref 0] A0 = .ok (tabW t) A1 /\ StOk 0 A1 /\ TabL t /\ t.length <= 4 := by
 obtain ⟨r, o, e1, r0, r1, s1⟩ := zhi h (m := 5) (by decide) (by decide)
 obtain ⟨q, rfl⟩ := Int.eq_ofNat_of_zero_le r0
 have hl1 : (A0.set 0 o).length = 1 := by rw [List.length_set]; exact hl
 generalize A0.set 0 o = A1 at e1 s1 hl1
 refine ⟨smT q, A1 ++ [.lst [tabW (smT 0), tabW (smT 1), tabW (smT 2), tabW (smT 3), tabW (smT 4)]], ?_, ?_, zj9 (by omega), ?_⟩
 ·unfold zc1
  refine zaq ?_
  unfold zc3
  refine (zu (ρ1 := [some (.ref 0), some (.int (q : Int))]) (A1 := A1) ((zap ((zQ (ws := [.ref 0, .int 5]) (A1 := A0) rfl).trans e1)).trans rfl)).trans (zaj (zaw ?_))
  have ea : (zc (zt zaf (zc (mLit (.int 2)) (aNil))) (zc (zt zaf (zc (mLit (.int 3)) (aNil))) (zc (zt zbm (zc (mLit (.int 4)) (aNil))) (zc (zt zaf (zc (mLit (.int 4)) (aNil))) (zc (zt zaP (zc (mLit (.int 2)) (aNil))) (aNil)))))) [some (.ref 0), some (.int (q : Int))] A1 =
    .ok [tabW (smT 0), tabW (smT 1), tabW (smT 2), tabW (smT 3), tabW (smT 4)] A1 :=
   zay ((zQ (ws := [.int 2]) (A1 := A1) rfl).trans (zoZ A1)) (zay ((zQ (ws := [.int 3]) (A1 := A1) rfl).trans (zoq A1)) (zay ((zQ (ws := [.int 4]) (A1 := A1) rfl).trans (zph A1)) (zay ((zQ (ws := [.int 4]) (A1 := A1) rfl).trans (zow A1)) (zay ((zQ (ws := [.int 2]) (A1 := A1) rfl).trans (own2 A1)) zjo))))
  refine (zL (zbN ea) (zo (i := 1) rfl)).trans (zfU zcd ?_)
  rcases (show q = 0 ∨ q = 1 ∨ q = 2 ∨ q = 3 ∨ q = 4 by omega) with rfl | rfl | rfl | rfl | rfl <;> rfl
 ·obtain ⟨c, b, e, r⟩ := s1
  exact ⟨c, b, zcL e, r⟩
 ·rcases (show q = 0 ∨ q = 1 ∨ q = 2 ∨ q = 3 ∨ q = 4 by omega) with rfl | rfl | rfl | rfl | rfl <;> decide
theorem zmQ {m : Nat} {A : Hx} (h : StOk m A) : ∃ t o, zaD [.ref m] A = .ok (tabW t) (A.set m o) /\ StOk m (A.set m o) /\ TabL t /\ t.length <= 4 := by
 obtain ⟨c, b, hA, hc, hb⟩ := h
 have hm : m < A.length := (List.getElem?_eq_some_iff.mp hA).1
 obtain ⟨t, A1, e, ⟨c', b', e', hc', hb'⟩, tb, tl⟩ := zmW (A0 := [.lst [.int c, .bl b]]) ⟨c, b, rfl, hc, hb⟩ rfl
 refine ⟨t, .lst [.int c', .bl b'], ?_, ⟨c', b', List.getElem?_set_self hm, hc', hb'⟩, tb, tl⟩
 unfold zaD isoL
 dsimp only
 rw [hA]
 dsimp only
 have h1 : (nrs [W.int c, W.bl b] && nrs ([] : List W)) = true := rfl
 rw [if_pos h1, e]
 dsimp only
 rw [List.head?_eq_getElem?, e']
 dsimp only
 have h2 : (nrs [W.int c', W.bl b'] && (tabW t).nr) = true := by rw [zbb]; rfl
 rw [if_pos h2]
end G
namespace G
open PySem L2 Mi
section
variable {s t : List (List Int)} {w : W} {A B : Hx} {m : Nat}
noncomputable def NoT (w : W) (B : Hx) : Prop := zah [w] B = .ok (.bl false) B
theorem zgN (h : NoT w B) : zba [w] B = .exc "NoTable" B := by
 refine zb2 ?_
 unfold zbg
 exact zbx ((zfq (A1 := B) (zfC (zc6 (k := false) ((zQ (ws := [w]) (A1 := B) rfl).trans h)))).trans (zbx rfl))
theorem zlY (h : NoT w B) (v : W) : zae [w, v] B = .exc "NoTable" B := by
 refine zb2 ?_
 unfold zan
 exact zbx (zd8 ((zQ (ws := [w]) (A1 := B) rfl).trans (zgN h)))
theorem zlW (hs : TabL s) (h : NoT w B) : zae [tabW s, w] B = .exc "NoTable" B := by
 refine zb2 ?_
 unfold zan
 refine (zu (ρ1 := [some (tabW s), some w]) (A1 := B) (zdM ((zQ (ws := [tabW s]) (A1 := B) rfl).trans (zcZ hs B)))).trans ?_
 exact zbx (zd8 ((zQ (ws := [w]) (A1 := B) rfl).trans (zgN h)))
theorem zhp {u v : W} (h : zae [u, v] B = .exc "NoTable" B) : zab [u, v] B = .exc "NoTable" B := by
 refine zb2 ?_
 unfold zbC
 exact zbx (zd8 ((zQ (ws := [u, v]) (A1 := B) rfl).trans h))
theorem zgU {u v : W} (h : zae [u, v] B = .exc "NoTable" B) : zaa [u, v] B = .exc "NoTable" B := by
 refine zb2 ?_
 unfold zbz
 exact zbx (zd8 ((zQ (ws := [u, v]) (A1 := B) rfl).trans h))
noncomputable abbrev r2 (a b : Int) : W := .tup [.int a, .int b]
noncomputable def badL (m : Nat) : List W := [.non, .int 0, .tup [], .tup [.tup [.int 1]], .tup [r2 0 1, r2 1 0, r2 0 0], .tup [r2 0 2, r2 2 0], .tup [r2 0 1, r2 2 0], .ref m]
noncomputable def badR (m : Nat) : List W := [.tup [r2 0 0, r2 0 0], .tup [.tup [.int 0, .bl true], .tup [.bl true, .int 0]], .tup [r2 0 1, .ref (m + 2)], .tup [r2 0 1], .str "01/10", .ref (m + 3), .tup (List.replicate 9 (.tup (List.replicate 9 (.int 0))))]
structure BH (m : Nat) (B : Hx) : Prop where
 a : B[m]? = some (.lst [r2 0 1, r2 1 0])
 b : B[m + 2]? = some (.lst [.int 1, .int 0])
 c : B[m + 3]? = some (.dct [])
theorem zoz {k : Nat} {ty : Ty} (h : tyW (.ref k) B = some ty) (ht : subT ty .tup = false) : NoT (.ref k) B := by
 unfold NoT zah zc8
 refine zaq ?_
 unfold zcc
 refine zaj ((zfq (A1 := B) ?_).trans (zaj (zaw rfl)))
 refine zpD (A1 := B) ?_
 refine zc6 (k := false) ?_
 unfold mIs
 rw [zo (w := .ref k) rfl, zr, h]
 dsimp only
 rw [ht]
theorem zmG (h : BH m B) : NoT (.tup [r2 0 1, .ref (m + 2)]) B := by
 have ht : tyW (.ref (m + 2)) B = some .lst := by unfold tyW; dsimp only; rw [h.b]
 have e2 : zag [.ref (m + 2), .int 2, .int 2] B = .ok (.bl false) B := by
  unfold zag zbv
  refine zaq ?_
  unfold za4
  refine zaj (zaw ?_)
  refine zlQ (A1 := B) ((zQ (ws := [.ref (m + 2), .int 2]) (A1 := B) rfl).trans ?_)
  unfold zbc zds
  refine zaq ?_
  unfold zcA
  refine zaj (zaw ?_)
  refine zlQ (A1 := B) ?_
  unfold mIs
  rw [zo (w := .ref (m + 2)) rfl, zr, ht]
  rfl
 have e1 : zag [r2 0 1, .int 2, .int 2] B = .ok (.bl true) B := zjM (r := [0, 1]) (by decide) (by decide) B
 unfold NoT zah zc8
 refine zaq ?_
 unfold zcc
 refine (zu (ρ1 := [some (.tup [r2 0 1, .ref (m + 2)]), none]) (A1 := B) rfl).trans ?_
 refine (zu (ρ1 := [some (.tup [r2 0 1, .ref (m + 2)]), some (.int 2)]) (A1 := B) rfl).trans ?_
 have ec := zdI (cap := [1]) (A := B) (ρ := [some (.tup [r2 0 1, .ref (m + 2)]), some (.int 2)]) (ws := [r2 0 1, .ref (m + 2)]) (me := zt zag (zc (mVar 0) (zc (mVar 1) (zc (mVar 1) (aNil))))) (g := λ w => match w with | .ref _ => .bl false | _ => .bl true) (zo (i := 0) rfl) (by show 2 <= zR; decide) (λ w hw => by
  rcases List.mem_cons.mp hw with rfl | hw
  ·exact (zQ (ws := [r2 0 1, .int 2, .int 2]) (A1 := B) rfl).trans e1
  ·rcases List.mem_cons.mp hw with rfl | hw
   ·exact (zQ (ws := [.ref (m + 2), .int 2, .int 2]) (A1 := B) rfl).trans e2
   ·cases hw)
 refine zaj ((zfq (A1 := B) (zc6 (k := false) ((zcC ec).trans rfl))).trans (zaj (zaw rfl)))
theorem n0 (B : Hx) : zah [.non] B = .ok (.bl false) B := by kernel_rfl
theorem n1 (B : Hx) : zah [.int 0] B = .ok (.bl false) B := by kernel_rfl
theorem n2 (B : Hx) : zah [.tup []] B = .ok (.bl false) B := by kernel_rfl
theorem n3 (B : Hx) : zah [.tup [.tup [.int 1]]] B = .ok (.bl false) B := by kernel_rfl
theorem n4 (B : Hx) : zah [.tup [r2 0 1, r2 1 0, r2 0 0]] B = .ok (.bl false) B := by kernel_rfl
theorem n5 (B : Hx) : zah [.tup [r2 0 2, r2 2 0]] B = .ok (.bl false) B := by kernel_rfl
theorem n6 (B : Hx) : zah [.tup [r2 0 1, r2 2 0]] B = .ok (.bl false) B := by kernel_rfl
theorem n8 (B : Hx) : zah [.tup [r2 0 0, r2 0 0]] B = .ok (.bl false) B := by kernel_rfl
theorem n9 (B : Hx) : zah [.tup [.tup [.int 0, .bl true], .tup [.bl true, .int 0]]] B = .ok (.bl false) B := by kernel_rfl
theorem n11 (B : Hx) : zah [.tup [r2 0 1]] B = .ok (.bl false) B := by kernel_rfl
theorem n12 (B : Hx) : zah [.str "01/10"] B = .ok (.bl false) B := by kernel_rfl
theorem n14 (B : Hx) : zah [.tup (List.replicate 9 (.tup (List.replicate 9 (.int 0))))] B = .ok (.bl false) B := by kernel_rfl
theorem zgo (h : BH m B) : ∀ w ∈ badL m ++ badR m, NoT w B := by
 have a7 : NoT (.ref m) B := zoz (ty := .lst) (by unfold tyW; dsimp only; rw [h.a]) rfl
 have a13 : NoT (.ref (m + 3)) B := zoz (ty := .dct) (by unfold tyW; dsimp only; rw [h.c]) rfl
 intro w hw
 simp only [badL, badR, List.cons_append, List.nil_append, List.mem_cons, List.not_mem_nil, or_false] at hw
 rcases hw with rfl | rfl | rfl | rfl | rfl | rfl | rfl | rfl | rfl | rfl | rfl | rfl | rfl | rfl | rfl
 ·exact n0 B
 ·exact n1 B
 ·exact n2 B
 ·exact n3 B
 ·exact n4 B
 ·exact n5 B
 ·exact n6 B
 ·exact a7
 ·exact n8 B
 ·exact n9 B
 ·exact zmG h
 ·exact n11 B
 ·exact n12 B
 ·exact a13
 ·exact n14 B
end
section
variable {ns : List Int} {Pt : Addr} {n m : Nat} {A B : Hx}
theorem BH.keep {B' : Hx} (h : BH m B) (k : ∀ i, m <= i -> i < m + 4 -> B'[i]? = B[i]?) : BH m B' := ⟨by rw [k m (by omega) (by omega)]; exact h.a, by rw [k (m + 2) (by omega) (by omega)]; exact h.b, by rw [k (m + 3) (by omega) (by omega)]; exact h.c⟩
theorem BH.ext {B' : Hx} (h : BH m B) (x : Ext B B') : BH m B' := ⟨x.at h.a, x.at h.b, x.at h.c⟩
theorem BH.lt (h : BH m B) : m + 3 < B.length := (List.getElem?_eq_some_iff.mp h.c).1
theorem BH.put (h : BH m B) {k : Nat} (hk : m + 3 < k) (o : O) : BH m (B.set k o) := h.keep λ i h1 h2 => List.getElem?_set_ne (by omega)
noncomputable def bX (m : Nat) : Hx := [.lst [r2 0 1, r2 1 0], .lst (badL m), .lst [.int 1, .int 0], .dct [], .lst (badR m), .lst (badL m ++ badR m)]
theorem zmU (n : Nat) (A : Hx) : xSet 1 (mLst (zc (mLit .non) (zc (mLit (.int 0)) (zc (mTup (aNil)) (zc (mTup (zc (mTup (zc (mLit (.int 1)) (aNil))) (aNil))) (zc (mTup (zc (mTup (zc (mLit (.int 0)) (zc (mLit (.int 1)) (aNil)))) (zc (mTup (zc (mLit (.int 1)) (zc (mLit (.int 0)) (aNil)))) (zc (mTup (zc (mLit (.int 0)) (zc (mLit (.int 0)) (aNil)))) (aNil))))) (zc (mTup (zc (mTup (zc (mLit (.int 0)) (zc (mLit (.int 2)) (aNil)))) (zc (mTup (zc (mLit (.int 2)) (zc (mLit (.int 0)) (aNil)))) (aNil)))) (zc (mTup (zc (mTup (zc (mLit (.int 0)) (zc (mLit (.int 1)) (aNil)))) (zc (mTup (zc (mLit (.int 2)) (zc (mLit (.int 0)) (aNil)))) (aNil)))) (zc (mLst (zc (mTup (zc (mLit (.int 0)) (zc (mLit (.int 1)) (aNil)))) (zc (mTup (zc (mLit (.int 1)) (zc (mLit (.int 0)) (aNil)))) (aNil)))) (aNil)))))))))) [some (.ref n), none] A = .ok (.nx [some (.ref n), some (.ref (A ++ [O.lst [r2 0 1, r2 1 0]]).length)]) (A ++ [O.lst [r2 0 1, r2 1 0]] ++ [O.lst (badL A.length)]) := by kernel_rfl
noncomputable def zo3 (m k : Nat) : List W := [.tup [r2 0 0, r2 0 0], .tup [.tup [.int 0, .bl true], .tup [.bl true, .int 0]], .tup [r2 0 1, .ref m], .tup [r2 0 1], .str "01/10", .ref k, .tup (List.replicate 9 (.tup (List.replicate 9 (.int 0))))]
theorem zmT (n k : Nat) (A : Hx) : mLst (zc (mTup (zc (mTup (zc (mLit (.int 0)) (zc (mLit (.int 0)) (aNil)))) (zc (mTup (zc (mLit (.int 0)) (zc (mLit (.int 0)) (aNil)))) (aNil)))) (zc (mTup (zc (mTup (zc (mLit (.int 0)) (zc (mLit (.bl true)) (aNil)))) (zc (mTup (zc (mLit (.bl true)) (zc (mLit (.int 0)) (aNil)))) (aNil)))) (zc (mTup (zc (mTup (zc (mLit (.int 0)) (zc (mLit (.int 1)) (aNil)))) (zc (mLst (zc (mLit (.int 1)) (zc (mLit (.int 0)) (aNil)))) (aNil)))) (zc (mTup (zc (mTup (zc (mLit (.int 0)) (zc (mLit (.int 1)) (aNil)))) (aNil))) (zc (mLit (.str "01/10")) (zc (mDct) (zc (mBin zfp (mTup (zc (mBin zfp (mTup (zc (mLit (.int 0)) (aNil))) (mLit (.int 9))) (aNil))) (mLit (.int 9))) (aNil)))))))) [some (.ref n), some (.ref k)] A = .ok (.ref (A ++ [O.lst [.int 1, .int 0]] ++ [O.dct []]).length) (A ++ [O.lst [.int 1, .int 0]] ++ [O.dct []] ++ [O.lst (zo3 A.length (A ++ [O.lst [.int 1, .int 0]]).length)]) := by kernel_rfl
theorem zn1 (h : HOk ns Pt n A) : ∃ (w : W) (A' : Hx), zao [.ref n] A = .ok w A' /\ w ∈ badL A.length ++ badR A.length /\ HOk ns Pt n A' /\ BH A.length A' /\ (∀ i, i < A.length -> i ≠ n -> A'[i]? = A[i]?) := by
 have hlt := h.lt
 have hx : Ext A (A ++ bX A.length) := ⟨_, rfl⟩
 have hat : ∀ j, (A ++ bX A.length)[A.length + j]? = (bX A.length)[j]? := λ j => by rw [List.getElem?_append_right (by omega), show A.length + j - A.length = j by omega]
 obtain ⟨r, A', e, hr, H, k⟩ := zlK (h.ext hx) (m := 15) (by decide) (by decide)
 have hlen : (badL A.length ++ badR A.length).length = 15 := rfl
 have hw : (badL A.length ++ badR A.length)[r]? = some (badL A.length ++ badR A.length)[r] := List.getElem?_eq_getElem (by omega)
 refine ⟨(badL A.length ++ badR A.length)[r]'(by omega), A', ?_, List.getElem_mem _, H, ?_, λ i hi hn => ?_⟩
 ·unfold zao zcM
  refine zaq ?_
  unfold zbF
  refine (zu (ρ1 := [some (.ref n), some (.ref (A.length + 1))]) (A1 := A ++ [.lst [r2 0 1, r2 1 0], .lst (badL A.length)]) ?_).trans ?_
  ·refine (zmU n A).trans ?_
   rw [List.length_append, List.append_assoc]; rfl
  refine (zu (ρ1 := [some (.ref n), some (.ref (A.length + 5))]) (A1 := A ++ bX A.length) ?_).trans ?_
  ·have e2 := zmT n (A.length + 1) (A ++ [.lst [r2 0 1, r2 1 0], .lst (badL A.length)])
   have hx2 : A ++ [O.lst [r2 0 1, r2 1 0], .lst (badL A.length)] ++ [O.lst [.int 1, .int 0]] ++ [O.dct []] ++ [O.lst (zo3 (A ++ [O.lst [r2 0 1, r2 1 0], .lst (badL A.length)]).length (A ++ [O.lst [r2 0 1, r2 1 0], .lst (badL A.length)] ++ [O.lst [.int 1, .int 0]]).length)] = A ++ [.lst [r2 0 1, r2 1 0], .lst (badL A.length), .lst [.int 1, .int 0], .dct [], .lst (badR A.length)] := by
    rw [List.length_append, List.length_append, List.length_append, List.append_assoc, List.append_assoc, List.append_assoc]
    rfl
   have hl2 : (A ++ [O.lst [r2 0 1, r2 1 0], .lst (badL A.length)] ++ [O.lst [.int 1, .int 0]] ++ [O.dct []]).length = A.length + 4 := by simp
   rw [hx2, hl2] at e2
   have hat2 : ∀ j, (A ++ [.lst [r2 0 1, r2 1 0], .lst (badL A.length), .lst [.int 1, .int 0], .dct [], .lst (badR A.length)] : Hx)[A.length + j]? = ([.lst [r2 0 1, r2 1 0], .lst (badL A.length), .lst [.int 1, .int 0], .dct [], .lst (badR A.length)] : Hx)[j]? := λ j => by rw [List.getElem?_append_right (by omega), show A.length + j - A.length = j by omega]
   refine (zap ((zL (zo (i := 1) rfl) e2).trans (ziu (hat2 1) (hat2 4) (by show 15 <= zR; decide)))).trans ?_
   rw [List.length_append, List.append_assoc]
   rfl
  refine zaj (zaw ?_)
  refine (zL (zo (i := 1) rfl) ((zQ (ws := [.ref n, .int 15]) (A1 := A ++ bX A.length) rfl).trans e)).trans ?_
  refine zfU (ws := badL A.length ++ badR A.length) ?_ hw
  rw [k _ (by omega), hat 5]
  rfl
 ·have b0 : BH A.length (A ++ bX A.length) := ⟨hat 0, hat 2, hat 3⟩
  exact b0.keep λ i h1 h2 => k i (by omega)
 ·rw [k i hn, List.getElem?_append_left hi]
end
end G
namespace Mi
open PySem L2
section
variable {j : Itx} {me : Ev} {c : En} {A A1 : Hx} {f i : Nat} {x : Option W} {w y : W} {acc : List W} {ρ : En} {m : Ev}
theorem ze6 {n : Nat} (h : n < 1000000) : zaO (n : Int) = true := by
 unfold zaO
 rw [Bool.and_eq_true, decide_eq_true_iff, decide_eq_true_iff]
 omega
theorem zj8 (h : j.at_ A i = some none) : emGo j (gVar 0) (mLit (.bl true)) (zN me) f i ρ acc A = .ok (ρ, acc) A := by
 cases f <;> (unfold emGo; rw [h])
theorem zkk (h : j.at_ A i = some (some w)) (he : me (some w :: c) A = .ok y A1) (hl : acc.length < zR) : emGo j (gVar 0) (mLit (.bl true)) (zN me) (f + 1) i (x :: c) acc A = emGo j (gVar 0) (mLit (.bl true)) (zN me) f (i + 1) (some w :: c) (acc ++ [y]) A1 := by
 rw [emGo, h]
 dsimp only [gVar, List.set, mLit]
 rw [zr]
 dsimp only
 have ee : zN me (some w :: c) acc A = .ok (some w :: c, acc ++ [y]) A1 := by
  unfold zN
  rw [he, zr, if_pos hl]
 rw [ee, zr]
theorem zlD {n : Nat} {ws : List W} (h : m ρ A = .ok (.ref n) A1) (hA : A1[n]? = some (.lst ws)) : mIt m ρ A = .ok ⟨λ A i => (zK (.ref n) A).map λ ws => ws[i]?, ws.length⟩ A1 := by
 unfold mIt itOf
 rw [h, zr]
 have e : zK (.ref n) A1 = some ws := by unfold zK; dsimp only; rw [hA]
 rw [e]
theorem zkw {n i : Nat} {ws : List W} (hA : A[n]? = some (.lst ws)) : ((zK (.ref n) A).map λ ws => ws[i]?) = some ws[i]? := by
 have e : zK (.ref n) A = some ws := by unfold zK; dsimp only; rw [hA]
 rw [e]; rfl
theorem zjD {c : Nat} {o u : O} (h : A[c]? = some u) : (A.set c o)[c]? = some o := List.getElem?_set_self (List.getElem?_eq_some_iff.mp h).1
theorem zhb {g : W -> Option PyData} {ws : List W} {d : PyData} {ds : List PyData} (h : g w = some d) (r : allP g ws = some ds) : allP g (w :: ws) = some (d :: ds) := by
 unfold allP
 rw [h, r]
theorem zfL {g : W -> Option PyData} {f : Nat -> W} {d : PyData} : ∀ (n : Nat) (s : Nat), (∀ t, s <= t -> t < s + n -> g (f t) = some d) -> allP g ((List.range' s n).map f) = some (List.replicate n d)
 | 0, _, _ => rfl
 | n + 1, s, h => by
  rw [List.range'_succ, List.map_cons, List.replicate_succ]
  exact zhb (h s (by omega) (by omega)) (zfL n (s + 1) λ t h1 h2 => h t (by omega) (by omega))
theorem zir {g : W -> Option PyData} {w : W} {d : PyData} (h : g w = some d) : ∀ n : Nat, allP g (List.replicate n w) = some (List.replicate n d)
 | 0 => rfl
 | n + 1 => by rw [List.replicate_succ, List.replicate_succ]; exact zhb h (zir h n)
theorem zjE {n k : Nat} {v : Int} (h : A[n]? = some (.lst [.int v])) : toP A (k + 1) (.ref n) = some (.list [.int v]) := by
 unfold toP
 have e : zK (.ref n) A = some [.int v] := by unfold zK; dsimp only; rw [h]
 rw [e]
 cases k <;> rfl
theorem ziF {n k : Nat} {ws : List W} {ds : List PyData} (h : A[n]? = some (.lst ws)) (hd : allP (toP A k) ws = some ds) : toP A (k + 1) (.ref n) = some (.list ds) := by
 unfold toP
 have e : zK (.ref n) A = some ws := by unfold zK; dsimp only; rw [h]
 rw [e]
 dsimp only
 rw [hd]
 rfl
theorem zpf {a b : W} {d : PyData} (ha : toP A 8 a = some d) (hb : toP A 8 b = some d) (hr : PyData.eqv d d = true) : gNe a b A = .ok (.bl false) A := by
 show gEqN true a b A = _
 unfold gEqN
 rw [ha, hb]
 dsimp only
 rw [if_pos rfl, hr]
 rfl
end
end Mi
namespace G
open PySem L2 Mi
section
variable {ns : List Int} {Pt : Addr} {n : Nat} {A : Hx}
theorem znJ {ns : List Int} {A : Hx} (hA : A[0]? = some (.ro (ns.map W.int))) (k : Nat) : ∃ x : Int, zaZ [.ref 0, .int k] A = .ok (.int x) A := by
 have hs : zK (.ref 0) A = some (ns.map W.int) := by unfold zK; dsimp only; rw [hA]
 have hl : mQ gLen (mSeq (mVar 0)) [some (.ref 0), some (.int k)] A = .ok (.int ns.length) A := by
  rw [zcC (zbd (w := .ref 0) (A1 := A) (zo rfl) hs)]
  unfold gLen
  rw [List.length_map]
 have ec : mBin gLt (mVar 1) (mQ gLen (mSeq (mVar 0))) [some (.ref 0), some (.int k)] A = .ok (.bl (decide ((k : Int) < ns.length))) A := (zL (zo (w := .int k) rfl) hl).trans rfl
 by_cases h : k < ns.length
 ·refine ⟨ns[k], zaq ?_⟩
  unfold zbw
  rw [decide_eq_true (by omega)] at ec
  refine zaj ((zfq ec).trans (zaj (zaw ?_)))
  refine (zL (x := .ref 0) (y := .int k) (A1 := A) (A2 := A) (zo rfl) (zo rfl)).trans ?_
  unfold gIx
  rw [hs]
  dsimp only
  rw [zga (v := .int ns[k]) (by rw [List.getElem?_map, List.getElem?_eq_getElem h]; rfl)]
 ·refine ⟨0, zaq ?_⟩
  unfold zbw
  rw [decide_eq_false (by omega)] at ec
  exact (zu ((zdf ec).trans rfl)).trans rfl
theorem zmd {ns : List Int} {A : Hx} (hA : A[0]? = some (.ro (ns.map W.int))) (k : Nat) : ∃ o, zaQ [.ref 0, .int k] A = .ok (.ref A.length) (A ++ [o]) /\ StOk A.length (A ++ [o]) := by
 obtain ⟨x, e⟩ := znJ hA k
 have e1 : xSet 2 (zt zaZ (zc (mVar 0) (zc (mVar 1) (aNil)))) [some (.ref 0), some (.int k), none] A = .ok (.nx [some (.ref 0), some (.int k), some (.int x)]) A := by
  refine (zap (w := .int x) (A1 := A) ?_).trans rfl
  rw [zQ (ws := [.ref 0, .int k]) (A1 := A) rfl]
  exact e
 have ec : mBin gGe (mVar 2) (mBin gPow (mLit (.int 10)) (mLit (.int 18))) [some (.ref 0), some (.int k), some (.int x)] A = .ok (.bl (decide ((1000000000000000000 : Int) <= x))) A := (zL (x := .int x) (y := .int 1000000000000000000) (A1 := A) (A2 := A) (zo rfl) rfl).trans rfl
 by_cases h : (1000000000000000000 : Int) <= x
 ·refine ⟨.lst [.int (x - 1000000000000000000), .bl true], zaq ?_, x - 1000000000000000000, true, zcd, by omega, λ z => nomatch z⟩
  unfold zb0
  rw [decide_eq_true h] at ec
  refine (zu e1).trans (zaj ((zfq ec).trans (zaj (zaw (zbN ?_)))))
  rfl
 ·refine ⟨.lst [.int (x % 2147483647), .bl false], zaq ?_, x % 2147483647, false, zcd, Int.emod_nonneg _ (by decide), λ _ => Int.emod_lt_of_pos _ (by decide)⟩
  unfold zb0
  rw [decide_eq_false h] at ec
  refine (zu e1).trans ((zu ((zdf ec).trans rfl)).trans (zaj (zaw (zbN ?_))))
  refine zay (A1 := A) (A2 := A) ((zL (x := .int x) (y := .int 2147483647) (A1 := A) (A2 := A) (zo rfl) rfl).trans (zfG (by decide))) rfl
theorem znt (h : HOk ns Pt n A) {ρ : En} {mm : Ev} {m : Int} (h1 : 0 < m) (h2 : m < 1000) (hn : ρ[2]? = some (some (.ref n))) (hm : mm ρ A = .ok (.int m) A) :
  ∃ (r : Nat) (A' : Hx), zt zad (zc (mVar 2) (zc mm (aNil))) ρ A = .ok (.int r) A' /\ (r : Int) < m /\ HOk ns Pt n A' /\ ∀ i, i ≠ n -> A'[i]? = A[i]? := by
 obtain ⟨r, A', e, a, b, c⟩ := zlK h h1 h2
 refine ⟨r, A', ?_, a, b, c⟩
 rw [zQ (ws := [.ref n, .int m]) (A1 := A) (zay (zo hn) (zay hm rfl))]
 exact e
theorem zjI {ρ : En} {c : Nat} {ws : List W} {mm : Ev} {w : W} (hc : ρ[11]? = some (some (.ref c))) (hA : A[c]? = some (.lst ws)) (hm : mm ρ A = .ok w A) (hl : ws.length < 100) : xDo (zcq zaM (mVar 11) mm) ρ A = .ok (.nx ρ) (A.set c (.lst (ws ++ [w]))) := by
 refine zdM (w := .non) ?_
 unfold zcq
 rw [zo hc, zr]
 have il : isL (.ref c) A = true := by unfold isL; dsimp only; rw [hA]
 rw [if_pos il, hm, zr]
 unfold zaM
 dsimp only
 rw [hA]
 dsimp only
 rw [if_pos (by unfold zR; omega)]
theorem zkM {m : Ev} {m1 : Ex} {ρ : En} (h : m ρ A = .ok (.bl true) A) : xIf (mNot m) m1 (xNil) ρ A = .ok (.nx ρ) A := (zdf (zc6 h)).trans rfl
end
section
variable {ns : List Int} {Pt : Addr} {m : Nat} {A A' : Hx} {PF : PFam} {ρ : En} {c n : Nat} {ks : List Nat}
noncomputable def gxs (i : Nat) : Hx := (List.replicate i (GX 0)).flatten
theorem zgr (i : Nat) : (gxs i).length = 12 * i := by
 unfold gxs
 rw [len_rep]
 show i * 12 = _
 omega
theorem ziI (i : Nat) : gxs i ++ GX 0 = gxs (i + 1) := by
 unfold gxs
 rw [List.replicate_succ', List.flatten_append]
 simp
theorem zlH : ∀ (i t : Nat), t < i -> (gxs i)[12 * t + 11]? = some (.lst [.int 0])
 | 0, _, h => absurd h (Nat.not_lt_zero _)
 | i + 1, t, h => by
  rw [<- ziI]
  by_cases ht : t < i
  ·rw [List.getElem?_append_left (by rw [zgr]; omega)]
   exact zlH i t ht
  ·have : t = i := by omega
   subst this
   rw [List.getElem?_append_right (by rw [zgr]; omega), zgr, show 12 * t + 11 - 12 * t = 11 by omega]
   rfl
noncomputable def AllR (m : Nat) (ρ : En) (ks : List Nat) : Prop := ∀ k ∈ ks, ∃ t ws, LS[k]? = some t /\ capE t.idx ρ = some ws /\ ∀ A, BH m A -> RF k ws A = .ok (.ref (A.length + 11)) (A ++ GX 0)
theorem zpb (h : AllR m ρ ks) (b : BH m A) {k : Nat} (hk : k ∈ ks) : mEl 0 PF LS RF ρ [some (.clo k [] (PF k))] A = .ok (.ref (A.length + 11)) (A ++ GX 0) := by
 obtain ⟨t, ws, h1, h2, h3⟩ := h k hk
 unfold mEl
 refine (if_pos rfl).trans ?_
 rw [h1]
 dsimp only
 rw [h2]
 exact h3 A b
theorem zmy (h : AllR m ρ ks) (b : BH m A) (hA : A[c]? = some (O.lst (ks.map λ k => .clo k [] (PF k)))) (hl : ks.length <= 100) : ∀ (f i : Nat) (x : Option W), i + f = ks.length -> ∃ y,
  emGo ⟨λ A i => (zK (.ref c) A).map λ ws => ws[i]?, ks.length⟩ (gVar 0) (mLit (.bl true)) (zN (mEl 0 PF LS RF ρ)) f i [x] ((List.range' 0 i).map λ t => W.ref (A.length + (12 * t + 11))) (A ++ gxs i) =
   .ok ([y], (List.range' 0 ks.length).map λ t => W.ref (A.length + (12 * t + 11))) (A ++ gxs ks.length) := by
 intro f
 induction f with
 | zero =>
  intro i x hi
  have : i = ks.length := by omega
  subst this
  refine ⟨x, zj8 ?_⟩
  have hc := Ext.at (A' := A ++ gxs ks.length) ⟨_, rfl⟩ hA
  show ((zK (.ref c) _).map λ ws => ws[ks.length]?) = some none
  rw [zkw hc, List.getElem?_eq_none (by simp)]
 | succ f ih =>
  intro i x hi
  have hik : i < ks.length := by omega
  obtain ⟨y, e⟩ := ih (i + 1) (some (.clo ks[i] [] (PF ks[i]))) (by omega)
  refine ⟨y, ?_⟩
  have hc := Ext.at (A' := A ++ gxs i) ⟨_, rfl⟩ hA
  rw [zkk (w := .clo ks[i] [] (PF ks[i])) (y := .ref ((A ++ gxs i).length + 11)) (A1 := A ++ gxs i ++ GX 0) ?_ (zpb h (b.ext ⟨_, rfl⟩) (List.getElem_mem hik)) (by simp; unfold zR; omega)]
  ·have e1 : A ++ gxs i ++ GX 0 = A ++ gxs (i + 1) := by rw [List.append_assoc, ziI]
   have e2 : ((List.range' 0 i).map λ t => W.ref (A.length + (12 * t + 11))) ++ [W.ref ((A ++ gxs i).length + 11)] = (List.range' 0 (i + 1)).map λ t => W.ref (A.length + (12 * t + 11)) := by
    rw [List.range'_concat, List.map_append, List.map_singleton, List.length_append, zgr]
    congr 3
    omega
   rw [e1, e2]
   exact e
  ·show ((zK (.ref c) _).map λ ws => ws[i]?) = some (some _)
   rw [zkw hc, List.getElem?_map, List.getElem?_eq_getElem hik]
   rfl
theorem zmS (h : AllR m ρ ks) (b : BH m A) (hA : A[c]? = some (O.lst (ks.map λ k => .clo k [] (PF k)))) (hρ : ρ[11]? = some (some (.ref c))) (hl : ks.length <= 100) (hn : n = ks.length)
  (he : PyData.eqv (.list (List.replicate ks.length (.list [.int 0]))) (.list (List.replicate ks.length (.list [.int 0]))) = true) :
  ∃ A', mBin gNe (zb7 (zhP 1 (mIt (mVar 11)) (gVar 0) 0 PF LS RF)) (mBin gMul (mLst (zc (mLst (zc (mLit (.int 0)) (aNil))) (aNil))) (mLit (.int n))) ρ A = .ok (.bl false) A' /\ Ext A A' := by
 subst hn
 obtain ⟨y, e⟩ := zmy (PF := PF) h b hA hl ks.length 0 none (by omega)
 have e1 : zhP 1 (mIt (mVar 11)) (gVar 0) 0 PF LS RF ρ A = .ok ((List.range' 0 ks.length).map λ t => W.ref (A.length + (12 * t + 11))) (A ++ gxs ks.length) := by
  unfold zhP zT
  rw [zlD (zo hρ) hA, zr]
  have hl2 : (ks.map λ k => W.clo k [] (PF k)).length = ks.length := by simp
  dsimp only
  rw [hl2]
  have e' : emGo ⟨λ A i => (zK (.ref c) A).map λ ws => ws[i]?, ks.length⟩ (gVar 0) (mLit (.bl true)) (zN (mEl 0 PF LS RF ρ)) ks.length 0 (zf3 1 [] ρ) [] A = .ok ([y], (List.range' 0 ks.length).map λ t => W.ref (A.length + (12 * t + 11))) (A ++ gxs ks.length) := by
   have := e
   rw [show gxs 0 = [] from rfl, List.append_nil] at this
   exact this
  rw [e']
  rfl
 have hat : ∀ t, t < ks.length -> (A ++ gxs ks.length)[A.length + (12 * t + 11)]? = some (.lst [.int 0]) := λ t ht => by
  rw [List.getElem?_append_right (by omega), show A.length + (12 * t + 11) - A.length = 12 * t + 11 by omega]
  exact zlH _ _ ht
 generalize hB : A ++ gxs ks.length = B at e1 hat
 have e2 := zdH e1
 generalize hacc : ((List.range' 0 ks.length).map λ t => W.ref (A.length + (12 * t + 11))) = acc at e2
 have e3 : mBin gMul (mLst (zc (mLst (zc (mLit (.int 0)) (aNil))) (aNil))) (mLit (.int ks.length)) ρ (B ++ [O.lst acc]) =
   .ok (.ref (B ++ [O.lst acc] ++ [O.lst [.int 0]] ++ [O.lst [.ref (B ++ [O.lst acc]).length]]).length) (B ++ [O.lst acc] ++ [O.lst [.int 0]] ++ [O.lst [.ref (B ++ [O.lst acc]).length]] ++ [O.lst (List.replicate ks.length (.ref (B ++ [O.lst acc]).length))]) := by
  refine (zL (x := .ref (B ++ [O.lst acc] ++ [O.lst [.int 0]]).length) (y := .int ks.length) (A1 := B ++ [O.lst acc] ++ [O.lst [.int 0]] ++ [O.lst [.ref (B ++ [O.lst acc]).length]]) (zbN (zay (zbN (ws := [.int 0]) (A1 := B ++ [O.lst acc]) rfl) rfl)) rfl).trans ?_
  unfold gMul
  dsimp only
  rw [zcd]
  dsimp only
  rw [if_pos ?_, Int.toNat_natCast, List.flatten_replicate_singleton]
  rw [Bool.and_eq_true, decide_eq_true_iff, Int.toNat_natCast]
  refine ⟨ze6 (by omega), ?_⟩
  show 1 * ks.length <= zR
  unfold zR
  omega
 generalize hC : B ++ [O.lst acc] ++ [O.lst [.int 0]] ++ [O.lst [.ref (B ++ [O.lst acc]).length]] = C at e3
 have xB : Ext B (B ++ [O.lst acc]) := .one
 have xC : Ext (B ++ [O.lst acc] ++ [O.lst [.int 0]]) (C ++ [O.lst (List.replicate ks.length (.ref (B ++ [O.lst acc]).length))]) := by rw [<- hC]; exact Ext.one.trans .one
 have xA : Ext A (C ++ [O.lst (List.replicate ks.length (.ref (B ++ [O.lst acc]).length))]) := Ext.trans ⟨_, hB.symm⟩ (xB.trans (Ext.one.trans xC))
 have hall : ∀ D : Hx, (∀ t, t < ks.length -> D[A.length + (12 * t + 11)]? = some (O.lst [.int 0])) -> allP (toP D 7) acc = some (List.replicate ks.length (.list [.int 0])) := λ D hD => by
  rw [<- hacc]
  exact zfL _ _ λ t _ ht => zjE (hD t (by omega))
 refine ⟨_, (zL e2 e3).trans (zpf (d := .list (List.replicate ks.length (.list [.int 0]))) ?_ ?_ he), xA⟩
 ·refine ziF (k := 7) ((Ext.one.trans xC).at zcd) ?_
  exact hall _ λ t ht => (xB.trans (Ext.one.trans xC)).at (hat t ht)
 ·refine ziF (k := 7) zcd ?_
  exact zir (zjE (xC.at zcd)) _
theorem eqv4 : PyData.eqv (.list (List.replicate 4 (.list [.int 0]))) (.list (List.replicate 4 (.list [.int 0]))) = true := by decide +kernel
theorem zeL : zdm "NoTable" = some 0 := by decide +kernel
theorem all4 {w : W} {s : List (List Int)} (hs : TabL s) (hw : w ∈ badL m ++ badR m) (h9 : ρ[9]? = some (some w)) (h10 : ρ[10]? = some (some (tabW s))) : AllR m ρ [2, 3, 4, 5] := by
 have cap : ∀ i j : Nat, ∀ a b : W, ρ[i]? = some (some a) -> ρ[j]? = some (some b) -> capE [i, j] ρ = some [a, b] := λ i j a b ha hb => by
  unfold capE
  rw [ha]
  unfold capE
  rw [hb]
  rfl
 refine all_cons ⟨zd3 zab zaa, [w, tabW s], rfl, cap 9 10 _ _ h9 h10, λ A b => ?_⟩ (all_cons ⟨zd6 zab zaa, [w, tabW s], rfl, cap 9 10 _ _ h9 h10, λ A b => ?_⟩ (all_cons ⟨zed zab zaa, [w, tabW s], rfl, cap 9 10 _ _ h9 h10, λ A b => ?_⟩ (all_cons ⟨zdZ zab zaa, [w, tabW s], rfl, cap 9 10 _ _ h9 h10, λ A b => ?_⟩ all_nil)))
 ·exact zkc ((lam2 A).trans (zhp (zlY (zgo b w hw) _))) zeL
 ·exact zkc ((lam3 A).trans (zhp (zlW hs (zgo b w hw)))) zeL
 ·exact zkc ((lam4 A).trans (zgU (zlY (zgo b w hw) _))) zeL
 ·exact zkc ((lam5 A).trans (zgU (zlW hs (zgo b w hw)))) zeL
end
end G
namespace G
open PySem L2 Mi
noncomputable def BI (Pt : Addr) (PF : PFam) : Ex := xSeq (xSet 7 (mBin gLt (mBin gMul (mQ gLen (mSeq (mVar 5))) (mQ gLen (mSeq (mVar 6)))) (mLit (.int 9)))) (xSeq (xSet 8 (mIf (mVar 7) (zt zaW (zc (mVar 5) (zc (mVar 6) (aNil)))) (mLit .non))) (xSeq (xIf (mNot (zeo LS PF f0R (zc (mLam 1 zW Pt 0 (PF 0)) (zc (mVar 8) (aNil))))) (xSeq (xRet (mLit (.bl false))) (xNil)) (xNil)) (xSeq (xSet 8 (mIf (mVar 7) (zt zaS (zc (mVar 5) (zc (mVar 6) (aNil)))) (mLit .non))) (xSeq (xIf (mNot (zeo LS PF f0R (zc (mLam 1 zW Pt 1 (PF 1)) (zc (mVar 8) (aNil))))) (xSeq (xRet (mLit (.bl false))) (xNil)) (xNil)) (xNil)))))
noncomputable def BB (Pt : Addr) (PF : PFam) : Ex := xSeq (xAsg (mTup (zc (zt zao (zc (mVar 2) (aNil))) (zc (zt zaf (zc (mLit (.int 8)) (aNil))) (aNil)))) (zbE 9 10)) (xSeq (xSet 11 (mLst (zc (mLam 1 zW Pt 2 (PF 2)) (aNil)))) (xSeq (xDo (zcq zaM (mVar 11) (mLam 1 zW Pt 3 (PF 3)))) (xSeq (xDo (zcq zaM (mVar 11) (mLam 1 zW Pt 4 (PF 4)))) (xSeq (xDo (zcq zaM (mVar 11) (mLam 1 zW Pt 5 (PF 5)))) (xSeq (xIf (mBin gNe (zb7 (zhP 1 (mIt (mVar 11)) (gVar 0) 0 PF LS RF)) (mBin gMul (mLst (zc (mLst (zc (mLit (.int 0)) (aNil))) (aNil))) (mLit (.int 4)))) (xSeq (xRet (mLit (.bl false))) (xNil)) (xNil)) (xNil))))))
noncomputable def BL (Pt : Addr) (PF : PFam) : Ex := xSeq (xSet 2 (zt zaQ (zc (mVar 0) (zc (mVar 1) (aNil))))) (xSeq (xPar 3 4 (zt zac (zc (mVar 2) (zc (mLit (.int 4)) (aNil)))) (zt zac (zc (mVar 2) (zc (mLit (.int 4)) (aNil))))) (xSeq (xIf (mBin gEq (zt zad (zc (mVar 2) (zc (mLit (.int 3)) (aNil)))) (mLit (.int 0))) (xSeq (xSet 3 (zt zaD (zc (mVar 2) (aNil)))) (xNil)) (xNil)) (xSeq (xIf (mBin gEq (zt zad (zc (mVar 2) (zc (mLit (.int 3)) (aNil)))) (mLit (.int 0))) (xSeq (xSet 4 (zt zac (zc (mVar 2) (zc (mLit (.int 8)) (aNil))))) (xNil)) (xNil)) (xSeq (xFor (mIt (mLst (zc (mTup (zc (mVar 3) (zc (mVar 4) (aNil)))) (zc (mTup (zc (mVar 4) (zc (mVar 3) (aNil)))) (zc (mTup (zc (mVar 3) (zc (mVar 3) (aNil)))) (aNil)))))) (zbE 5 6) (BI Pt PF)) (BB Pt PF)))))
section
variable {ns : List Int} {Pt : Addr} {PF : PFam} {n : Nat} {A : Hx} {x0 x1 x2 x3 x4 x5 x6 x7 x8 x9 x10 x11 : Option W} {u v : List (List Int)}
theorem zlT (hu : TabL u) (hv : TabL v) {ρ : En} (h5 : ρ[5]? = some (some (tabW u))) (h6 : ρ[6]? = some (some (tabW v))) : mBin gLt (mBin gMul (mQ gLen (mSeq (mVar 5))) (mQ gLen (mSeq (mVar 6)))) (mLit (.int 9)) ρ A = .ok (.bl (decide (u.length * v.length < 9))) A := by
 have e5 : mQ gLen (mSeq (mVar 5)) ρ A = .ok (.int u.length) A := by
  rw [zcC (zbd (w := tabW u) (A1 := A) (zo h5) rfl)]
  unfold gLen
  rw [List.length_map]
 have e6 : mQ gLen (mSeq (mVar 6)) ρ A = .ok (.int v.length) A := by
  rw [zcC (zbd (w := tabW v) (A1 := A) (zo h6) rfl)]
  unfold gLen
  rw [List.length_map]
 have := hu.n8
 refine (zL ((zL e5 e6).trans (zgV (by omega) (by omega))) (zaT (w := .int 9))).trans ?_
 show R.ok (W.bl (decide ((u.length : Int) * (v.length : Int) < 9))) A = _
 rw [show ((u.length : Int) * (v.length : Int)) = ((u.length * v.length : Nat) : Int) from (Int.natCast_mul _ _).symm]
 by_cases h : u.length * v.length < 9
 ·rw [decide_eq_true h, decide_eq_true (by omega)]
 ·rw [decide_eq_false h, decide_eq_false (by omega)]
theorem inner (H : HOk ns Pt n A) (hu : TabL u) (hv : TabL v) : ∃ y7 y8, BI Pt PF [x0, x1, x2, x3, x4, some (tabW u), some (tabW v), x7, x8, x9, x10, x11] A = .ok (.nx [x0, x1, x2, x3, x4, some (tabW u), some (tabW v), y7, y8, x9, x10, x11]) A := by
 unfold BI
 by_cases hf : u.length * v.length <= 8
 ·have hd : decide (u.length * v.length < 9) = true := decide_eq_true (by omega)
  refine ⟨some (.bl true), some (sqW (u.length * v.length) (witV u v)), ?_⟩
  refine (zu (ρ1 := [x0, x1, x2, x3, x4, some (tabW u), some (tabW v), some (.bl true), x8, x9, x10, x11]) (A1 := A) ((zap (zlT hu hv rfl rfl)).trans (by rw [hd]; rfl))).trans ?_
  refine (zu (ρ1 := [x0, x1, x2, x3, x4, some (tabW u), some (tabW v), some (.bl true), some (sqW (u.length * v.length) (besV u v)), x9, x10, x11]) (A1 := A) ((zap ((zkv (A1 := A) rfl).trans ((zQ (ws := [tabW u, tabW v]) (A1 := A) rfl).trans (zhl hu hv hf A)))).trans rfl)).trans ?_
  refine (zu (zkM (zeO (t := zdz zab zaa) (ws := [tabW u, tabW v]) H rfl rfl (zo (i := 8) rfl) rfl (ok0 hu hv hf)))).trans ?_
  refine (zu (ρ1 := [x0, x1, x2, x3, x4, some (tabW u), some (tabW v), some (.bl true), some (sqW (u.length * v.length) (witV u v)), x9, x10, x11]) (A1 := A) ((zap ((zkv (A1 := A) rfl).trans ((zQ (ws := [tabW u, tabW v]) (A1 := A) rfl).trans (zg4 hu hv hf A)))).trans rfl)).trans ?_
  exact (zu (zkM (zeO (t := zdB zab zaa) (ws := [tabW u, tabW v]) H rfl rfl (zo (i := 8) rfl) rfl (ok1 hu hv hf)))).trans rfl
 ·have hd : decide (u.length * v.length < 9) = false := decide_eq_false (by omega)
  refine ⟨some (.bl false), some .non, ?_⟩
  refine (zu (ρ1 := [x0, x1, x2, x3, x4, some (tabW u), some (tabW v), some (.bl false), x8, x9, x10, x11]) (A1 := A) ((zap (zlT hu hv rfl rfl)).trans (by rw [hd]; rfl))).trans ?_
  refine (zu (ρ1 := [x0, x1, x2, x3, x4, some (tabW u), some (tabW v), some (.bl false), some .non, x9, x10, x11]) (A1 := A) ((zap ((zkF (A1 := A) rfl).trans rfl)).trans rfl)).trans ?_
  refine (zu (zkM (zeO (t := zdz zab zaa) (ws := [tabW u, tabW v]) H rfl rfl (zo (i := 8) rfl) rfl (no0 hu hv (by omega))))).trans ?_
  refine (zu (ρ1 := [x0, x1, x2, x3, x4, some (tabW u), some (tabW v), some (.bl false), some .non, x9, x10, x11]) (A1 := A) ((zap ((zkF (A1 := A) rfl).trans rfl)).trans rfl)).trans ?_
  exact (zu (zkM (zeO (t := zdB zab zaa) (ws := [tabW u, tabW v]) H rfl rfl (zo (i := 8) rfl) rfl (no1 hu hv (by omega))))).trans rfl
theorem ziY {s t : List (List Int)} (H : HOk ns Pt n A) (hs : TabL s) (ht : TabL t) : ∃ y5 y6 y7 y8,
  xFor (mIt (mLst (zc (mTup (zc (mVar 3) (zc (mVar 4) (aNil)))) (zc (mTup (zc (mVar 4) (zc (mVar 3) (aNil)))) (zc (mTup (zc (mVar 3) (zc (mVar 3) (aNil)))) (aNil)))))) (zbE 5 6) (BI Pt PF) [x0, x1, x2, some (tabW s), some (tabW t), x5, x6, x7, x8, x9, x10, x11] A =
   .ok (.nx [x0, x1, x2, some (tabW s), some (tabW t), y5, y6, y7, y8, x9, x10, x11]) (A ++ [.lst [.tup [tabW s, tabW t], .tup [tabW t, tabW s], .tup [tabW s, tabW s]]]) := by
 generalize hws : [W.tup [tabW s, tabW t], .tup [tabW t, tabW s], .tup [tabW s, tabW s]] = ws
 have hl : ws.length = 3 := by rw [<- hws]; rfl
 have hA : (A ++ [O.lst ws])[A.length]? = some (.lst ws) := zcd
 have HB := H.app (.lst ws)
 have hm := zlD (ρ := [x0, x1, x2, some (tabW s), some (tabW t), x5, x6, x7, x8, x9, x10, x11]) (m := mLst (zc (mTup (zc (mVar 3) (zc (mVar 4) (aNil)))) (zc (mTup (zc (mVar 4) (zc (mVar 3) (aNil)))) (zc (mTup (zc (mVar 3) (zc (mVar 3) (aNil)))) (aNil))))) (zbN (ws := ws) (A1 := A) (by rw [<- hws]; rfl)) hA
 generalize A ++ [O.lst ws] = B at *
 generalize A.length = c at *
 obtain ⟨ρ', e, y5, y6, y7, y8, hρ⟩ := zeU (A := B) (N := 3) (item := λ i => ws.getD i .non) (I := λ ρ => ∃ y5 y6 y7 y8, ρ = [x0, x1, x2, some (tabW s), some (tabW t), y5, y6, y7, y8, x9, x10, x11]) (j := ⟨λ A i => (zK (.ref c) A).map λ ws => ws[i]?, ws.length⟩) (st := turn (zbE 5 6) (BI Pt PF))
  (λ i hi => by
   show ((zK (.ref c) B).map λ ws => ws[i]?) = _
   rw [zkw hA, List.getD_eq_getElem?_getD, List.getElem?_eq_getElem (by omega)]; rfl)
  (by
   show ((zK (.ref c) B).map λ ws => ws[3]?) = _
   rw [zkw hA, List.getElem?_eq_none (by omega)])
  (λ i hi ρ hρ => by
   obtain ⟨z5, z6, z7, z8, rfl⟩ := hρ
   rw [<- hws]
   rcases (show i = 0 ∨ i = 1 ∨ i = 2 by omega) with rfl | rfl | rfl
   ·obtain ⟨y7, y8, e⟩ := inner (PF := PF) (x0 := x0) (x1 := x1) (x2 := x2) (x3 := some (tabW s)) (x4 := some (tabW t)) (x7 := z7) (x8 := z8) (x9 := x9) (x10 := x10) (x11 := x11) HB hs ht
    exact ⟨_, (zb6 rfl).trans e, _, _, _, _, rfl⟩
   ·obtain ⟨y7, y8, e⟩ := inner (PF := PF) (x0 := x0) (x1 := x1) (x2 := x2) (x3 := some (tabW s)) (x4 := some (tabW t)) (x7 := z7) (x8 := z8) (x9 := x9) (x10 := x10) (x11 := x11) HB ht hs
    exact ⟨_, (zb6 rfl).trans e, _, _, _, _, rfl⟩
   ·obtain ⟨y7, y8, e⟩ := inner (PF := PF) (x0 := x0) (x1 := x1) (x2 := x2) (x3 := some (tabW s)) (x4 := some (tabW t)) (x7 := z7) (x8 := z8) (x9 := x9) (x10 := x10) (x11 := x11) HB hs hs
    exact ⟨_, (zb6 rfl).trans e, _, _, _, _, rfl⟩) 3 0 [x0, x1, x2, some (tabW s), some (tabW t), x5, x6, x7, x8, x9, x10, x11] rfl ⟨_, _, _, _, rfl⟩
 refine ⟨y5, y6, y7, y8, (zcI hm).trans ?_⟩
 rw [<- hρ]
 show zbJ _ _ ws.length 0 _ _ = _
 rw [hl] at e ⊢
 exact e
theorem zpr (H : HOk ns Pt n A) : ∃ y9 y10 y11 A', BB Pt PF [x0, x1, some (.ref n), x3, x4, x5, x6, x7, x8, x9, x10, x11] A = .ok (.nx [x0, x1, some (.ref n), x3, x4, x5, x6, x7, x8, y9, y10, y11]) A' /\ HOk ns Pt n A' := by
 obtain ⟨w, A1, e1, hw, H1, b1, _⟩ := zn1 H
 generalize A.length = m at *
 have ea : (xAsg (mTup (zc (zt zao (zc (mVar 2) (aNil))) (zc (zt zaf (zc (mLit (.int 8)) (aNil))) (aNil)))) (zbE 9 10)) [x0, x1, some (.ref n), x3, x4, x5, x6, x7, x8, x9, x10, x11] A = .ok (.nx [x0, x1, some (.ref n), x3, x4, x5, x6, x7, x8, some w, some (tabW (smT 5)), x11]) A1 := by
  unfold xAsg
  rw [zmP (zay ((zQ (ws := [.ref n]) (A1 := A) rfl).trans e1) (zay ((zQ (ws := [.int 8]) (A1 := A1) rfl).trans (zot A1)) rfl)), zr]
  rfl
 have f13 : mLst (zc (mLam 1 zW Pt 2 (PF 2)) (aNil)) [x0, x1, some (.ref n), x3, x4, x5, x6, x7, x8, some w, some (tabW (smT 5)), x11] A1 = .ok (.ref A1.length) (A1 ++ [.lst [.clo 2 [] (PF 2)]]) := zbN (zay (zhx H1) rfl)
 have hlt := H1.lt
 have hb := b1.lt
 have H6 := H1.app (.lst [.clo 2 [] (PF 2)])
 have B6 := b1.ext (Ext.one (o := .lst [.clo 2 [] (PF 2)]))
 have c6 : (A1 ++ [O.lst [.clo 2 [] (PF 2)]])[A1.length]? = some (.lst [.clo 2 [] (PF 2)]) := zcd
 generalize A1 ++ [O.lst [.clo 2 [] (PF 2)]] = A6 at f13 H6 c6 B6
 generalize A1.length = c at f13 c6 hlt hb
 have e6 := zjI (ρ := [x0, x1, some (.ref n), x3, x4, x5, x6, x7, x8, some w, some (tabW (smT 5)), some (.ref c)]) (mm := mLam 1 zW Pt 3 (PF 3)) rfl c6 (zhx H6) (by show 1 < 100; decide)
 have H7 := H6.put hlt (.lst ([.clo 2 [] (PF 2)] ++ [.clo 3 [] (PF 3)]))
 have B7 := B6.put hb (.lst ([.clo 2 [] (PF 2)] ++ [.clo 3 [] (PF 3)]))
 have c7 := zjD (o := .lst ([.clo 2 [] (PF 2)] ++ [.clo 3 [] (PF 3)])) c6
 generalize A6.set c (.lst ([.clo 2 [] (PF 2)] ++ [.clo 3 [] (PF 3)])) = A7 at e6 H7 c7 B7
 have e7 := zjI (ρ := [x0, x1, some (.ref n), x3, x4, x5, x6, x7, x8, some w, some (tabW (smT 5)), some (.ref c)]) (mm := mLam 1 zW Pt 4 (PF 4)) rfl c7 (zhx H7) (by show 2 < 100; decide)
 have H8 := H7.put hlt (.lst (([.clo 2 [] (PF 2)] ++ [.clo 3 [] (PF 3)]) ++ [.clo 4 [] (PF 4)]))
 have B8 := B7.put hb (.lst (([.clo 2 [] (PF 2)] ++ [.clo 3 [] (PF 3)]) ++ [.clo 4 [] (PF 4)]))
 have c8 := zjD (o := .lst (([.clo 2 [] (PF 2)] ++ [.clo 3 [] (PF 3)]) ++ [.clo 4 [] (PF 4)])) c7
 generalize A7.set c (.lst (([.clo 2 [] (PF 2)] ++ [.clo 3 [] (PF 3)]) ++ [.clo 4 [] (PF 4)])) = A8 at e7 H8 c8 B8
 have e8 := zjI (ρ := [x0, x1, some (.ref n), x3, x4, x5, x6, x7, x8, some w, some (tabW (smT 5)), some (.ref c)]) (mm := mLam 1 zW Pt 5 (PF 5)) rfl c8 (zhx H8) (by show 3 < 100; decide)
 have H9 := H8.put hlt (.lst ((([.clo 2 [] (PF 2)] ++ [.clo 3 [] (PF 3)]) ++ [.clo 4 [] (PF 4)]) ++ [.clo 5 [] (PF 5)]))
 have B9 := B8.put hb (.lst ((([.clo 2 [] (PF 2)] ++ [.clo 3 [] (PF 3)]) ++ [.clo 4 [] (PF 4)]) ++ [.clo 5 [] (PF 5)]))
 have c9 := zjD (o := .lst ((([.clo 2 [] (PF 2)] ++ [.clo 3 [] (PF 3)]) ++ [.clo 4 [] (PF 4)]) ++ [.clo 5 [] (PF 5)])) c8
 generalize A8.set c (.lst ((([.clo 2 [] (PF 2)] ++ [.clo 3 [] (PF 3)]) ++ [.clo 4 [] (PF 4)]) ++ [.clo 5 [] (PF 5)])) = A9 at e8 H9 c9 B9
 have rr : AllR m [x0, x1, some (.ref n), x3, x4, x5, x6, x7, x8, some w, some (tabW (smT 5)), some (.ref c)] [2, 3, 4, 5] := all4 (zj9 (by decide)) hw rfl rfl
 obtain ⟨A10, e10, x10'⟩ := zmS (PF := PF) (n := 4) rr B9 c9 rfl (by decide) rfl eqv4
 refine ⟨some w, some (tabW (smT 5)), some (.ref c), A10, ?_, H9.ext x10'⟩
 unfold BB
 refine (zu ea).trans ?_
 refine (zu ((zap f13).trans rfl)).trans ?_
 refine (zu e6).trans ?_
 refine (zu e7).trans ?_
 refine (zu e8).trans ?_
 exact (zu ((zdf e10).trans rfl)).trans rfl
end
end G
namespace G
open PySem L2 Mi
section
variable {ns : List Int} {Pt : Addr} {PF : PFam} {n k : Nat} {A : Hx} {x0 x1 x2 x3 x4 x5 x6 x7 x8 x9 x10 x11 : Option W} {ρ : En}
theorem HOk.setn {o : O} (h : HOk ns Pt n A) (s : StOk n (A.set n o)) : HOk ns Pt n (A.set n o) := by
 have := h.two
 refine ⟨?_, ?_, h.two, s⟩
 ·rw [List.getElem?_set_ne (by omega)]; exact h.h0
 ·rw [List.getElem?_set_ne (by omega)]; exact h.h1
theorem zjw (h : HOk ns Pt n A) {u : Nat} (u1 : 1 <= u) (u8 : u <= 8) (hn : ρ[2]? = some (some (.ref n))) : ∃ t A', zt zac (zc (mVar 2) (zc (mLit (.int (u : Int))) (aNil))) ρ A = .ok (tabW t) A' /\ TabL t /\ HOk ns Pt n A' := by
 obtain ⟨t, o, e, s, tb, _⟩ := zn0 h.st u1 u8
 exact ⟨t, A.set n o, (zQ (ws := [.ref n, .int (u : Int)]) (A1 := A) (zay (zo hn) rfl)).trans e, tb, h.setn s⟩
theorem zmF (h : HOk ns Pt n A) (hn : ρ[2]? = some (some (.ref n))) : ∃ t A', zt zaD (zc (mVar 2) (aNil)) ρ A = .ok (tabW t) A' /\ TabL t /\ HOk ns Pt n A' := by
 obtain ⟨t, o, e, s, tb, _⟩ := zmQ h.st
 exact ⟨t, A.set n o, (zQ (ws := [.ref n]) (A1 := A) (zay (zo hn) rfl)).trans e, tb, h.setn s⟩
theorem zox {i : Nat} {mm : Ev} {t : List (List Int)} (h : HOk ns Pt n A) (ht : TabL t) (hn : ρ[2]? = some (some (.ref n))) (hi : ρ[i]? = some (some (tabW t)))
  (hm : ∀ A, HOk ns Pt n A -> ∃ t A', mm ρ A = .ok (tabW t) A' /\ TabL t /\ HOk ns Pt n A') : ∃ t' A', TabL t' /\ HOk ns Pt n A' /\
  xIf (mBin gEq (zt zad (zc (mVar 2) (zc (mLit (.int 3)) (aNil)))) (mLit (.int 0))) (xSeq (xSet i mm) (xNil)) (xNil) ρ A = .ok (.nx (ρ.set i (some (tabW t')))) A' := by
 obtain ⟨r, A1, e, _, H1, _⟩ := znt h (ρ := ρ) (mm := mLit (.int 3)) (m := 3) (by decide) (by decide) hn rfl
 have ec := (zL e (zaT (w := .int 0))).trans (eqI (r : Int) 0 A1)
 by_cases hr : (r : Int) = 0
 ·rw [decide_eq_true hr] at ec
  obtain ⟨t', A2, e2, tb, H2⟩ := hm A1 H1
  exact ⟨t', A2, tb, H2, (zfq ec).trans ((zu (zap e2)).trans rfl)⟩
 ·rw [decide_eq_false hr] at ec
  refine ⟨t, A1, ht, H1, (zdf ec).trans ?_⟩
  have : ρ.set i (some (tabW t)) = ρ := by
   apply List.ext_getElem?
   intro j
   by_cases hj : i = j
   ·subst hj
    rw [List.getElem?_set_self (List.getElem?_eq_some_iff.mp hi).1, hi]
   ·rw [List.getElem?_set_ne hj]
  rw [this]
  rfl
inductive znE (ns : List Int) (Pt : Addr) (r : R Fl) : Prop
 | mk (y1 y2 y3 y4 y5 y6 y7 y8 y9 y10 y11 : Option W) (A' : Hx) (e : r = .ok (.nx [some (.ref 0), y1, y2, y3, y4, y5, y6, y7, y8, y9, y10, y11]) A') (h0 : A'[0]? = some (.ro (ns.map W.int))) (h1 : A'[1]? = some (.tab zW Pt))
theorem zmY (h0 : A[0]? = some (.ro (ns.map W.int))) (h1 : A[1]? = some (.tab zW Pt)) : znE ns Pt (BL Pt PF [some (.ref 0), some (.int k), x2, x3, x4, x5, x6, x7, x8, x9, x10, x11] A) := by
 obtain ⟨o, eS, hS⟩ := zmd h0 k
 have two : 2 <= A.length := (List.getElem?_eq_some_iff.mp h1).1
 have H0 : HOk ns Pt A.length (A ++ [o]) := ⟨zcL h0, zcL h1, two, hS⟩
 have e0 : (xSet 2 (zt zaQ (zc (mVar 0) (zc (mVar 1) (aNil))))) [some (.ref 0), some (.int k), x2, x3, x4, x5, x6, x7, x8, x9, x10, x11] A = .ok (.nx [some (.ref 0), some (.int k), some (.ref A.length), x3, x4, x5, x6, x7, x8, x9, x10, x11]) (A ++ [o]) := (zap ((zQ (ws := [.ref 0, .int k]) (A1 := A) rfl).trans eS)).trans rfl
 generalize A.length = n at *
 generalize A ++ [o] = A0 at *
 obtain ⟨s, A1, e1, ts, H1⟩ := zjw (u := 4) H0 (ρ := [some (.ref 0), some (.int k), some (.ref n), x3, x4, x5, x6, x7, x8, x9, x10, x11]) (by decide) (by decide) rfl
 obtain ⟨t, A2, e2, tt, H2⟩ := zjw (u := 4) H1 (ρ := [some (.ref 0), some (.int k), some (.ref n), x3, x4, x5, x6, x7, x8, x9, x10, x11]) (by decide) (by decide) rfl
 have e3 : xPar 3 4 (zt zac (zc (mVar 2) (zc (mLit (.int 4)) (aNil)))) (zt zac (zc (mVar 2) (zc (mLit (.int 4)) (aNil)))) [some (.ref 0), some (.int k), some (.ref n), x3, x4, x5, x6, x7, x8, x9, x10, x11] A0 = .ok (.nx [some (.ref 0), some (.int k), some (.ref n), some (tabW s), some (tabW t), x5, x6, x7, x8, x9, x10, x11]) A2 := by
  have e1' : zt zac (zc (mVar 2) (zc (mLit (.int 4)) (aNil))) [some (.ref 0), some (.int k), some (.ref n), x3, x4, x5, x6, x7, x8, x9, x10, x11] A0 = .ok (tabW s) A1 := e1
  have e2' : zt zac (zc (mVar 2) (zc (mLit (.int 4)) (aNil))) [some (.ref 0), some (.int k), some (.ref n), x3, x4, x5, x6, x7, x8, x9, x10, x11] A1 = .ok (tabW t) A2 := e2
  unfold xPar
  rw [e1', zr, e2', zr]
  rfl
 obtain ⟨s', A3, ts', H3, e4⟩ := zox (i := 3) (mm := zt zaD (zc (mVar 2) (aNil))) H2 ts (ρ := [some (.ref 0), some (.int k), some (.ref n), some (tabW s), some (tabW t), x5, x6, x7, x8, x9, x10, x11]) rfl rfl (λ A h => zmF h rfl)
 obtain ⟨t', A4, tt', H4, e5⟩ := zox (i := 4) (mm := zt zac (zc (mVar 2) (zc (mLit (.int 8)) (aNil)))) H3 tt (ρ := [some (.ref 0), some (.int k), some (.ref n), some (tabW s'), some (tabW t), x5, x6, x7, x8, x9, x10, x11]) rfl rfl (λ A h => zjw (u := 8) h (by decide) (by decide) rfl)
 obtain ⟨y5, y6, y7, y8, e6⟩ := ziY (PF := PF) (x0 := some (.ref 0)) (x1 := some (.int k)) (x2 := some (.ref n)) (x5 := x5) (x6 := x6) (x7 := x7) (x8 := x8) (x9 := x9) (x10 := x10) (x11 := x11) H4 ts' tt'
 obtain ⟨y9, y10, y11, A', e7, H'⟩ := zpr (PF := PF) (x0 := some (.ref 0)) (x1 := some (.int k)) (x3 := some (tabW s')) (x4 := some (tabW t')) (x5 := y5) (x6 := y6) (x7 := y7) (x8 := y8) (x9 := x9) (x10 := x10) (x11 := x11) (H4.app (.lst [.tup [tabW s', tabW t'], .tup [tabW t', tabW s'], .tup [tabW s', tabW s']]))
 refine ⟨some (.int k), some (.ref n), some (tabW s'), some (tabW t'), y5, y6, y7, y8, y9, y10, y11, A', ?_, H'.h0, H'.h1⟩
 unfold BL
 refine (zu e0).trans ?_
 refine (zu e3).trans ?_
 refine (zu e4).trans ?_
 refine (zu e5).trans ?_
 refine (zu e6).trans ?_
 exact e7
theorem zja (N : Nat) : ∀ (f i : Nat) (A : Hx) (x1 x2 x3 x4 x5 x6 x7 x8 x9 x10 x11 : Option W), i + f = N -> A[0]? = some (.ro (ns.map W.int)) -> A[1]? = some (.tab zW Pt) -> ∃ ρ A',
  zbJ (zbI 0 N) (turn (gVar 1) (BL Pt PF)) f i [some (.ref 0), x1, x2, x3, x4, x5, x6, x7, x8, x9, x10, x11] A = .ok (.nx ρ) A' := by
 intro f
 induction f with
 | zero =>
  intro i A x1 x2 x3 x4 x5 x6 x7 x8 x9 x10 x11 hi h0 h1
  exact ⟨_, A, zbL (zb4 (by omega))⟩
 | succ f ih =>
  intro i A x1 x2 x3 x4 x5 x6 x7 x8 x9 x10 x11 hi h0 h1
  have b := zmY (PF := PF) (k := i) (x2 := x2) (x3 := x3) (x4 := x4) (x5 := x5) (x6 := x6) (x7 := x7) (x8 := x8) (x9 := x9) (x10 := x10) (x11 := x11) h0 h1
  obtain ⟨y1, y2, y3, y4, y5, y6, y7, y8, y9, y10, y11, A', e, k0, k1⟩ := b
  obtain ⟨ρ, A2, e2⟩ := ih (i + 1) A' y1 y2 y3 y4 y5 y6 y7 y8 y9 y10 y11 (by omega) k0 k1
  refine ⟨ρ, A2, (zc7 (zdn (by omega)) ((zb6 rfl).trans ?_)).trans e2⟩
  rw [show (0 : Int) + (i : Int) = i from Int.zero_add _]
  exact e
end
noncomputable def zng (Pt : Addr) (PF : PFam) : Fn := runB 12 (znf zaf zao zaW zaD zac zaQ zad zaS zab zaa RF Pt PF f0R)
theorem zob (Pt : Addr) (PF : PFam) : znf zaf zao zaW zaD zac zaQ zad zaS zab zaa RF Pt PF f0R = xSeq (xFor (zbq (mBin zf0 (mLit (.int 1)) (mBin zfm (mQ gLen (mSeq (mVar 0))) (mLit (.int 8))))) (gVar 1) (BL Pt PF)) (xSeq (xRet (mLit (.bl true))) (xNil)) := rfl
theorem zlh : zlA zW zng := λ ns hl Pt PF => by
 have hs : zK (.ref 0) [.ro (ns.map W.int), .tab zW Pt] = some (ns.map W.int) := rfl
 have el : mQ gLen (mSeq (mVar 0)) [some (.ref 0), none, none, none, none, none, none, none, none, none, none, none] [.ro (ns.map W.int), .tab zW Pt] = .ok (.int ns.length) [.ro (ns.map W.int), .tab zW Pt] := by
  rw [zcC (zbd (w := .ref 0) (A1 := [.ro (ns.map W.int), .tab zW Pt]) (zo rfl) hs)]
  unfold gLen
  rw [List.length_map]
 have em : mBin zf0 (mLit (.int 1)) (mBin zfm (mQ gLen (mSeq (mVar 0))) (mLit (.int 8))) [some (.ref 0), none, none, none, none, none, none, none, none, none, none, none] [.ro (ns.map W.int), .tab zW Pt] =
   .ok (.int (if (if (8 : Int) < ns.length then 8 else (ns.length : Int)) > 1 then (if (8 : Int) < ns.length then 8 else (ns.length : Int)) else 1)) [.ro (ns.map W.int), .tab zW Pt] :=
  (zL (zaT (w := .int 1)) ((zL el (zaT (w := .int 8))).trans rfl)).trans rfl
 generalize hv : (if (if (8 : Int) < ns.length then 8 else (ns.length : Int)) > 1 then (if (8 : Int) < ns.length then 8 else (ns.length : Int)) else 1) = v at em
 have hsm : zaO v = true := by
  have : 0 <= v /\ v < 1000 := by
   rw [<- hv]
   split <;> split <;> omega
  obtain ⟨k, rfl⟩ := Int.eq_ofNat_of_zero_le this.1
  exact ze6 (by omega)
 obtain ⟨ρ, A, e⟩ := zja (ns := ns) (Pt := Pt) (PF := PF) v.toNat v.toNat 0 [.ro (ns.map W.int), .tab zW Pt] none none none none none none none none none none none (by omega) rfl rfl
 refine ⟨A, zaq ?_⟩
 rw [zob]
 exact (zu ((zcI (zcy em hsm)).trans e)).trans (zaj rfl)
end G
namespace G
open PySem L2 Mi
section
variable {P : Program} {w : World} {K : Frag} {mg : Str -> Option Value} {base h : Heap}
theorem zfi (X : K.In h) (G : h.Ns mainGlobals mg) (T : Tx K) {PG : PFam} {lam : Nat -> Fn} (hL : ∀ k, zck P w K mg base 8 (PG k) (lam k)) : FnM P w K mg base 9 "_law_refused" 1 ((runB 4 (zaE PG lam))) := by
 obtain ⟨f, fd, F, a⟩ := T.d__law_refused
 exact (zdq (k := 8) (bu X G T) (cl T) T.x_row F (PySem.W.mg_of X G a) (Nat.le_refl _) hL)
theorem znA (X : K.In h) (Gl : h.Ns mainGlobals mg) (T : Tx K) {f c Pt : Addr} {fd : FuncData} (F : Fun K "law" "law" zfu f fd) (hn : PySem.W.nsIn K mainGlobals "law" = some (some (.ref f))) (ht : PySem.W.tabIn K "law" = some (c, Pt)) (hB : BMain mg base) (hC : PySem.W.CodeHd base c Pt) : FnOk P w K mg base CX0 11 f fd ["_law_script"] (spT K 1 (zng Pt)) :=
 o_law (k := 10) (j := 7) (kk := 9) (bu X Gl T) F hn ht hB hC ((zek X Gl T).mono (by decide)) ((zeF X Gl T).mono (by decide)) ((zgf X Gl T).mono (by decide)) ((zgY X Gl T).mono (by decide)) ((zd7 X Gl T).mono (by decide)) ((zhv X Gl T).mono (by decide)) ((zcH X Gl T).mono (by decide)) ((zgh X Gl T).mono (by decide)) (by decide)
  (zpA (k := 7) (bu X Gl T) (λ base => (zfZ X Gl T).mono (by decide)) (λ base => (zf8 X Gl T).mono (by decide))) (λ base PG hL => (zfi X Gl T hL).imp λ us A _ => znp us A) (by decide) (λ base PG hL => (zhc X Gl T hL).iso) zlo
theorem all_mk {l : PySem.W.OpenLaw} {fa Pt : Addr} (X : K.In h) (Gl : h.Ns mainGlobals mg) (hfa : mg "law" = some (.ref fa)) (T : Tx K) (ht : ∃ c, PySem.W.tabIn K "law" = some (c, Pt) /\ PySem.W.codeHdIn K c Pt = true) :
  ∃ fd : FuncData, (∀ (s : Shared) (v : Value), BindsTo s fd ⟨[v], []⟩ [("_law_script", v)]) /\ ∀ base : Heap, K.In base -> base.Ns mainGlobals mg -> BMain mg base -> FnOk l.prog w K mg base CX0 11 fa fd ["_law_script"] (spT K 1 (zng Pt)) := by
 obtain ⟨c, ht, hcd⟩ := ht
 obtain ⟨f, fd, F, a⟩ := T.d_law
 have e := hfa.symm.trans (PySem.W.mg_of X Gl a)
 cases e
 obtain ⟨oc, od, kV, doc, pm, an, cdv, ct, osl, rfl, lk, hcd'⟩ := id F.ex
 exact ⟨_, λ s v => .of_eq rfl, λ base kb nb hB => znA X Gl T F a ht hB (PySem.W.codeHd_of_K kb hcd)⟩
end
end G
noncomputable def PySem.W.Fast.tw6249926867682853628 : Nat := 0
noncomputable def PySem.W.Fast.tw3173367304213235803 : Nat := 0
noncomputable def PySem.W.Fast.tw9041421799679439587 : Nat := 0
noncomputable def PySem.W.Fast.tw13242257720835053525 : Nat := 0
noncomputable def PySem.W.Fast.tw13700971027298144045 : Nat := 0
noncomputable def PySem.W.Fast.tw12068361934400497160 : Nat := 0
noncomputable def PySem.W.Fast.tw13243679174041638223 : Nat := 0
noncomputable def PySem.W.Fast.tw9523968571344119744 : Nat := 0
noncomputable def PySem.W.Fast.tw12155647537359485502 : Nat := 0
noncomputable def PySem.W.Fast.tw13776673872158497166 : Nat := 0
noncomputable def PySem.W.Fast.tw17470462661685227985 : Nat := 0
noncomputable def PySem.W.Fast.tw5241573820649227726 : Nat := 0
noncomputable def PySem.W.Fast.tw8850961401659138012 : Nat := 0
noncomputable def PySem.W.Fast.tw14335012828240630025 : Nat := 0
noncomputable def PySem.W.Fast.tw2089528025493816450 : Nat := 0
noncomputable def PySem.W.Fast.tw9167721186364810567 : Nat := 0
noncomputable def PySem.W.Fast.tw4048094597611701605 : Nat := 0
noncomputable def PySem.W.Fast.tw11904814543304148348 : Nat := 0
noncomputable def PySem.W.Fast.tw9665775420728235404 : Nat := 0
noncomputable def PySem.W.Fast.tw8381991940491256408 : Nat := 0
noncomputable def PySem.W.Fast.tw11098514057057387802 : Nat := 0
noncomputable def PySem.W.Fast.tw15539007193588223187 : Nat := 0
noncomputable def PySem.W.Fast.tw6457890210235758844 : Nat := 0
noncomputable def PySem.W.Fast.tw14913617722122005923 : Nat := 0
noncomputable def PySem.W.Fast.tw7083584795980395412 : Nat := 0
noncomputable def PySem.W.Fast.tw4414980966106289521 : Nat := 0
noncomputable def PySem.W.Fast.tw2919180153813941229 : Nat := 0
noncomputable def PySem.W.Fast.tw41581870144782379 : Nat := 0
noncomputable def PySem.W.Fast.tw3876464160859943116 : Nat := 0
noncomputable def PySem.W.Fast.tw12721583954921858957 : Nat := 0
noncomputable def PySem.W.Fast.tw8588758177806838759 : Nat := 0
noncomputable def PySem.W.Fast.tw17334951703539131505 : Nat := 0
noncomputable def PySem.W.Fast.tw10330730726823355062 : Nat := 0
noncomputable def PySem.W.Fast.tw5508709142722749234 : Nat := 0
noncomputable def PySem.W.Fast.tw14946430880377417558 : Nat := 0
noncomputable def PySem.W.Fast.tw6343760010528135539 : Nat := 0
noncomputable def PySem.W.Fast.tw2785201527725057650 : Nat := 0
noncomputable def PySem.W.Fast.tw15277320465155421743 : Nat := 0
noncomputable def PySem.W.Fast.tw7721601909340448849 : Nat := 0
noncomputable def PySem.W.Fast.tw17980869316302516277 : Nat := 0
noncomputable def PySem.W.Fast.tw3068382679714838702 : Nat := 0
noncomputable def PySem.W.Fast.tw14188198924921520263 : Nat := 0
noncomputable def PySem.W.Fast.tw4359102492942015185 : Nat := 0
noncomputable def PySem.W.Fast.tw7225556775047670905 : Nat := 0
noncomputable def PySem.W.Fast.tw11320635861319216419 : Nat := 0
noncomputable def PySem.W.Fast.tw10238319043939728909 : Nat := 0
noncomputable def PySem.W.Fast.tw592157989672927271 : Nat := 0
open PySem PySem.W PyProof.Rows
set_option maxRecDepth 100000 in
set_option maxHeartbeats 0 in
theorem PySem.Challenge.cw_nearkinds_k80_tables_put_together_holds : PySem.Challenge.rw_nearkinds_k80_tables_put_together.Holds := by
 w_on; o_law; k_head; (case hw => w_witness2)
 k_fill
 refine' Mi.zpB (l := PySem.Challenge.rw_nearkinds_k80_tables_put_together) (k := 11) (x := "_law_script") G.zlh rfl rfl ⟨rfl, by decide, by decide⟩ (λ w h Y => PySem.W.km_in_of Y) (λ w h Y => PySem.W.km_tabs_of Y _ (List.mem_cons_self ..)) ?ht ?hKP ?F
 case ht => exact λ p => by kernel_rfl
 case hKP => exact λ p => by kernel_rfl
 case F =>
  intro w mg fa h KX Gl hmg ht
  have T : G.Tx (L2.KOf KX) := by
   dsimp only [L2.KOf]
   refine' ⟨?d_is_whole, ?d_is_even, ?d_leaves_no_kind_out, ?d_count_kinds, ?d_pair_places, ?d__law_cell_at, ?d__law_take, ?d__law_alike, ?d__law_ring, ?d__law_each_own, ?d__law_kinds, ?d_is_wholes, ?d__law_state, ?d__law_some_table, ?d__law_small, ?d__law_beside, ?d__law_within, ?d__law_bad_table, ?d_is_wholes_below, ?d__law_same, ?d_is_table, ?d_require_table, ?d_require_few_together, ?d_put_beside, ?d_put_within, ?d__law_refused, ?d__law_right, ?d_law, ?n_ValueError, ?n_all, ?n_bool, ?n_enumerate, ?n_int, ?n_isinstance, ?n_len, ?n_list, ?n_max, ?n_min, ?n_range, ?n_tuple, ?n_zip, ?q_MOST_PLACES, ?x_exc, ?x_top, ?x_row⟩
   (case d_is_whole => (refine' Mi.zbj ?a ?l ?c ?k; (case a => k_is); (case l => k_is); (case c => k_is); (case k => k_is)))
   (case d_is_even => (refine' Mi.zbj ?a ?l ?c ?k; (case a => k_is); (case l => k_is); (case c => k_is); (case k => k_is)))
   (case d_leaves_no_kind_out => (refine' Mi.zbj ?a ?l ?c ?k; (case a => k_is); (case l => k_is); (case c => k_is); (case k => k_is)))
   (case d_count_kinds => (refine' Mi.zbj ?a ?l ?c ?k; (case a => k_is); (case l => k_is); (case c => k_is); (case k => k_is)))
   (case d_pair_places => (refine' Mi.zbj ?a ?l ?c ?k; (case a => k_is); (case l => k_is); (case c => k_is); (case k => k_is)))
   (case d__law_cell_at => (refine' Mi.zbj ?a ?l ?c ?k; (case a => k_is); (case l => k_is); (case c => k_is); (case k => k_is)))
   (case d__law_take => (refine' Mi.zbj ?a ?l ?c ?k; (case a => k_is); (case l => k_is); (case c => k_is); (case k => k_is)))
   (case d__law_alike => (refine' Mi.zbj ?a ?l ?c ?k; (case a => k_is); (case l => k_is); (case c => k_is); (case k => k_is)))
   (case d__law_ring => (refine' Mi.zbj ?a ?l ?c ?k; (case a => k_is); (case l => k_is); (case c => k_is); (case k => k_is)))
   (case d__law_each_own => (refine' Mi.zbj ?a ?l ?c ?k; (case a => k_is); (case l => k_is); (case c => k_is); (case k => k_is)))
   (case d__law_kinds => (refine' Mi.zbj ?a ?l ?c ?k; (case a => k_is); (case l => k_is); (case c => k_is); (case k => k_is)))
   (case d_is_wholes => (refine' Mi.zbj ?a ?l ?c ?k; (case a => k_is); (case l => k_is); (case c => k_is); (case k => k_is)))
   (case d__law_state => (refine' Mi.zbj ?a ?l ?c ?k; (case a => k_is); (case l => k_is); (case c => k_is); (case k => k_is)))
   (case d__law_some_table => (refine' Mi.zbj ?a ?l ?c ?k; (case a => k_is); (case l => k_is); (case c => k_is); (case k => k_is)))
   (case d__law_small => (refine' Mi.zbj ?a ?l ?c ?k; (case a => k_is); (case l => k_is); (case c => k_is); (case k => k_is)))
   (case d__law_beside => (refine' Mi.zbj ?a ?l ?c ?k; (case a => k_is); (case l => k_is); (case c => k_is); (case k => k_is)))
   (case d__law_within => (refine' Mi.zbj ?a ?l ?c ?k; (case a => k_is); (case l => k_is); (case c => k_is); (case k => k_is)))
   (case d__law_bad_table => (refine' Mi.zbj ?a ?l ?c ?k; (case a => k_is); (case l => k_is); (case c => k_is); (case k => k_is)))
   (case d_is_wholes_below => (refine' Mi.zbj ?a ?l ?c ?k; (case a => k_is); (case l => k_is); (case c => k_is); (case k => k_is)))
   (case d__law_same => (refine' Mi.zbj ?a ?l ?c ?k; (case a => k_is); (case l => k_is); (case c => k_is); (case k => k_is)))
   (case d_is_table => (refine' Mi.zbj ?a ?l ?c ?k; (case a => k_is); (case l => k_is); (case c => k_is); (case k => k_is)))
   (case d_require_table => (refine' Mi.zbj ?a ?l ?c ?k; (case a => k_is); (case l => k_is); (case c => k_is); (case k => k_is)))
   (case d_require_few_together => (refine' Mi.zbj ?a ?l ?c ?k; (case a => k_is); (case l => k_is); (case c => k_is); (case k => k_is)))
   (case d_put_beside => (refine' Mi.zbj ?a ?l ?c ?k; (case a => k_is); (case l => k_is); (case c => k_is); (case k => k_is)))
   (case d_put_within => (refine' Mi.zbj ?a ?l ?c ?k; (case a => k_is); (case l => k_is); (case c => k_is); (case k => k_is)))
   (case d__law_refused => (refine' Mi.zbj ?a ?l ?c ?k; (case a => k_is); (case l => k_is); (case c => k_is); (case k => k_is)))
   (case d__law_right => (refine' Mi.zbj ?a ?l ?c ?k; (case a => k_is); (case l => k_is); (case c => k_is); (case k => k_is)))
   (case d_law => (refine' Mi.zbj ?a ?l ?c ?k; (case a => k_is); (case l => k_is); (case c => k_is); (case k => k_is)))
   (case n_ValueError => k_is)
   (case n_all => k_is)
   (case n_bool => k_is)
   (case n_enumerate => k_is)
   (case n_int => k_is)
   (case n_isinstance => k_is)
   (case n_len => k_is)
   (case n_list => k_is)
   (case n_max => k_is)
   (case n_min => k_is)
   (case n_range => k_is)
   (case n_tuple => k_is)
   (case n_zip => k_is)
   (case q_MOST_PLACES => (refine' Mi.zo7 ?a; (case a => k_is)))
   (case x_exc => kernel_rfl)
   (case x_top => kernel_rfl)
   (case x_row => kernel_rfl)
  exact G.all_mk KX Gl hmg T ht
