import PyProof.Rows.All
import Wide.All
import OpenK.AllK
import Wide.FinOn
import Lean
import PyProof.EqAt
import PyProof.EqKinds
import PyProof.TupleCall
import OpenK.KOwn
import PyProof.Rows.FStr
import PyProof.FString
import PyProof.NsDelKeeps
import KE.KIsAll
import PyProof.ExcArgs
import KE.KLam
import KE.KNestM
import PyProof.Rows.SetFrom
import PyProof.ListMulRoad
import PyProof.FactsAll.set_1
import PyProof.FactsAll.set_2
import PyProof.CollectIter
import PyProof.TupleIter
import PyProof.CollectWalk
import PyProof.Rows.SortShell
import PyProof.SumAny
import PyProof.ListOps
import KE.KDictList
import PyProof.NoPylong
import PySem.Challenge.RW_nearkinds_k05_mixes_and_squares
open PySem.W (Frag)
set_option Elab.async false
set_option linter.all false
set_option maxRecDepth 1000000
set_option maxHeartbeats 4000000
namespace L2
open PySem PySem.Spec PyProof.Rows
noncomputable abbrev Key:=Sum Int Str
noncomputable def RO:Key->Value->Bool
 | .inl k,v=>Value.isInt k v
 | .inr x,v=>Value.isStrOf x v
noncomputable def Cz (w:World):Key->Int
 | .inl k=>hashInt k
 | .inr x=>hashStr w x
theorem gF:∀{k:Key} {v:Value},RO k v=true->(∃i t,k=Sum.inl i/\v=Value.int i t)∨(∃x t,k=Sum.inr x/\v=Value.str x t)
 | .inl i,v,h=>by
  obtain ⟨t,e⟩:=Value.isInt_shape (k:=i) (v:=v) h
  exact .inl ⟨i,t,rfl,e⟩
 | .inr x,v,h=>by
  obtain ⟨t,e⟩:=Value.isStrOf_shape (x:=x) (v:=v) h
  exact .inr ⟨x,t,rfl,e⟩
theorem Ej (a b:Int):decide ((Sum.inl a:Key)=Sum.inl b)=(a==b):=by
 by_cases e:a=b
 ·subst e;simp
 ·have h:¬(Sum.inl a:Key)=Sum.inl b:=λ q=>e (Sum.inl.inj q)
  rw [decide_eq_false h]
  exact (beq_eq_false_iff_ne.mpr e).symm
theorem E4 (a b:Str):decide ((Sum.inr a:Key)=Sum.inr b)=decide (a=b):=by
 by_cases e:a=b
 ·subst e;simp
 ·have h:¬(Sum.inr a:Key)=Sum.inr b:=λ q=>e (Sum.inr.inj q)
  rw [decide_eq_false h,decide_eq_false e]
theorem FN (a:Int)(b:Str):decide ((Sum.inl a:Key)=Sum.inr b)=false:=decide_eq_false (λ q=>nomatch q)
theorem FH (a:Str)(b:Int):decide ((Sum.inr a:Key)=Sum.inl b)=false:=decide_eq_false (λ q=>nomatch q)
noncomputable def Sk (prog:Program)(w:World):PySem.KeyKind prog w Key where
 is:=RO
 hash:=Cz w
 inj:=λ v a b ha hb=>by
  rcases gF ha with ⟨i,t,rfl,rfl⟩ | ⟨x,t,rfl,rfl⟩
  ·rcases gF hb with ⟨j,u,rfl,e⟩ | ⟨y,u,rfl,e⟩
   ·injection e with e1 _;rw [e1]
   ·exact nomatch e
  ·rcases gF hb with ⟨j,u,rfl,e⟩ | ⟨y,u,rfl,e⟩
   ·exact nomatch e
   ·injection e with e1 _;rw [e1]
 byValue:=λ k v h=>by
  rcases gF h with ⟨i,t,rfl,rfl⟩ | ⟨x,t,rfl,rfl⟩<;>rfl
 pyHash:=λ hv h=>by
  rcases gF hv with ⟨i,t,rfl,rfl⟩ | ⟨x,t,rfl,rfl⟩
  ·exact wpAny_pyHash_int h
  ·exact wpAny_pyHash_str h
 eqBool:=λ hu hv h=>by
  rcases gF hu with ⟨i,t,rfl,rfl⟩ | ⟨x,t,rfl,rfl⟩
  ·rcases gF hv with ⟨j,u,rfl,rfl⟩ | ⟨y,u,rfl,rfl⟩
   ·rw [Ej] at h;exact wpAny_eqBool_int h
   ·rw [FN] at h;exact SeqAt.EqAt.int_str i t y u _ _ _ _ h
  ·rcases gF hv with ⟨j,u,rfl,rfl⟩ | ⟨y,u,rfl,rfl⟩
   ·rw [FH] at h;exact SeqAt.EqAt.str_int x t j u _ _ _ _ h
   ·rw [E4] at h;exact wpAny_eqBool_str h
 «strs»:=λ k x t v h=>by
  rcases gF h with ⟨i,u,rfl,e⟩ | ⟨y,u,rfl,e⟩
  ·exact nomatch e
  ·injection e with e1 _
   subst e1
   cases v<;>rfl
inductive V where
 | non | bl (b:Bool) | int (i:Int) | str (x:Str) | byt (b:Array UInt8) | flt (b:UInt64) | ref (a:Addr) | ty (n:String)
 deriving DecidableEq
noncomputable def RelV:V->Value->Prop
 | .non,u=>u=Value.none
 | .bl b,u=>u=Value.bool b
 | .int i,u=>∃t,u=Value.int i t
 | .str x,u=>∃t,u=Value.str x t
 | .byt b,u=>∃t,u=Value.bytes b t
 | .flt b,u=>∃t,u=Value.float b t
 | .ref a,u=>u=Value.ref a
 | .ty n,u=>u=Value.type n
noncomputable abbrev Vals:List V->List Value->Prop:=Paired RelV
theorem Vals.length {xs:List V}{us:List Value}(r:Vals xs us):xs.length=us.length:=Paired.length r
theorem Vals.get:∀{xs:List V} {us:List Value} {i:Nat} {x:V},Vals xs us->xs[i]? =some x->∃u,us[i]? =some u/\RelV x u
 | _,_,_,_,.nil,e=>by simp at e
 | _,_,0,_,.cons r _,e=>by simp at e;subst e;exact ⟨_,rfl,r⟩
 | _,_,i+1,x,.cons _ t,e=>by
  obtain ⟨u,h1,h2⟩:=Vals.get (i:=i) (x:=x) t (by simpa using e)
  exact ⟨u,by simpa using h1,h2⟩
theorem Vals.set {x:V}{u:Value}(r:RelV x u):∀{xs:List V} {us:List Value} (i:Nat),Vals xs us->Vals (xs.set i x) (us.set i u)
 | _,_,_,.nil=>.nil
 | _,_,0,.cons _ t=>.cons r t
 | _,_,i+1,.cons q t=>.cons q (Vals.set r i t)
theorem Vals.append:∀{xs ys:List V} {us ws:List Value},Vals xs us->Vals ys ws->Vals (xs++ys) (us++ws)
 | _,_,_,_,.nil,s=>s
 | _,_,_,_,.cons r t,s=>.cons r (Vals.append t s)
theorem Vals.take:∀{xs:List V} {us:List Value} (n:Nat),Vals xs us->Vals (xs.take n) (us.take n)
 | _,_,0,_=>.nil
 | _,_,_+1,.nil=>.nil
 | _,_,n+1,.cons r t=>.cons r (Vals.take n t)
theorem Vals.drop:∀{xs:List V} {us:List Value} (n:Nat),Vals xs us->Vals (xs.drop n) (us.drop n)
 | _,_,0,r=>r
 | _,_,_+1,.nil=>.nil
 | _,_,n+1,.cons _ t=>Vals.drop n t
theorem Vals.none_of:∀{xs:List V} {us:List Value} {i:Nat},Vals xs us->xs[i]? =none->us[i]? =none:=λ {xs us i} r e=>by
 have h1:=r.length
 have h2:xs.length<=i:=List.getElem?_eq_none_iff.mp e
 exact List.getElem?_eq_none_iff.mpr (by omega)
noncomputable def V0:Option V->Option Value->Prop
 | some v,some u=>RelV v u
 | none,none=>True
 | _,_=>False
noncomputable def KV {κ:Type}:List (κ × V)->List (κ × Value)->Prop:=Paired λ (p:κ × V) (q:κ × Value)=>p.1=q.1/\RelV p.2 q.2
noncomputable def kV:Key->V
 | .inl i=>.int i
 | .inr x=>.str x
inductive HO where
 | lst (xs:List V)
 | tup (xs:List V)
 | dK (kvs:List (Key × V)) | dT (kvs:List (List Key × V))
 | set (S:Int->Bool) (n:Nat)
 | ins (C dx:Addr) (fs:List (Str × V))
 | own (x:Addr)
 | xd (fs:List (Str × V))
 | met (f x:Addr)
 | rng (lo hi:Int)
 | frz (o:Obj) (u:HO)
 | tbl (ps:Array Value)
 | ext (φ:Heap->Prop)
noncomputable abbrev Hp:=Addr->Option HO
noncomputable def upd (H:Hp)(a:Addr)(o:HO):Hp:=λ b=>if b=a then some o else H b
theorem jw {H:Hp}{a:Addr}{o:HO}:upd H a o a=some o:=by unfold upd;rw [if_pos rfl]
theorem qc {H:Hp}{a b:Addr}{o:HO}(h:b≠a):upd H a o b=H b:=by unfold upd;rw [if_neg h]
theorem JC {H:Hp}{a b:Addr}{o u:HO}(h:H a=some o)(h':H b=some u)(d:o≠u):a≠b:=by
 intro e;subst e;rw [h] at h';exact d (Option.some.inj h')
theorem yN {H:Hp}{a b:Addr}{o:HO}(h:H a=some o)(h':H b=none):a≠b:=by
 intro e;subst e;rw [h] at h';cases h'
noncomputable def gQ (h:Heap)(a:Addr)(items:Array Value):Prop:=∃o,h.get? a=some o/\(o.cls=.type "tuple" /\ o.dict=none)/\∃n,o.data=.seq items n
theorem gQ.tup {h:Heap}{a:Addr}{items:Array Value}(x:gQ h a items):IsTup h a items:=let ⟨o,e,c,d⟩:=x;⟨o,e,c.1,d⟩
theorem gQ.new (h:Heap)(items:Array Value):gQ (h.push { cls:=.type "tuple",data:=.seq items }) h.objs.size items:=⟨_,Heap.get?_push_size h rfl,⟨rfl,rfl⟩,0,rfl⟩
section
variable (P:Program)(w:World)
noncomputable def qY (H:Hp)(h:Heap)(a:Addr):HO->Prop
 | .lst xs=>xs.length<=sizeLine/\∃(its:List Value) (n:Nat),Vals xs its/\h.get? a=some { cls:=.type "list",data:=.seq its.toArray n }
 | .tup xs=>xs.length<=sizeLine/\∃its:List Value,Vals xs its/\gQ h a its.toArray
 | .dK kvs=>kvs.length<=sizeLine/\(a==sysModules)=false/\∃vs,KV kvs vs/\h.DictOf (Sk P w) a vs
 | .dT kvs=>kvs.length<=sizeLine/\(a==sysModules)=false/\∃xs:List (List Key × Addr × Value),
   Paired (λ (p:List Key × V) (q:List Key × Addr × Value)=>p.1=q.1/\H q.2.1=some (.tup (p.1.map kV))/\RelV p.2 q.2.2) kvs xs/\
   ∃o es ep,h.get? a=some o/\o.ExactDict/\o.data=.dict es ep/\es.toList=xs.map (entryOfKey (tupleKind (Sk P w)))/\(xs.map (·.1)).Nodup
 | .set S n=>h.SetOf (intKind P w) a S n
 | .ins C dx fs=>H dx=some (.own a)/\fs.length<=1000/\dx≠a/\h.get? a=some (PySem.W.instObj C dx)/\
   ∃mA,h.Ns1 dx mA/\(∀f,V0 (fs.lookup f) (mA f))/\PySem.Within mA (fs.map (·.1))
 | .own _=>∃o,h.get? a=some o
 | .xd fs=>∃mA,h.Ns1 a mA/\∀f,V0 (fs.lookup f) (mA f)
 | .rng lo hi=>∃t u v,h.get? a=some { cls:=.type "range",data:=.fields #[.int lo t,.int hi u,.int 1 v] }
 | .frz o u=>h.get? a=some o/\qY H h a u
 | .tbl ps=>h.get? a=some { cls:=.none,data:=.fields ps }
 | .met f x=>h.get? a=some (PySem.W.methodObj (.ref f) (.ref x))
 | .ext φ=>φ h/\(∃o,h.get? a=some o)/\∀h1 h2:Heap,φ h1->(∀o,h1.get? a=some o->h2.get? a=some o)->φ h2
noncomputable def jI (H:Hp)(h:Heap):Prop:=∀a o,H a=some o->qY P w H h a o
end
section
variable {P:Program}{w:World}{H H':Hp}{h h':Heap}{a:Addr}{o:HO}
theorem qY.lt (x:qY P w H h a o):a<h.objs.size:=by
 cases o with
 | lst xs=>obtain ⟨_,_,_,_,e⟩:=x;exact Heap.lt_size e
 | tup xs=>obtain ⟨_,_,_,p⟩:=x;exact p.tup.lt
 | dK kvs=>obtain ⟨_,_,_,_,o,_,_,e,_⟩:=x;exact Heap.lt_size e
 | dT kvs=>obtain ⟨_,_,_,_,o,_,_,e,_⟩:=x;exact Heap.lt_size e
 | set S n=>obtain ⟨o,_,_,_,e,_⟩:=x;exact Heap.lt_size e
 | ins C dx fs=>obtain ⟨_,_,_,e,_⟩:=x;exact Heap.lt_size e
 | own y=>obtain ⟨_,e⟩:=x;exact Heap.lt_size e
 | xd fs=>obtain ⟨_,⟨_,_,_,e,_⟩,_⟩:=x;exact Heap.lt_size e
 | rng lo hi=>obtain ⟨_,_,_,e⟩:=x;exact Heap.lt_size e
 | frz ob u=>obtain ⟨e,_⟩:=x;exact Heap.lt_size e
 | tbl ps=>exact Heap.lt_size (show h.get? a=some _ from x)
 | met f y=>exact Heap.lt_size (show h.get? a=some _ from x)
 | ext φ=>obtain ⟨_,⟨_,e⟩,_⟩:=x;exact Heap.lt_size e
theorem Paired.mapP {α β:Type}{F G:α->β->Prop}:∀{l₁:List α} {l₂:List β},Paired F l₁ l₂->(∀a b,F a b->G a b)->Paired G l₁ l₂
 | _,_,.nil,_=>.nil
 | _,_,.cons r t,f=>.cons (f _ _ r) (Paired.mapP t f)
theorem qY.stay (x:qY P w H h a o)(k:∀b u,(b=a∨H b=some (.own a))->h.get? b=some u->h'.get? b=some u)
  (ho:∀b,H b=some (.own a)->H' b=some (.own a))(ht:∀b xs,H b=some (.tup xs)->H' b=some (.tup xs)):qY P w H' h' a o:=by
 induction o with
 | lst xs=>obtain ⟨z,its,n,r,e⟩:=x;exact ⟨z,its,n,r,k _ _ (.inl rfl) e⟩
 | tup xs=>obtain ⟨z,its,r,ob,e,c⟩:=x;exact ⟨z,its,r,ob,k _ _ (.inl rfl) e,c⟩
 | dK kvs=>obtain ⟨z,y,vs,r,ob,es,ep,e,c⟩:=x;exact ⟨z,y,vs,r,ob,es,ep,k _ _ (.inl rfl) e,c⟩
 | dT kvs=>
  obtain ⟨z,y,xs,r,ob,es,ep,e,c⟩:=x
  exact ⟨z,y,xs,Paired.mapP r λ p q z=>⟨z.1,ht _ _ z.2.1,z.2.2⟩,ob,es,ep,k _ _ (.inl rfl) e,c⟩
 | set S n=>obtain ⟨ob,es,ep,t,e,c⟩:=x;exact ⟨ob,es,ep,t,k _ _ (.inl rfl) e,c⟩
 | ins C dx fs=>
  obtain ⟨d,z,ne,e,mA,⟨od,es,ep,e2,c⟩,r⟩:=x
  exact ⟨ho _ d,z,ne,k _ _ (.inl rfl) e,mA,⟨od,es,ep,k _ _ (.inr d) e2,c⟩,r⟩
 | own y=>obtain ⟨ob,e⟩:=x;exact ⟨ob,k _ _ (.inl rfl) e⟩
 | xd fs=>obtain ⟨mA,⟨od,es,ep,e,c⟩,r⟩:=x;exact ⟨mA,⟨od,es,ep,k _ _ (.inl rfl) e,c⟩,r⟩
 | rng lo hi=>obtain ⟨t,u,v,e⟩:=x;exact ⟨t,u,v,k _ _ (.inl rfl) e⟩
 | frz ob u ih=>obtain ⟨e,q⟩:=x;exact ⟨k _ _ (.inl rfl) e,ih q⟩
 | tbl ps=>
  have e:h.get? a=some { cls:=.none,data:=.fields ps }:=x
  show h'.get? a=some { cls:=.none,data:=.fields ps }
  exact k a _ (.inl rfl) e
 | met f y=>
  have e:h.get? a=some (PySem.W.methodObj (.ref f) (.ref y)):=x
  show h'.get? a=some (PySem.W.methodObj (.ref f) (.ref y))
  exact k a _ (.inl rfl) e
 | ext φ=>obtain ⟨p,⟨o,e⟩,st⟩:=x;exact ⟨st _ _ p λ o q=>k _ _ (.inl rfl) q,⟨o,k _ _ (.inl rfl) e⟩,st⟩
theorem jI.lt (x:jI P w H h)(e:H a=some o):a<h.objs.size:=(x a o e).lt
theorem jI.fresh (x:jI P w H h)(e:h.objs.size<=a):H a=none:=by
 cases q:H a with
 | none=>rfl
 | some u=>exact absurd (Nat.lt_of_lt_of_le (x.lt q) e) (Nat.lt_irrefl _)
theorem jI.kept (x:jI P w H h)(k:∀b u,h.get? b=some u->h'.get? b=some u):jI P w H h':=λ a o e=>
 (x a o e).stay (λ b u _ q=>k b u q) (λ _ q=>q) λ _ _ q=>q
theorem jI.laid (x:jI P w H h)(k:∀b u,h.get? b=some u->h'.get? b=some u)(hp:h.objs.size<=a)(new:qY P w (upd H a o) h' a o):jI P w (upd H a o) h':=λ b u e=>by
 have hn:=x.fresh hp
 by_cases hb:b=a
 ·subst hb;rw [jw] at e;cases e;exact new
 ·rw [qc hb] at e
  exact (x b u e).stay (λ c v _ q=>k c v q) (λ c q=>by rw [qc (yN q hn)];exact q) λ c xs q=>by rw [qc (yN q hn)];exact q
end
noncomputable def Rd (H:Hp)(a:Addr)(u:HO):Prop:=H a=some u∨∃o,H a=some (.frz o u)
theorem Rd.ok {P:Program}{w:World}{H:Hp}{h:Heap}{a:Addr}{u:HO}(r:Rd H a u)(x:jI P w H h):qY P w H h a u:=by
 rcases r with r | ⟨o,r⟩
 ·exact x a u r
 ·obtain ⟨_,q⟩:=x a _ r
  exact q
noncomputable def KW:Option HO->Prop
 | some (.lst _)=>True
 | some (.dK _)=>True
 | some (.dT _)=>True
 | some (.set _ _)=>True
 | some (.ins _ _ _)=>True
 | some (.ext _)=>True
 | _=>False
section
variable {P:Program}{w:World}{H:Hp}{h h':Heap}{x e:Addr}{o':HO}
theorem jI.write (ok:jI P w H h)(mu:KW (H x))(he:e=x∨H e=some (.own x))(k:∀b u,b≠e->h.get? b=some u->h'.get? b=some u)(heo:∃u,h'.get? e=some u)
  (new:qY P w (upd H x o') h' x o'):jI P w (upd H x o') h':=λ b u q=>by
 have nown:∀c y,H c=some (.own y)->c≠x:=λ c y r z=>by subst z;rw [r] at mu;exact mu
 have ntup:∀c xs,H c=some (.tup xs)->c≠x:=λ c xs r z=>by subst z;rw [r] at mu;exact mu
 by_cases hb:b=x
 ·subst hb;rw [jw] at q;cases q;exact new
 ·rw [qc hb] at q
  by_cases hbe:b=e
  ·have q':H b=some (.own x):=by
    rcases he with z | z
    ·exact absurd (hbe.trans z) hb
    ·rw [hbe];exact z
   rw [q] at q';cases q'
   obtain ⟨v,hv⟩:=heo
   exact ⟨v,by rw [hbe];exact hv⟩
  ·refine (ok b u q).stay (λ c v hc r=>k c v ?_ r) (λ c r=>by rw [qc (nown c b r)];exact r) λ c xs r=>by rw [qc (ntup c xs r)];exact r
   rcases hc with rfl | hc
   ·exact hbe
   ·rintro rfl
    rcases he with z | z
    ·exact nown c b hc z
    ·rw [hc] at z;cases z;exact hb rfl
end
structure Un (fs ex:List Addr)(H H':Hp)(h h':Heap):Prop where
 keep:∀b o,h.get? b=some o->H b=none->b∉fs->b∉ex->h'.get? b=some o
 slot:∀b o,h.get? b=some o->H b=none->b∈fs->b∉ex->∃sl,h'.get? b=some { o with slots:=sl }
 free:∀b o,h.get? b=some o->H b=none->b∉ex->H' b=none
 there:∀b o,h.get? b=some o->b∉ex->∃o',h'.get? b=some o'
 tups:∀b xs,H b=some (.tup xs)->H' b=some (.tup xs)
 frzs:∀b o u,H b=some (.frz o u)->H' b=some (.frz o u)
 tbls:∀b ps,H b=some (.tbl ps)->∃more,H' b=some (.tbl (ps++more))
section
variable {fs fs' ex ex':List Addr}{H H1 H2:Hp}{h h1 h2 h':Heap}{a x e:Addr}{o:HO}
theorem Un.any (u:Un fs ex H H1 h h1){b:Addr}{ob:Obj}(q:h.get? b=some ob)(n:H b=none)(hx:b∉ex):∃sl,h1.get? b=some { ob with slots:=sl }:=by
 by_cases hb:b∈fs
 ·exact u.slot b ob q n hb hx
 ·exact ⟨ob.slots,u.keep b ob q n hb hx⟩
theorem Un.kept (k:∀b u,h.get? b=some u->h'.get? b=some u):Un fs ex H H h h':=
 ⟨λ b ob q _ _ _=>k b ob q,λ b ob q _ _ _=>⟨ob.slots,k b ob q⟩,λ _ _ _ n _=>n,λ b ob q _=>⟨ob,k b ob q⟩,λ _ _ q=>q,λ _ _ _ q=>q,λ _ ps q=>⟨#[],by rw [q];simp⟩⟩
theorem Un.refl:Un fs ex H H h h:=Un.kept λ _ _ q=>q
theorem Un.laid (k:∀b u,h.get? b=some u->h'.get? b=some u)(hp:h.objs.size<=a)(hn:H a=none):Un fs ex H (upd H a o) h h' where
 keep:=λ b u q _ _ _=>k b u q
 slot:=λ b u q _ _ _=>⟨u.slots,k b u q⟩
 free:=λ b u q n _=>by rw [qc (Nat.ne_of_lt (Nat.lt_of_lt_of_le (Heap.lt_size q) hp))];exact n
 there:=λ b u q _=>⟨u,k b u q⟩
 tups:=λ b xs q=>by rw [qc (yN q hn)];exact q
 frzs:=λ b u xs q=>by rw [qc (yN q hn)];exact q
 tbls:=λ b ps q=>⟨#[],by rw [qc (yN q hn),q];simp⟩
theorem Un.write (mu:KW (H x))(he:e=x∨H e=some (.own x))(k:∀b u,b≠e->h.get? b=some u->h'.get? b=some u)(heo:∃u,h'.get? e=some u):Un fs ex H (upd H x o) h h':=by
 have hx:∀b,H b=none->b≠x:=λ b n z=>by subst z;rw [n] at mu;exact mu
 have hb:∀b,H b=none->b≠e:=λ b n z=>by
  subst z
  rcases he with r | r
  ·exact hx b n r
  ·rw [n] at r;cases r
 have hm:∀b u,H b=some u->¬KW (some u)->b≠x:=λ b u q nm z=>by subst z;rw [q] at mu;exact nm mu
 refine ⟨λ b u q n _ _=>k b u (hb b n) q,λ b u q n _ _=>⟨u.slots,k b u (hb b n) q⟩,λ b u q n _=>by rw [qc (hx b n)];exact n,λ b u q _=>?_,
  λ b xs q=>by rw [qc (hm b _ q λ z=>z)];exact q,λ b u xs q=>by rw [qc (hm b _ q λ z=>z)];exact q,λ b ps q=>⟨#[],by rw [qc (hm b _ q λ z=>z),q];simp⟩⟩
 by_cases hbe:b=e
 ·subst hbe;exact heo
 ·exact ⟨u,k b u hbe q⟩
end
noncomputable def K2 (h:Heap)(H:Hp):List Addr:=(List.range h.objs.size).filter λ a=>(H a).isSome
noncomputable def gn (h:Heap)(H:Hp):Heap:=PySem.W.hideAll h (K2 h H)
theorem N6 (h:Heap)(H:Hp):(gn h H).objs.size=h.objs.size:=PySem.W.hideAll_size _ _
theorem Iu {h:Heap}{H:Hp}{b:Addr}{o:Obj}(e:h.get? b=some o)(n:H b=none):(gn h H).get? b=some o:=
 PySem.W.hideAll_get _ e λ hm=>by
  have q:(H b).isSome=true:=(List.mem_filter.mp hm).2
  rw [n] at q;simp at q
theorem HU {h:Heap}{H:Hp}{b:Addr}{o:Obj}(e:(gn h H).get? b=some o):h.get? b=some o/\H b=none:=by
 have e':h.get? b=some o:=PySem.W.of_hideAll (K2 h H) e
 refine ⟨e',?_⟩
 cases q:H b with
 | none=>rfl
 | some x=>
  have hm:b∈K2 h H:=List.mem_filter.mpr ⟨List.mem_range.mpr (Heap.lt_size e'),by simp [q]⟩
  have z:(gn h H).get? b=none:=PySem.W.hideAll_none (K2 h H) hm
  rw [z] at e;cases e
structure Mod (K:Frag)(mg:Str->Option Value)(base:Heap):Prop where
 kin:K.In base
 glob:base.Ns mainGlobals mg
 blt:∃mb,base.Ns builtinsNs mb/\∀x:Str,x ≠ "__name__" -> mb x=bootBuiltins x
 nolimit:base.NoLimit
structure Cx where
 prog:Program
 w:World
 K:Frag
 mg:Str->Option Value
 base:Heap
 A:Around
 N:List Str
 s0:Shared
 H0:Hp
 env:Env
 outer:List Env
 stack:List Env
 ex:List Addr
 fn:Str->Bool
 calm:Bool
 pn:List (Addr × Obj)
 xe:Value->Shared->Prop
noncomputable def ql (l:List Env):List Addr:=l.filterMap (·.frame)
noncomputable abbrev Cx.fs (X:Cx):List Addr:=ql X.outer
noncomputable def KU (sc:Scope)(x:Str):Prop:=sc.names.lookup x=some .local∨sc.names.lookup x=some .cell∨sc.names.lookup x=some .free
noncomputable def Loc (sc:Scope)(x:Str):Prop:=sc.names.lookup x=some .local∨sc.names.lookup x=some .cell
noncomputable def Look (env:Env)(h:Heap)(m:Str->Option Value)(x:Str)(u:Value):Prop:=
 (env.kindOf x=some .local/\m x=some u)∨((env.kindOf x=some .cell∨env.kindOf x=some .free)/\∃c,env.cells.lookup x=some c/\h.IsCell c (some u))
structure Cx.Ok (X:Cx):Prop where
 mod:Mod X.K X.mg X.base
 kind:X.env.scope.kind=.function
 glob:X.env.globals=mainGlobals
 blt:X.env.builtins=builtinsNs
 above:X.s0.heap.objs.size<=X.env.locals
 inj:∀x y c,X.env.cells.lookup x=some c->X.env.cells.lookup y=some c->x=y
 has:∀x,(X.env.kindOf x=some .cell∨X.env.kindOf x=some .free)->∃c,X.env.cells.lookup x=some c
 cab:∀x c,X.fn x=true->X.env.cells.lookup x=some c->X.s0.heap.objs.size<=c
 hd:X.calm=true->X.A.handled=none
 frames:X.A.frames=some X.stack
 stk:X.stack=X.outer∨(X.stack=X.env::X.outer/\X.env.frame=some X.env.locals)
 exf:∀b∈X.ex,b≠X.env.locals/\∀x c,X.env.cells.lookup x=some c->c≠b
 bs:∀b o,X.base.get? b=some o->X.s0.heap.get? b=some o/\X.H0 b=none
 bsz:X.base.objs.size<=X.s0.heap.objs.size
 noex:∀b o,X.base.get? b=some o->b∉X.ex
 exfs:∀b∈X.ex,b∉X.fs
 funs:X.s0.heap.FunFrames X.base X.outer
 frf:∀b∈X.fs,X.H0 b=none
structure Inv (X:Cx)(pins:List (Addr × Obj))(σ:List (Option V))(H:Hp)(s:Shared):Prop where
 ok:X.Ok
 os:s.os=X.s0.os
 bare:AllBare s.gens
 base:Un X.fs X.ex X.H0 H X.s0.heap s.heap
 loc:∃m,s.heap.Ns X.env.locals m/\∀(i:Nat) (x:Str) (v:V),X.N[i]? =some x->σ[i]? =some (some v)->KU X.env.scope x->∃u,RelV v u/\Look X.env s.heap m x u
 cell:∀x c,X.env.cells.lookup x=some c->∃v,s.heap.IsCell c v
 free:H X.env.locals=none
 freeC:∀x c,X.env.cells.lookup x=some c->H c=none
 pin:∀p∈X.pn++pins,s.heap.get? p.1=some p.2/\H p.1=none/\p.1≠X.env.locals/\p.1∉X.fs/\∀v,p.2.data≠.cell v
 hok:jI X.prog X.w H s.heap
 len:σ.length=X.N.length
section
variable {X:Cx}{pins:List (Addr × Obj)}{σ:List (Option V)}{H H':Hp}{s:Shared}{h':Heap}
theorem Cx.Ok.nofr (ok:X.Ok){b:Addr}{o:Obj}(e:X.base.get? b=some o):b∉X.fs:=λ hb=>by
 have:=(ok.funs.mem hb).1
 rw [e] at this;cases this
theorem Inv.bs (I:Inv X pins σ H s):∀b o,X.base.get? b=some o->s.heap.get? b=some o/\H b=none:=λ b o e=>
 ⟨I.base.keep b o (I.ok.bs b o e).1 (I.ok.bs b o e).2 (I.ok.nofr e) (I.ok.noex b o e),I.base.free b o (I.ok.bs b o e).1 (I.ok.bs b o e).2 (I.ok.noex b o e)⟩
theorem Inv.bk (I:Inv X pins σ H s):∀b o,X.base.get? b=some o->s.heap.get? b=some o:=λ b o e=>(I.bs b o e).1
theorem Inv.mod (I:Inv X pins σ H s):Mod X.K X.mg X.base:=I.ok.mod
theorem Inv.kIn (I:Inv X pins σ H s):X.K.In s.heap:=I.ok.mod.kin.keeps I.bk
theorem Inv.lt (I:Inv X pins σ H s):X.env.locals<s.heap.objs.size:=let ⟨_,hn,_⟩:=I.loc;hn.lt
theorem Inv.sz (I:Inv X pins σ H s):X.s0.heap.objs.size<=s.heap.objs.size:=Nat.le_trans I.ok.above (Nat.le_of_lt I.lt)
theorem Inv.nofs (I:Inv X pins σ H s){a:Addr}(h:s.heap.objs.size<=a):a∉X.fs:=λ hb=>by
 obtain ⟨_,o,ho,_⟩:=I.ok.funs.mem hb
 exact absurd (Nat.lt_of_lt_of_le (Heap.lt_size ho) (Nat.le_trans I.sz h)) (Nat.lt_irrefl _)
theorem Inv.cne (I:Inv X pins σ H s):∀x c,X.env.cells.lookup x=some c->c≠X.env.locals:=λ x c e z=>by
 obtain ⟨v,o,ho,hd⟩:=I.cell x c e
 obtain ⟨m,⟨o',es,ep,ho',hd',_⟩,_⟩:=I.loc
 rw [z,ho'] at ho;cases ho;rw [hd'] at hd;cases hd
theorem Inv.funs (I:Inv X pins σ H s):s.heap.FunFrames X.base X.outer:=by
 have all:∀(l:List Env),(∀b∈ql l,b∈X.fs)->X.s0.heap.FunFrames X.base l->s.heap.FunFrames X.base l:=by
  intro l
  induction l with
  | nil=>intro _ _;trivial
  | cons env r ih=>
   intro hs hl
   obtain ⟨hk,⟨L,o,hf,hn,ho,hd⟩,hr⟩:=hl
   have hL:L∈X.fs:=hs L (by unfold ql;rw [List.filterMap_cons,hf];exact List.mem_cons_self)
   obtain ⟨sl,e⟩:=I.base.slot L o ho (I.ok.frf L hL) hL λ z=>I.ok.exfs L z hL
   exact ⟨hk,⟨L,_,hf,hn,e,hd⟩,ih (λ b hb=>hs b (by unfold ql;rw [List.filterMap_cons,hf];exact List.mem_cons_of_mem _ hb)) hr⟩
 exact all X.outer (λ _ hb=>hb) I.ok.funs
theorem Inv.stack (I:Inv X pins σ H s):s.heap.FunFrames X.base X.stack:=by
 rcases I.ok.stk with e | ⟨e,hf⟩
 ·rw [e];exact I.funs
 ·rw [e]
  obtain ⟨m,hn,_⟩:=I.loc
  refine .cons (by rw [I.ok.kind];decide) hf hn ?_ I.funs
  exact Heap.get?_none_of_le (Nat.le_trans I.ok.bsz I.ok.above)
theorem Inv.stkSub (I:Inv X pins σ H s):∀b∈ql X.stack,b∈X.env.locals::X.fs:=λ b hb=>by
 rcases I.ok.stk with e | ⟨e,hf⟩
 ·rw [e] at hb;exact List.mem_cons_of_mem _ hb
 ·rw [e] at hb
  unfold ql at hb
  rw [List.filterMap_cons,hf] at hb
  exact hb
theorem Inv.stkFree (I:Inv X pins σ H s):∀b∈ql X.stack,H b=none:=λ b hb=>by
 rcases List.mem_cons.mp (I.stkSub b hb) with e | hb
 ·rw [e];exact I.free
 ·obtain ⟨_,o,ho,_⟩:=I.ok.funs.mem hb
  exact I.base.free b o ho (I.ok.frf b hb) λ z=>I.ok.exfs b z hb
theorem Inv.step {g':Array GenState}{t':Nat}{d':Drawn}{ch:List Addr}(I:Inv X pins σ H s)
  (hch:∀b∈ch,(b∈X.ex∨X.s0.heap.objs.size<=b)/\b≠X.env.locals/\(∀x c,X.env.cells.lookup x=some c->c≠b)/\∀p∈X.pn++pins,p.1≠b)
  (keep:∀b o,b≠X.env.locals->b∉X.fs->b∉ch->s.heap.get? b=some o->H b=none->h'.get? b=some o)
  (slot:∀b o,b≠X.env.locals->b∈X.fs->b∉ch->s.heap.get? b=some o->H b=none->∃sl,h'.get? b=some { o with slots:=sl })(free:∀b o,b∉ch->s.heap.get? b=some o->H b=none->H' b=none)
  (there:∀b o,b∉ch->s.heap.get? b=some o->∃o',h'.get? b=some o')
  (tups:∀b xs,H b=some (.tup xs)->H' b=some (.tup xs))(frzs:∀b o u,H b=some (.frz o u)->H' b=some (.frz o u))(tbls:∀b ps,H b=some (.tbl ps)->∃more,H' b=some (.tbl (ps++more)))
  (ns:∀m,s.heap.Ns X.env.locals m->h'.Ns X.env.locals m)(hok:jI X.prog X.w H' h')(hg:AllBare g'):
  Inv X pins σ H' { s with heap:=h',gens:=g',drawn:=d',toks:=t' }:=by
 have Q3:∀b o,X.s0.heap.get? b=some o->b≠X.env.locals:=λ b o e=>Nat.ne_of_lt (Nat.lt_of_lt_of_le (Heap.lt_size e) I.ok.above)
 have neC:∀b o,X.s0.heap.get? b=some o->b∉X.ex->b∉ch:=λ b o e hx hb=>by
  rcases (hch b hb).1 with z | z
  ·exact hx z
  ·exact absurd (Nat.lt_of_lt_of_le (Heap.lt_size e) z) (Nat.lt_irrefl _)
 have cellK:∀x c,X.env.cells.lookup x=some c->∀v,s.heap.IsCell c v->h'.IsCell c v:=λ x c e v ⟨o,ho,hd⟩=>by
  have nch:c∉ch:=λ z=>(hch c z).2.2.1 x c e rfl
  by_cases hc:c∈X.fs
  ·obtain ⟨sl,q⟩:=slot c o (I.cne x c e) hc nch ho (I.freeC x c e)
   exact ⟨_,q,hd⟩
  ·exact ⟨o,keep c o (I.cne x c e) hc nch ho (I.freeC x c e),hd⟩
 refine ⟨I.ok,I.os,hg,⟨λ b o e n hb hx=>?_,λ b o e n hb hx=>?_,λ b o e n hx=>?_,λ b o e hx=>?_,λ b xs e=>tups b xs (I.base.tups b xs e),λ b o xs e=>frzs b o xs (I.base.frzs b o xs e),λ b ps e=>?_⟩,?_,λ x c e=>?_,?_,λ x c e=>?_,λ p hp=>?_,hok,I.len⟩
 ·exact keep b o (Q3 b o e) hb (neC b o e hx) (I.base.keep b o e n hb hx) (I.base.free b o e n hx)
 ·obtain ⟨sl,e1⟩:=I.base.slot b o e n hb hx
  obtain ⟨sl',e2⟩:=slot b _ (Q3 b o e) hb (neC b o e hx) e1 (I.base.free b o e n hx)
  exact ⟨sl',e2⟩
 ·obtain ⟨o',e1⟩:=I.base.there b o e hx
  exact free b o' (neC b o e hx) e1 (I.base.free b o e n hx)
 ·obtain ⟨o',e1⟩:=I.base.there b o e hx
  exact there b o' (neC b o e hx) e1
 ·obtain ⟨m1,e1⟩:=I.base.tbls b ps e
  obtain ⟨m2,e2⟩:=tbls b _ e1
  exact ⟨m1++m2,by rw [e2,Array.append_assoc]⟩
 ·obtain ⟨m,hn,hl⟩:=I.loc
  refine ⟨m,ns m hn,λ i x v e1 e2 e3=>?_⟩
  obtain ⟨u,r,l⟩:=hl i x v e1 e2 e3
  refine ⟨u,r,?_⟩
  rcases l with l | ⟨k,c,e,z⟩
  ·exact .inl l
  ·exact .inr ⟨k,c,e,cellK x c e _ z⟩
 ·obtain ⟨v,z⟩:=I.cell x c e
  exact ⟨v,cellK x c e v z⟩
 ·obtain ⟨m,⟨o,_,_,ho,_⟩,_⟩:=I.loc
  exact free _ o (λ z=>(hch _ z).2.1 rfl) ho I.free
 ·obtain ⟨v,o,ho,hd⟩:=I.cell x c e
  exact free c o (λ z=>(hch c z).2.2.1 x c e rfl) ho (I.freeC x c e)
 ·obtain ⟨e,n,ne,nf,d⟩:=I.pin p hp
  have nch:p.1∉ch:=λ z=>(hch p.1 z).2.2.2 p hp rfl
  exact ⟨keep p.1 p.2 ne nf nch e n,free p.1 p.2 nch e n,ne,nf,d⟩
theorem Inv.un {t':Nat}(I:Inv X pins σ H s)(u:Un X.fs [] H H' s.heap h')(hok:jI X.prog X.w H' h'):Inv X pins σ H' { s with heap:=h',toks:=t' }:=by
 obtain ⟨m,⟨o,es,ep,ho,r⟩,_⟩:=id I.loc
 obtain ⟨sl,hL⟩:=u.any ho I.free (by simp)
 exact I.step (g':=s.gens) (d':=s.drawn) (ch:=[]) (λ _ z=>nomatch z) (λ b o _ hb _ e n=>u.keep b o e n hb (by simp)) (λ b o _ hb _ e n=>u.slot b o e n hb (by simp)) (λ b o _ e n=>u.free b o e n (by simp)) (λ b o _ e=>u.there b o e (by simp)) u.tups u.frzs u.tbls (λ m' hm=>by
  obtain ⟨o',es',ep',ho',r'⟩:=hm
  rw [ho] at ho';cases ho'
  exact ⟨_,es',ep',hL,r'⟩) hok I.bare
theorem Inv.call {g':Array GenState}{t':Nat}{d':Drawn}{ch:List Addr}(I:Inv X pins σ H s)(u:Un (ql X.stack) ch H H' s.heap h')(hok:jI X.prog X.w H' h')(hg:AllBare g')
  (hch:∀b∈ch,(b∈X.ex∨X.s0.heap.objs.size<=b)/\b≠X.env.locals/\(∀x c,X.env.cells.lookup x=some c->c≠b)/\∀p∈X.pn++pins,p.1≠b):
  Inv X pins σ H' { s with heap:=h',gens:=g',drawn:=d',toks:=t' }:=by
 obtain ⟨m,⟨o,es,ep,ho,r⟩,_⟩:=id I.loc
 obtain ⟨sl,hL⟩:=u.any ho I.free λ z=>(hch _ z).2.1 rfl
 exact I.step (ch:=ch) hch (λ b o hL hb hc e n=>u.keep b o e n (λ z=>(List.mem_cons.mp (I.stkSub b z)).elim hL hb) hc) (λ b o _ _ hc e n=>u.any e n hc) (λ b o hc e n=>u.free b o e n hc) (λ b o hc e=>u.there b o e hc) u.tups u.frzs u.tbls (λ m' hm=>by
  obtain ⟨o',es',ep',ho',r'⟩:=hm
  rw [ho] at ho';cases ho'
  exact ⟨_,es',ep',hL,r'⟩) hok hg
theorem Inv.turned {t':Nat}{it:Addr}(I:Inv X pins σ H s)(k:∀b o,b≠it->s.heap.get? b=some o->h'.get? b=some o)(hn:H it=none)(hL:it≠X.env.locals)
  (h1:it∈X.ex∨X.s0.heap.objs.size<=it)(h2:∀x c,X.env.cells.lookup x=some c->c≠it)(h3:∀p∈X.pn++pins,p.1≠it):Inv X pins σ H { s with heap:=h',toks:=t' }:=by
 have nit:∀b u,H b=some u->b≠it:=λ b u e z=>by rw [z,hn] at e;cases e
 refine I.step (g':=s.gens) (d':=s.drawn) (ch:=[it]) (λ b hb=>?_) (λ b o _ _ hc e _=>k b o (λ z=>hc (by simp [z])) e) (λ b o _ _ hc e _=>⟨o.slots,k b o (λ z=>hc (by simp [z])) e⟩) (λ _ _ _ _ n=>n)
  (λ b o hc e=>⟨o,k b o (λ z=>hc (by simp [z])) e⟩) (λ _ _ e=>e) (λ _ _ _ e=>e) (λ b ps e=>⟨#[],by rw [e];simp⟩) (λ m hm=>?_) (λ b u e=>?_) I.bare
 ·have e:b=it:=by simpa using hb
  subst e
  exact ⟨h1,hL,h2,h3⟩
 ·obtain ⟨o,es,ep,ho,r⟩:=hm
  exact ⟨o,es,ep,k _ o (Ne.symm hL) ho,r⟩
 ·refine (I.hok b u e).stay (λ c v hc q=>k c v ?_ q) (λ _ q=>q) λ _ _ q=>q
  rcases hc with z | z
  ·rw [z];exact nit b u e
  ·exact nit c _ z
theorem Inv.tok (I:Inv X pins σ H s)(t:Nat):Inv X pins σ H { s with toks:=t }:=I.un (h':=s.heap) (t':=t) Un.refl I.hok
theorem Inv.kept {t':Nat}(I:Inv X pins σ H s)(k:∀b u,s.heap.get? b=some u->h'.get? b=some u):Inv X pins σ H { s with heap:=h',toks:=t' }:=I.un (Un.kept k) (I.hok.kept k)
theorem Inv.laid {a:Addr}{o:HO}{t':Nat}(I:Inv X pins σ H s)(k:∀b u,s.heap.get? b=some u->h'.get? b=some u)(hp:s.heap.objs.size<=a)(new:qY X.prog X.w (upd H a o) h' a o):
  Inv X pins σ (upd H a o) { s with heap:=h',toks:=t' }:=I.un (Un.laid k hp (I.hok.fresh hp)) (I.hok.laid k hp new)
theorem Inv.write {x e:Addr}{o:HO}{t':Nat}(I:Inv X pins σ H s)(mu:KW (H x))(he:e=x∨H e=some (.own x))(k:∀b u,b≠e->s.heap.get? b=some u->h'.get? b=some u)(heo:∃u,h'.get? e=some u)
  (new:qY X.prog X.w (upd H x o) h' x o):Inv X pins σ (upd H x o) { s with heap:=h',toks:=t' }:=I.un (Un.write mu he k heo) (I.hok.write mu he k heo new)
theorem Inv.pins_of {pins':List (Addr × Obj)}(I:Inv X pins σ H s)(h:∀p∈pins',s.heap.get? p.1=some p.2/\H p.1=none/\p.1≠X.env.locals/\p.1∉X.fs/\∀v,p.2.data≠.cell v):Inv X pins' σ H s:=
 ⟨I.ok,I.os,I.bare,I.base,I.loc,I.cell,I.free,I.freeC,λ p hp=>(List.mem_append.mp hp).elim (λ z=>I.pin p (List.mem_append_left _ z)) (h p),I.hok,I.len⟩
theorem G7 {N:List Str}(hN:N.Nodup){i j:Nat}{x:Str}(a:N[i]? =some x)(b:N[j]? =some x):i=j:=by
 obtain ⟨h1,e1⟩:=List.getElem?_eq_some_iff.mp a
 obtain ⟨h2,e2⟩:=List.getElem?_eq_some_iff.mp b
 exact (List.getElem_inj hN).mp (e1.trans e2.symm)
theorem Ti {M:Model}{A:Around}{E:Value->Shared->Prop}{i:Nat}{x:Str}{v:V}{u:Value}{Q:Unit->Shared->Prop}(I:Inv X pins σ H s)(hN:X.N.Nodup)(hi:X.N[i]? =some x)(hx:Loc X.env.scope x)(r:RelV v u)
  (h:∀s',Inv X pins (σ.set i (some v)) H s'->(∃a,Heap.SameBut a s.heap s'.heap/\(a=X.env.locals∨X.env.cells.lookup x=some a))->Q () s')(hf:X.fn x=true∨X.env.scope.names.lookup x=some .local:=by first | exact .inl rfl | exact .inr rfl | assumption):wpAny M A (storeName X.env x u) Q E s:=by
 obtain ⟨m,hn,hl⟩:=id I.loc
 have hcls:(X.env.scope.kind==.class || (X.env.scope.kind==.module&&X.env.locals != X.env.globals))=false:=by rw [I.ok.kind];rfl
 have hiσ:i < σ.length:=by rw [I.len];exact (List.getElem?_eq_some_iff.mp hi).1
 have cne:=I.cne
 have tracked:∀{a:Addr} {h':Heap},(∃o,s.heap.get? a=some o/\H a=none)->Heap.SameBut a s.heap h'->jI X.prog X.w H h':=λ {a h'} ha hs b ob e=>by
  obtain ⟨_,_,hfree⟩:=ha
  refine (I.hok b ob e).stay (λ c w' hc q=>(hs.2 c ?_).trans q) (λ _ q=>q) λ _ _ q=>q
  rintro rfl
  rcases hc with rfl | hc
  ·rw [hfree] at e;cases e
  ·rw [hfree] at hc;cases hc
 rcases hx with hk | hk
 ·refine wpAny_storeName_local hk hn (λ h' hn' hs=>?_) hcls
  obtain ⟨oL,_,_,hoL,_⟩:=id hn
  refine h _ ⟨I.ok,I.os,I.bare,⟨λ b o e n hb hx=>?_,λ b o e n hb hx=>?_,I.base.free,λ b o e hx=>?_,I.base.tups,I.base.frzs,I.base.tbls⟩,⟨_,hn',λ j y v' e1 e2 e3=>?_⟩,λ y c e=>?_,I.free,I.freeC,λ p hp=>?_,tracked ⟨oL,hoL,I.free⟩ hs,by simpa using I.len⟩ ⟨_,hs,.inl rfl⟩
  ·exact (hs.2 b (Nat.ne_of_lt (Nat.lt_of_lt_of_le (Heap.lt_size e) I.ok.above))).trans (I.base.keep b o e n hb hx)
  ·obtain ⟨sl,e1⟩:=I.base.slot b o e n hb hx
   exact ⟨sl,(hs.2 b (Nat.ne_of_lt (Nat.lt_of_lt_of_le (Heap.lt_size e) I.ok.above))).trans e1⟩
  ·obtain ⟨o',e1⟩:=I.base.there b o e hx
   exact ⟨o',(hs.2 b (Nat.ne_of_lt (Nat.lt_of_lt_of_le (Heap.lt_size e) I.ok.above))).trans e1⟩
  ·by_cases hj:j=i
   ·subst hj
    rw [hi] at e1;cases e1
    rw [List.getElem?_set_self hiσ] at e2
    cases e2
    exact ⟨u,r,.inl ⟨hk,by simp⟩⟩
   ·rw [List.getElem?_set_ne (Ne.symm hj)] at e2
    obtain ⟨u',r',q⟩:=hl j y v' e1 e2 e3
    refine ⟨u',r',?_⟩
    rcases q with ⟨k,e⟩ | ⟨k,c,e,z⟩
    ·refine .inl ⟨k,?_⟩
     have:y≠x:=λ e=>hj (G7 hN e1 (e ▸ hi))
     simp [this,e]
    ·exact .inr ⟨k,c,e,z.sameBut hs (cne y c e)⟩
  ·obtain ⟨w',z⟩:=I.cell y c e
   exact ⟨w',z.sameBut hs (cne y c e)⟩
  ·obtain ⟨e,n,ne,nf,d⟩:=I.pin p hp
   exact ⟨(hs.2 p.1 ne).trans e,n,ne,nf,d⟩
 ·have hfn:X.fn x=true:=by
   rcases hf with z | z
   ·exact z
   ·rw [z] at hk;cases hk
  obtain ⟨c,hc⟩:=I.ok.has x (.inl hk)
  obtain ⟨w',z⟩:=I.cell x c hc
  refine wpAny_storeName_cell I.ok.kind hk hc z (λ h' hc' hs=>?_)
  obtain ⟨oc,hoc,hocd⟩:=id z
  refine h { s with heap:=h' } ⟨I.ok,I.os,I.bare,⟨λ b o e n hb hx=>?_,λ b o e n hb hx=>?_,I.base.free,λ b o e hx=>?_,I.base.tups,I.base.frzs,I.base.tbls⟩,⟨m,hn.sameBut hs (Ne.symm (cne x c hc)),λ j y v' e1 e2 e3=>?_⟩,λ y c' e=>?_,I.free,I.freeC,λ p hp=>?_,tracked ⟨oc,hoc,I.freeC x c hc⟩ hs,by simpa using I.len⟩ ⟨c,hs,.inr hc⟩
  ·exact (hs.2 b (Nat.ne_of_lt (Nat.lt_of_lt_of_le (Heap.lt_size e) (I.ok.cab x c hfn hc)))).trans (I.base.keep b o e n hb hx)
  ·obtain ⟨sl,e1⟩:=I.base.slot b o e n hb hx
   exact ⟨sl,(hs.2 b (Nat.ne_of_lt (Nat.lt_of_lt_of_le (Heap.lt_size e) (I.ok.cab x c hfn hc)))).trans e1⟩
  ·obtain ⟨o',e1⟩:=I.base.there b o e hx
   exact ⟨o',(hs.2 b (Nat.ne_of_lt (Nat.lt_of_lt_of_le (Heap.lt_size e) (I.ok.cab x c hfn hc)))).trans e1⟩
  ·by_cases hj:j=i
   ·subst hj
    rw [hi] at e1;cases e1
    rw [List.getElem?_set_self hiσ] at e2
    cases e2
    exact ⟨u,r,.inr ⟨.inl hk,c,hc,hc'⟩⟩
   ·rw [List.getElem?_set_ne (Ne.symm hj)] at e2
    obtain ⟨u',r',q⟩:=hl j y v' e1 e2 e3
    refine ⟨u',r',?_⟩
    rcases q with q | ⟨k,c',e,z'⟩
    ·exact .inl q
    ·refine .inr ⟨k,c',e,z'.sameBut hs ?_⟩
     rintro rfl
     exact hj (G7 hN e1 (I.ok.inj _ _ _ e hc ▸ hi))
  ·by_cases hcc:c'=c
   ·subst hcc;exact ⟨_,hc'⟩
   ·obtain ⟨w2,z2⟩:=I.cell y c' e
    exact ⟨w2,z2.sameBut hs hcc⟩
  ·obtain ⟨e,n,ne,nf,d⟩:=I.pin p hp
   refine ⟨(hs.2 p.1 ?_).trans e,n,ne,nf,d⟩
   intro q
   rw [q,hoc] at e
   have q':oc=p.2:=Option.some.inj e
   exact d w' (by rw [<- q'];exact hocd)
theorem YK {M:Model}{A:Around}{E:Value->Shared->Prop}{i:Nat}{x:Str}{v:V}{u:Value}{Q:Unit->Shared->Prop}(I:Inv X pins σ H s)(hN:X.N.Nodup)(hi:X.N[i]? =some x)(hx:Loc X.env.scope x)(r:RelV v u)
  (h:∀s',Inv X pins (σ.set i (some v)) H s'->Q () s')(hf:X.fn x=true∨X.env.scope.names.lookup x=some .local:=by first | exact .inl rfl | exact .inr rfl | assumption):wpAny M A (storeName X.env x u) Q E s:=
 Ti I hN hi hx r (λ s' I' _=>h s' I') hf
theorem Inv.call' {s':Shared}{ch:List Addr}(I:Inv X pins σ H s)(ho:s'.os=s.os)(u:Un (ql X.stack) ch H H' s.heap s'.heap)(hok:jI X.prog X.w H' s'.heap)(hg:AllBare s'.gens)
  (hch:∀b∈ch,(b∈X.ex∨X.s0.heap.objs.size<=b)/\b≠X.env.locals/\(∀x c,X.env.cells.lookup x=some c->c≠b)/\∀p∈X.pn++pins,p.1≠b):Inv X pins σ H' s':=by
 obtain ⟨h',g',d',t',o'⟩:=s'
 have e:o'=s.os:=ho
 subst e
 exact I.call (g':=g') (t':=t') (d':=d') u hok hg hch
end
noncomputable abbrev XK:=Value->Option Addr->Hp->Prop
noncomputable abbrev St:=List (Option V)
noncomputable abbrev VK:=V->Hp->Prop
noncomputable abbrev TE:=St->Hp->VK->Prop
noncomputable abbrev TT:=St->Hp->(Bool->Hp->Prop)->Prop
noncomputable abbrev TA:=St->Hp->(List V->Hp->Prop)->Prop
structure Ends where
 nx:St->Hp->Prop
 rt:VK
 bk:St->Hp->Prop:=λ _ _=>False
 ct:St->Hp->Prop:=λ _ _=>False
noncomputable abbrev TS:=Ends->St->Hp->Prop
inductive EP (X:Cx)(pins:List (Addr × Obj))(σ:St)(Q:VK)(u:Value)(s':Shared):Prop
 | mk (v:V) (H':Hp) (I:Inv X pins σ H' s') (r:RelV v u) (q:Q v H')
noncomputable def TP (X:Cx)(pins:List (Addr × Obj))(σ:St)(Q:Bool->Hp->Prop)(b:Bool)(s':Shared):Prop:=∃H',Inv X pins σ H' s'/\Q b H'
inductive AP (X:Cx)(pins:List (Addr × Obj))(σ:St)(Q:List V->Hp->Prop)(us:List Value)(s':Shared):Prop
 | mk (vs:List V) (H':Hp) (I:Inv X pins σ H' s') (r:Vals vs us) (q:Q vs H')
noncomputable def SP (X:Cx)(pins:List (Addr × Obj))(D:Ends)(f:Flow)(s':Shared):Prop:=
 match f with
 | .next=>∃σ' H',Inv X pins σ' H' s'/\D.nx σ' H'
 | .brk=>∃σ' H',Inv X pins σ' H' s'/\D.bk σ' H'
 | .cont=>∃σ' H',Inv X pins σ' H' s'/\D.ct σ' H'
 | .ret u=>∃v σ' H',Inv X pins σ' H' s'/\RelV v u/\D.rt v H'
noncomputable def PE (X:Cx)(e:Expr)(t:TE):Prop:=
 ∀(pins:List (Addr × Obj)) (s:Shared) (σ:St) (H:Hp) (Q:VK),Inv X pins σ H s->t σ H Q->wpAny (model X.prog X.w) X.A (eval e X.env) (EP X pins σ Q) X.xe s
noncomputable def PT (X:Cx)(e:Expr)(t:TT):Prop:=
 ∀(pins:List (Addr × Obj)) (s:Shared) (σ:St) (H:Hp) (Q:Bool->Hp->Prop),Inv X pins σ H s->t σ H Q->wpAny (model X.prog X.w) X.A (isTrue e X.env (eval e X.env)) (TP X pins σ Q) X.xe s
noncomputable def PW (X:Cx)(e:Expr)(t:TT):Prop:=
 ∀(whole:Sem Value) (pins:List (Addr × Obj)) (s:Shared) (σ:St) (H:Hp) (Q:Bool->Hp->Prop),Inv X pins σ H s->t σ H Q->wpAny (model X.prog X.w) X.A (isTrue e X.env whole) (TP X pins σ Q) X.xe s
theorem PW.pt {X:Cx}{e:Expr}{t:TT}(h:PW X e t):PT X e t:=h _
noncomputable def PA (X:Cx)(es:List Expr)(t:TA):Prop:=
 ∀(pos:Pos) (pins:List (Addr × Obj)) (s:Shared) (σ:St) (H:Hp) (Q:List V->Hp->Prop),Inv X pins σ H s->t σ H Q->wpAny (model X.prog X.w) X.A (spliced (backTo pos (starEach es X.env))) (AP X pins σ Q) X.xe s
noncomputable def PS (X:Cx)(st:Stmt)(t:TS):Prop:=
 ∀(pins:List (Addr × Obj)) (s:Shared) (σ:St) (H:Hp) (D:Ends),Inv X pins σ H s->t D σ H->wpAny (model X.prog X.w) X.A (exec st X.env) (SP X pins D) X.xe s
noncomputable def j7 (X:Cx)(st:List Stmt)(t:TS):Prop:=
 ∀(pins:List (Addr × Obj)) (s:Shared) (σ:St) (H:Hp) (D:Ends),Inv X pins σ H s->t D σ H->wpAny (model X.prog X.w) X.A (execs st X.env) (SP X pins D) X.xe s
theorem zS {α:Type}{t:Sem α}{Q Q':α->Shared->Prop}{M:Model}{A:Around}{E:Value->Shared->Prop}{s:Shared}(h:wpAny M A t Q E s)(hQ:∀a s,Q a s->Q' a s):wpAny M A t Q' E s:=wpAny_mono h hQ λ _ _ x=>x
section
variable {X:Cx}
noncomputable def CH (i:Nat):TE:=λ σ H Q=>∃v,σ[i]? =some (some v)/\Q v H
noncomputable def tC (v:V):TE:=λ _ H Q=>Q v H
theorem EY {i:Nat}{x:Str}{pos:Pos}(hN:X.N[i]? =some x)(hv:KU X.env.scope x)(hd:(x==("__debug__" : Str))=false:=by decide)(hcd:(x==("__classdict__" : Str))=false:=by decide):PE X (.Name x pos) (CH i):=by
 intro pins s σ H Q I h
 obtain ⟨v,e,h⟩:=h
 obtain ⟨m,hn,hl⟩:=I.loc
 obtain ⟨u,r,l⟩:=hl i x v hN e hv
 have fin:EP X pins σ Q u s:=⟨v,H,I,r,h⟩
 rcases l with ⟨hk,hm⟩ | ⟨hk,c,hc,hcell⟩
 ·exact wpAny_Name (wpAny_loadName_local I.ok.kind hk hn hm fin) hd
 ·rcases hk with hk | hk
  ·exact wpAny_Name (wpAny_loadName_cell I.ok.kind hk hc hcell fin) hd
  ·exact wpAny_Name (wpAny_loadName_free I.ok.kind hk hc hcell fin hcd) hd
theorem Ef {i j pos}:PE X (.Constant (.int i) j pos) (tC (.int i)):=λ _ _ _ H _ I h=>wpAny_Constant_int ⟨.int i,H,I.tok _,⟨_,rfl⟩,h⟩
theorem Cb {b j pos}:PE X (.Constant (.bool b) j pos) (tC (.bl b)):=λ _ _ _ H _ I h=>Constant_bool ⟨.bl b,H,I,rfl,h⟩
theorem El {j pos}:PE X (.Constant .none j pos) (tC .non):=λ _ _ _ H _ I h=>Constant_none ⟨.non,H,I,rfl,h⟩
theorem Ee {x j pos}:PE X (.Constant (.str x) j pos) (tC (.str x)):=λ _ _ _ H _ I h=>Calls.Constant_str ⟨.str x,H,I.tok _,⟨_,rfl⟩,h⟩
noncomputable def Gl (X:Cx)(x:Str):Prop:=X.env.kindOf x=some .globalImplicit
theorem Js {E:Value->Shared->Prop}{pins:List (Addr × Obj)}{s:Shared}{σ:St}{H:Hp}{x:Str}{u:Value}{pos:Pos}{Q:Value->Shared->Prop}(I:Inv X pins σ H s)(hg:Gl X x)(hm:X.mg x=some u)(h:Q u s)
  (hd:(x==("__debug__" : Str))=false:=by decide):wpAny (model X.prog X.w) X.A (eval (.Name x pos) X.env) Q E s:=
 Calls.Name_function_global I.ok.kind hg (Calls.loadGlobal_global (by rw [I.ok.glob];exact I.mod.glob.keeps I.bk) hm h) hd
theorem Zs {E:Value->Shared->Prop}{pins:List (Addr × Obj)}{s:Shared}{σ:St}{H:Hp}{x:Str}{u:Value}{pos:Pos}{Q:Value->Shared->Prop}(I:Inv X pins σ H s)(hg:Gl X x)(hm:X.mg x=none)(hv:bootBuiltins x=some u)(h:Q u s)
  (hn:x ≠ "__name__" := by decide)(hd:(x==("__debug__" : Str))=false:=by decide):wpAny (model X.prog X.w) X.A (eval (.Name x pos) X.env) Q E s:=by
 obtain ⟨mb,h1,h2⟩:=I.mod.blt
 exact Calls.Name_function_global I.ok.kind hg (Calls.loadGlobal_builtin (by rw [I.ok.glob];exact I.mod.glob.keeps I.bk) hm (by rw [I.ok.blt];exact h1.keeps I.bk) ((h2 x hn).trans hv) h) hd
theorem Hk {x:Str}{v:V}{u:Value}{pos:Pos}(hg:Gl X x)(hm:X.mg x=some u)(r:RelV v u)(hd:(x==("__debug__" : Str))=false:=by decide):PE X (.Name x pos) (tC v):=
 λ _ _ _ H _ I h=>Js I hg hm ⟨v,H,I,r,h⟩ hd
theorem Y5 {x:Str}{v:V}{u:Value}{pos:Pos}(hg:Gl X x)(hm:X.mg x=none)(hv:bootBuiltins x=some u)(r:RelV v u)(hn:x ≠ "__name__" := by decide)(hd:(x==("__debug__" : Str))=false:=by decide):PE X (.Name x pos) (tC v):=
 λ _ _ _ H _ I h=>Zs I hg hm hv ⟨v,H,I,r,h⟩ hn hd
variable {a b:Expr}{ta tb:TE}{pos:Pos}
theorem LX (b:Expr){op:CmpOp}(h:op≠.In)(h2:op≠.NotIn):behindInMarks op b=false:=by
 have e1:(op==CmpOp.In)=false:=by cases op<;>first | rfl | exact absurd rfl h
 have e2:(op==CmpOp.NotIn)=false:=by cases op<;>first | rfl | exact absurd rfl h2
 cases b<;>simp [behindInMarks,e1,e2]
noncomputable def tB (t:TE):TT:=λ σ H Q=>t σ H λ x H1=>∃c,x=.bl c/\Q c H1
theorem Et {e:Expr}{t:TE}(h:PE X e t)(he:∀whole,isTrue e X.env whole=(do let v <- whole;standAt e.pos;holding [v] (truthy v)):=by intro _;rfl):PT X e (tB t):=by
 intro pins s σ H Q I hw
 refine isTrue_plain (zS (h pins s σ H _ I hw) λ v s1 ⟨x,H1,I1,r1,q1⟩=>?_) (he _)
 obtain ⟨d,rfl,q⟩:=q1
 cases r1
 exact wpAny_truthy_bool ⟨H1,I1,q⟩
variable {tA tB':TT}{rest:List Expr}
noncomputable def CS (t u:TT):TT:=λ σ H Q=>t σ H λ c H1=>if c=true then u σ H1 Q else Q false H1
noncomputable def Bi (t u:TT):TT:=λ σ H Q=>t σ H λ c H1=>if c=true then Q true H1 else u σ H1 Q
noncomputable def CL (t:TT):TT:=λ σ H Q=>t σ H λ c H1=>Q (!c) H1
theorem pw_and1 (ha:PT X a tA):PW X (.BoolOp .And [a] pos) tA:=by
 intro wh pins s σ H Q I h
 refine isTrue_and (zS (ha pins s σ H Q I h) λ c s1 e=>?_)
 cases c with
 | true=>exact isTrue_and_nil e
 | false=>exact e
theorem pw_or1 (ha:PT X a tA):PW X (.BoolOp .Or [a] pos) tA:=by
 intro wh pins s σ H Q I h
 refine isTrue_or (zS (ha pins s σ H Q I h) λ c s1 e=>?_)
 cases c with
 | false=>exact isTrue_or_nil e
 | true=>exact e
theorem pw_and (ha:PT X a tA)(hb:PW X (.BoolOp .And (b::rest) pos) tB'):PW X (.BoolOp .And (a::b::rest) pos) (CS tA tB'):=by
 intro wh pins s σ H Q I h
 refine isTrue_and (zS (ha pins s σ H _ I h) λ c s1 ⟨H1,I1,q1⟩=>?_)
 cases c with
 | true=>exact hb wh pins s1 σ H1 Q I1 q1
 | false=>exact ⟨H1,I1,q1⟩
theorem pw_or (ha:PT X a tA)(hb:PW X (.BoolOp .Or (b::rest) pos) tB'):PW X (.BoolOp .Or (a::b::rest) pos) (Bi tA tB'):=by
 intro wh pins s σ H Q I h
 refine isTrue_or (zS (ha pins s σ H _ I h) λ c s1 ⟨H1,I1,q1⟩=>?_)
 cases c with
 | true=>exact ⟨H1,I1,q1⟩
 | false=>exact hb wh pins s1 σ H1 Q I1 q1
theorem ED (ha:PT X a tA):PT X (.UnaryOp .Not a pos) (CL tA):=by
 intro pins s σ H Q I h
 exact isTrue_not (ha pins s σ H (λ c H1=>Q (!c) H1) I h)
noncomputable def Co (ta tb:TE):TE:=λ σ H Q=>ta σ H λ x H1=>∃c,x=.bl c/\if c=true then tb σ H1 Q else Q (.bl false) H1
noncomputable def DZ (ta:TE):TE:=λ σ H Q=>ta σ H λ x H1=>∃c,x=.bl c/\Q (.bl (!c)) H1
theorem EX {op}{t:TE}(h:PE X a t):PE X (.BoolOp op [a] pos) t:=λ pins s σ H Q I hw=>BoolOp_one (h pins s σ H Q I hw)
theorem EC (ha:PE X a ta)(hb:PE X (.BoolOp .And (b::rest) pos) tb):PE X (.BoolOp .And (a::b::rest) pos) (Co ta tb):=by
 intro pins s σ H Q I h
 refine BoolOp_and (zS (ha pins s σ H _ I h) λ v s1 ⟨x,H1,I1,r1,q1⟩=>?_)
 obtain ⟨c,rfl,q1⟩:=q1
 cases r1
 refine wpAny_truthy_bool ?_
 cases c with
 | true=>exact hb pins s1 σ H1 Q I1 q1
 | false=>exact ⟨.bl false,H1,I1,rfl,q1⟩
theorem Di (ha:PE X a ta):PE X (.UnaryOp .Not a pos) (DZ ta):=by
 intro pins s σ H Q I h
 refine UnaryOp_ (zS (ha pins s σ H _ I h) λ v s1 ⟨x,H1,I1,r1,q1⟩=>?_)
 obtain ⟨c,rfl,q1⟩:=q1
 cases r1
 exact not_of (wpAny_truthy_bool ⟨.bl (!c),H1,I1,rfl,q1⟩)
noncomputable def Bf (t:TT)(ta tb:TE):TE:=λ σ H Q=>t σ H λ c H1=>if c=true then ta σ H1 Q else tb σ H1 Q
theorem Ik {c:Expr}(hc:PT X c tA)(ha:PE X a ta)(hb:PE X b tb):PE X (.IfExp c a b pos) (Bf tA ta tb):=by
 intro pins s σ H Q I h
 refine wpAny_IfExp (zS (hc pins s σ H _ I h) λ d s1 ⟨H1,I1,q1⟩=>?_)
 cases d with
 | true=>exact ha pins s1 σ H1 Q I1 q1
 | false=>exact hb pins s1 σ H1 Q I1 q1
end
noncomputable def qS (K:Frag)(H:Hp)(a:Addr)(xs:List V):Prop:=
 Rd H a (.lst xs)∨
  ∃(o:Obj) (its:Array Value) (n:Nat),K.lookup a=some o/\o.cls=.type "list" /\ o.dict=none/\o.data=.seq its n/\its.size<=sizeLine/\Vals xs its.toList
noncomputable def qp (K:Frag)(H:Hp)(a:Addr)(xs:List V):Prop:=
 Rd H a (.tup xs)∨
  ∃(o:Obj) (its:Array Value) (n:Nat),K.lookup a=some o/\(o.cls=.type "tuple" /\ o.dict=none)/\o.data=.seq its n/\its.size<=sizeLine/\Vals xs its.toList
noncomputable def CN:Value->Option V
 | .none=>some .non
 | .bool b=>some (.bl b)
 | .int i _=>some (.int i)
 | .str x _=>some (.str x)
 | .bytes b _=>some (.byt b)
 | .float b _=>some (.flt b)
 | .ref a=>some (.ref a)
 | .type n=>some (.ty n)
 | _=>none
theorem RelV.abs {x:V}{u:Value}(r:RelV x u):CN u=some x:=by
 cases x with
 | non=>cases r;rfl
 | bl _=>cases r;rfl
 | int _=>obtain ⟨t,rfl⟩:=r;rfl
 | str _=>obtain ⟨t,rfl⟩:=r;rfl
 | byt _=>obtain ⟨t,rfl⟩:=r;rfl
 | flt _=>obtain ⟨t,rfl⟩:=r;rfl
 | ref _=>cases r;rfl
 | ty _=>cases r;rfl
theorem RelV.inj {x y:V}{u:Value}(r:RelV x u)(q:RelV y u):x=y:=Option.some.inj (r.abs.symm.trans q.abs)
theorem Vals.inj:∀{xs ys:List V} {us:List Value},Vals xs us->Vals ys us->xs=ys
 | _,_,_,.nil,.nil=>rfl
 | _,_,_,.cons r t,.cons r' t'=>by rw [r.inj r',Vals.inj t t']
section
variable {X:Cx}{pins:List (Addr × Obj)}{σ:St}{H:Hp}{s:Shared}{a:Addr}{xs ys:List V}
theorem qS.of {K:Frag}(h:H a=some (.lst xs)):qS K H a xs:=.inl (.inl h)
theorem qp.of {K:Frag}(h:H a=some (.tup xs)):qp K H a xs:=.inl (.inl h)
theorem Inv.list (I:Inv X pins σ H s)(h:qS X.K H a xs):∃its:List Value,Vals xs its/\PlainL s.heap a its.toArray/\xs.length<=sizeLine:=by
 rcases h with h | ⟨o,its,n,hk,hc,hd,hs,hz,r⟩
 ·obtain ⟨z,its,n,r,e⟩:=h.ok I.hok
  exact ⟨its,r,⟨_,n,e,rfl,rfl,rfl⟩,z⟩
 ·refine ⟨its.toList,r,⟨o,n,I.kIn a o hk,hc,hd,by simpa using hs⟩,?_⟩
  have e:=r.length
  simp only [Array.length_toList] at e
  omega
theorem Inv.tuple (I:Inv X pins σ H s)(h:qp X.K H a xs):∃its:List Value,Vals xs its/\IsTup s.heap a its.toArray/\xs.length<=sizeLine:=by
 rcases h with h | ⟨o,its,n,hk,hc,hs,hz,r⟩
 ·obtain ⟨z,its,r,p⟩:=h.ok I.hok
  exact ⟨its,r,p.tup,z⟩
 ·refine ⟨its.toList,r,⟨o,I.kIn a o hk,hc.1,n,by simpa using hs⟩,?_⟩
  have e:=r.length
  simp only [Array.length_toList] at e
  omega
theorem Inv.list_inj (I:Inv X pins σ H s)(h:qS X.K H a xs)(h':qS X.K H a ys):xs=ys:=by
 obtain ⟨its,r,⟨o,n,e,_,_,d⟩,_⟩:=I.list h
 obtain ⟨its',r',⟨o',n',e',_,_,d'⟩,_⟩:=I.list h'
 rw [e] at e';cases e'
 rw [d] at d'
 injection d' with d1 _
 have:its=its':=by simpa using congrArg Array.toList d1
 subst this
 exact r.inj r'
theorem Inv.tuple_inj (I:Inv X pins σ H s)(h:qp X.K H a xs)(h':qp X.K H a ys):xs=ys:=by
 obtain ⟨its,r,⟨o,e,_,n,d⟩,_⟩:=I.tuple h
 obtain ⟨its',r',⟨o',e',_,n',d'⟩,_⟩:=I.tuple h'
 rw [e] at e';cases e'
 rw [d] at d'
 injection d' with d1 _
 have:its=its':=by simpa using congrArg Array.toList d1
 subst this
 exact r.inj r'
end
noncomputable abbrev Cx.wish (X:Cx)(E:Value->Shared->Prop):Cx:={ X with xe:=E }
noncomputable abbrev Cx.nox (X:Cx):Cx:=X.wish λ _ _=>False
theorem Cx.Ok.wish {X:Cx}(ok:X.Ok)(E:Value->Shared->Prop):(X.wish E).Ok:=
 ⟨ok.mod,ok.kind,ok.glob,ok.blt,ok.above,ok.inj,ok.has,ok.cab,ok.hd,ok.frames,ok.stk,ok.exf,ok.bs,ok.bsz,ok.noex,ok.exfs,ok.funs,ok.frf⟩
theorem Cx.Ok.unwish {X:Cx}{E:Value->Shared->Prop}(ok:(X.wish E).Ok):X.Ok:=
 ⟨ok.mod,ok.kind,ok.glob,ok.blt,ok.above,ok.inj,ok.has,ok.cab,ok.hd,ok.frames,ok.stk,ok.exf,ok.bs,ok.bsz,ok.noex,ok.exfs,ok.funs,ok.frf⟩
section
variable {X:Cx}{pins:List (Addr × Obj)}{σ:St}{H:Hp}{s:Shared}{E:Value->Shared->Prop}
theorem Inv.wish (I:Inv X pins σ H s)(E:Value->Shared->Prop):Inv (X.wish E) pins σ H s:=⟨I.ok.wish E,I.os,I.bare,I.base,I.loc,I.cell,I.free,I.freeC,I.pin,I.hok,I.len⟩
theorem Inv.unwish (I:Inv (X.wish E) pins σ H s):Inv X pins σ H s:=⟨I.ok.unwish,I.os,I.bare,I.base,I.loc,I.cell,I.free,I.freeC,I.pin,I.hok,I.len⟩
theorem SP.unwish {D:Ends}{f:Flow}{s':Shared}(h:SP (X.wish E) pins D f s'):SP X pins D f s':=by
 cases f with
 | next=>obtain ⟨σ',H',I,q⟩:=h;exact ⟨σ',H',I.unwish,q⟩
 | brk=>obtain ⟨σ',H',I,q⟩:=h;exact ⟨σ',H',I.unwish,q⟩
 | cont=>obtain ⟨σ',H',I,q⟩:=h;exact ⟨σ',H',I.unwish,q⟩
 | ret u=>obtain ⟨v,σ',H',I,r,q⟩:=h;exact ⟨v,σ',H',I.unwish,r,q⟩
theorem PT.nox {e:Expr}{t:TT}(h:PT X.nox e t):PT X e t:=λ pins s σ H Q I hw=>
 wpAny_mono (h pins s σ H Q (I.wish _) hw) (λ _ _ ⟨H',I',q⟩=>⟨H',I'.unwish,q⟩) λ _ _ z=>False.elim z
theorem j7.nox {st:List Stmt}{t:TS}(h:j7 X.nox st t):j7 X st t:=λ pins s σ H D I hw=>
 wpAny_mono (h pins s σ H D (I.wish _) hw) (λ _ _ q=>q.unwish) λ _ _ z=>False.elim z
end
section
variable {X:Cx}{st:Stmt}{rest:List Stmt}{t u:TS}{e:Expr}{te:TE}{pos:Pos}
noncomputable def DP:TS:=λ D σ H=>D.nx σ H
noncomputable def CO (t u:TS):TS:=λ D σ H=>t { D with nx:=u D } σ H
theorem Fz:j7 X [] DP:=λ _ _ σ H _ I h=>wpAny_execs_nil ⟨σ,H,I,h⟩
theorem LN (h1:PS X st t)(h2:j7 X rest u):j7 X (st::rest) (CO t u):=by
 intro pins s σ H D I h
 refine wpAny_execs_cons (zS (h1 pins s σ H { D with nx:=u D } I h) λ f s1 q=>?_)
 cases f with
 | next=>
  obtain ⟨σ',H',I',q⟩:=q
  exact h2 pins s1 σ' H' D I' q
 | ret v=>exact q
 | brk=>exact q
 | cont=>exact q
theorem Inv.quiet {pins:List (Addr × Obj)}{σ:St}{H:Hp}{s:Shared}(I:Inv X pins σ H s):interactive X.env=false:=by simp [interactive,I.ok.kind]
noncomputable def Ce (te:TE):TS:=λ D σ H=>te σ H λ _ H1=>D.nx σ H1
theorem Hr (he:PE X e te)(hs:swapsWith e none pos.line X.env=pure false:=by rfl):PS X (.Expr e pos) (Ce te):=by
 intro pins s σ H D I h
 exact wpAny_Expr_any (zS (he pins s σ H _ I h) λ v s1 ⟨x,H1,I1,r1,q1⟩=>⟨σ,H1,I1,q1⟩) I.quiet hs
noncomputable def CK (te:TE):TS:=λ D σ H=>te σ H D.rt
theorem E9 (he:PE X e te):PS X (.Return (some e) pos) (CK te):=by
 intro pins s σ H D I h
 exact wpAny_Return_some (zS (he pins s σ H _ I h) λ v s1 ⟨x,H1,I1,r1,q1⟩=>⟨x,σ,H1,I1,r1,q1⟩)
noncomputable def CT (c:TT)(t u:TS):TS:=λ D σ H=>c σ H λ b H1=>if b=true then t D σ H1 else u D σ H1
theorem DU {c:Expr}{a b:List Stmt}{tc:TT}(hc:PT X c tc)(ha:j7 X a t)(hb:j7 X b u):PS X (.If c a b pos) (CT tc t u):=by
 intro pins s σ H D I h
 refine wpAny_If (zS (hc pins s σ H _ I h) λ d s1 ⟨H1,I1,q1⟩=>?_)
 cases d with
 | true=>exact ha pins s1 σ H1 D I1 q1
 | false=>exact hb pins s1 σ H1 D I1 q1
end
noncomputable abbrev TG:=V->St->Hp->(St->Hp->Prop)->Prop
noncomputable abbrev Qk:=List V->St->Hp->(St->Hp->Prop)->Prop
noncomputable def PG (X:Cx)(target:Expr)(t:TG):Prop:=
 ∀(pins:List (Addr × Obj)) (s:Shared) (σ:St) (H:Hp) (v:V) (u:Value) (Q:St->Hp->Prop),Inv X pins σ H s->RelV v u->t v σ H Q->
  wpAny (model X.prog X.w) X.A (assign target X.env u) (λ _ s'=>∃σ' H',Inv X pins σ' H' s'/\Q σ' H') X.xe s
noncomputable def K0 (X:Cx)(ts:List Expr)(t:Qk):Prop:=
 ∀(pins:List (Addr × Obj)) (s:Shared) (σ:St) (H:Hp) (vs:List V) (us:List Value) (Q:St->Hp->Prop),Inv X pins σ H s->Vals vs us->t vs σ H Q->
  wpAny (model X.prog X.w) X.A (assignInOrder ((assignEach ts X.env).map (·.2)) us) (λ _ s'=>∃σ' H',Inv X pins σ' H' s'/\Q σ' H') X.xe s
noncomputable abbrev JE:=V->V->V->Hp->(Hp->Prop)->Prop
noncomputable def V6 (X:Cx)(t:JE):Prop:=
 ∀(pins:List (Addr × Obj)) (s:Shared) (σ:St) (H:Hp) (o i v:V) (ov iv u:Value) (Q:Hp->Prop),Inv X pins σ H s->RelV o ov->RelV i iv->RelV v u->t o i v H Q->
  wpAny (model X.prog X.w) X.A (setItem ov iv u) (λ _ s'=>∃H',Inv X pins σ H' s'/\Q H') X.xe s
section
variable {X:Cx}{pos:Pos}
noncomputable def Kk (i:Nat):TG:=λ v σ H Q=>Q (σ.set i (some v)) H
theorem Xq {i:Nat}{x:Str}(hN:X.N.Nodup)(hi:X.N[i]? =some x)(hx:Loc X.env.scope x)(hf:X.fn x=true∨X.env.scope.names.lookup x=some .local:=by first | exact .inl rfl | exact .inr rfl | assumption):PG X (.Name x pos) (Kk i):=by
 intro pins s σ H v u Q I r h
 exact wpAny_assign_Name (YK I hN hi hx r (λ s' I'=>⟨_,H,I',h⟩) hf)
noncomputable def CG:Qk:=λ vs σ H Q=>vs=[]/\Q σ H
noncomputable def DJ (t:TG)(u:Qk):Qk:=λ vs σ H Q=>∃v r,vs=v::r/\t v σ H λ σ' H'=>u r σ' H' Q
theorem IL:K0 X [] CG:=by
 intro pins s σ H vs us Q I r h
 obtain ⟨e,h⟩:=h
 subst e
 cases r
 exact assignInOrder_nil ⟨σ,H,I,h⟩
theorem Sb {e:Expr}{es:List Expr}{t:TG}{u:Qk}(h1:PG X e t)(h2:K0 X es u)
  (hs:(assignEach (e::es) X.env).map (·.2)=assign e X.env::(assignEach es X.env).map (·.2):=by rfl):K0 X (e::es) (DJ t u):=by
 intro pins s σ H vs us Q I r h
 obtain ⟨v,vr,e1,h⟩:=h
 subst e1
 cases r with
 | cons r rr=>
  rw [hs]
  refine assignInOrder_cons (zS (h1 pins s σ H _ _ _ I r h) λ _ s1 ⟨σ1,H1,I1,q1⟩=>?_)
  exact h2 pins s1 σ1 H1 _ _ Q I1 rr q1
noncomputable def j0 (K:Frag)(n:Nat)(t:Qk):TG:=λ v σ H Q=>∃a xs,v=.ref a/\qp K H a xs/\xs.length=n/\t xs σ H Q
theorem Ew {es:List Expr}{k:Nat}{t:Qk}{n:Nat}(hc:X.calm=true)(h:K0 X es t)
  (hn:(assignEach es X.env).length=n:=by rfl)(hst:(assignEach es X.env).findIdx? (·.1)=none:=by rfl):PG X (.Tuple es k pos) (j0 X.K n t):=by
 intro pins s σ H v u Q I r hw
 obtain ⟨a,xs,e1,hq,hl,hw⟩:=hw
 subst e1
 cases r
 obtain ⟨its,rv,ht,hz⟩:=I.tuple hq
 refine assign_Tuple_tuple (I.ok.hd hc) ht (by simp [hn,<- hl,rv.length]) hst λ h' hx=>?_
 have I1:Inv X pins σ H { s with heap:=h' }:=I.kept (t':=s.toks) λ b o e=>hx b o (Nat.ne_of_lt (Heap.lt_size e)) e
 exact h pins _ σ H xs _ Q I1 (by simpa using rv) hw
noncomputable def yf (to ti:TE)(t:JE):TG:=λ v σ H Q=>to σ H λ o H1=>ti σ H1 λ i H2=>t o i v H2 λ H3=>Q σ H3
theorem FO {o i:Expr}{to ti:TE}{t:JE}(ho:PE X o to)(hi:PE X i ti)(hs:V6 X t)
  (ha:∀v,assign (.Subscript o i pos) X.env v=(do
   let ov <- holding [v] (eval o X.env)
   let iv <- holding [v,ov] (eval i X.env)
   standAt pos
   holding [v,ov,iv] (setItem ov iv v)
   release [v,ov,iv] []):=by intro _;rfl):PG X (.Subscript o i pos) (yf to ti t):=by
 intro pins s σ H v u Q I r h
 rw [ha]
 refine wpAny_bind (wpAny_holding (zS (ho pins s σ H _ I h) λ ov s1 ⟨x,H1,I1,r1,q1⟩=>?_))
 refine wpAny_bind (wpAny_holding (zS (hi pins s1 σ H1 _ I1 q1) λ iv s2 ⟨y,H2,I2,r2,q2⟩=>?_))
 refine wpAny_bind (wpAny_standAt (wpAny_bind (wpAny_holding (zS (hs pins s2 σ H2 x y v ov iv u _ I2 r1 r2 r q2) λ _ s3 ⟨H3,I3,q3⟩=>?_))))
 exact wpAny_release ⟨σ,H3,I3,q3⟩
noncomputable def Kz (te:TE)(g:TG):TS:=λ D σ H=>te σ H λ x H1=>g x σ H1 D.nx
theorem Ra {tg e:Expr}{te:TE}{g:TG}(he:PE X e te)(hg:PG X tg g)(hs:swapsWithSole [tg] e pos.line X.env=pure false:=by rfl)(hw:swappedStores [tg] e X.env=pure none:=by rfl)
  (h1:(assignEach [tg] X.env).map (·.2)=[assign tg X.env]:=by rfl):PS X (.Assign [tg] e pos) (Kz te g):=by
 intro pins s σ H D I h
 refine wpAny_Assign_stores (zS (he pins s σ H _ I h) λ v s1 ⟨x,H1,I1,r1,q1⟩=>?_) hs hw
 rw [h1]
 exact zS (hg pins s1 σ H1 x v _ I1 r1 q1) λ _ s2 q=>q
theorem FW {i:Nat}{x:Str}{e:Expr}{te:TE}{pos':Pos}(hN:X.N.Nodup)(hi:X.N[i]? =some x)(hx:Loc X.env.scope x)(he:PE X e te)(hs:swapsWith e (some (.Name x pos')) pos.line X.env=pure false:=by rfl)(hf:X.fn x=true∨X.env.scope.names.lookup x=some .local:=by first | exact .inl rfl | exact .inr rfl | assumption):
  PS X (.Assign [.Name x pos'] e pos) (Kz te (Kk i)):=by
 intro pins s σ H D I h
 refine wpAny_Assign_Name (zS (he pins s σ H _ I h) λ v s1 ⟨y,H1,I1,r1,q1⟩=>?_) hs
 exact YK I1 hN hi hx r1 (λ s2 I2=>⟨_,H1,I2,q1⟩) hf
end
section
variable {X:Cx}{pos:Pos}
noncomputable def Ek (c:TT)(tb:TS):TS:=λ D σ H=>∃W:Nat->St->Hp->Prop,(∃m,W m σ H)/\∀m σ H,W m σ H->
 c σ H λ b H1=>if b=true then ∃N:St->Hp->Prop,(∀σ' H',N σ' H'->∃m',m'<m/\W m' σ' H')/\tb { D with nx:=N,ct:=N,bk:=D.nx } σ H1 else D.nx σ H1
theorem LH {c:Expr}{body:List Stmt}{tc:TT}{tb:TS}(hp:PassesOwn (model X.prog X.w) X.A X.env X.xe)(hc:PT X c tc)(hb:j7 X body tb):PS X (.While c body [] pos) (Ek tc tb):=by
 intro pins s σ H D I h
 obtain ⟨W,⟨m0,w0⟩,turn⟩:=h
 refine wpAny_While (codeAny_whileLoop (λ n s'=>∃σ' H',Inv X pins σ' H' s'/\W n σ' H') ?_ m0 ⟨σ,H,I,w0⟩)
 rintro n s1 ⟨σ1,H1,I1,w1⟩
 refine wpAny_passesOwn hp (zS (hc pins s1 σ1 H1 _ I1 (turn n σ1 H1 w1)) λ b s2 ⟨H2,I2,q2⟩=>?_)
 cases b with
 | true=>
  obtain ⟨N,hN,q2⟩:=q2
  rw [if_pos rfl]
  refine wpAny_passesOwn hp (zS (hb pins s2 σ1 H2 _ I2 q2) λ f s3 q3=>?_)
  cases f with
  | next=>
   obtain ⟨σ3,H3,I3,n3⟩:=q3
   obtain ⟨m',hm,w3⟩:=hN σ3 H3 n3
   exact ⟨m',hm,σ3,H3,I3,w3⟩
  | cont=>
   obtain ⟨σ3,H3,I3,n3⟩:=q3
   obtain ⟨m',hm,w3⟩:=hN σ3 H3 n3
   exact ⟨m',hm,σ3,H3,I3,w3⟩
  | brk=>exact q3
  | ret v=>exact q3
 | false=>
  rw [if_neg Bool.false_ne_true]
  exact wpAny_execs_nil ⟨σ1,H2,I2,q2⟩
end
structure It where
 go:Nat->Hp->Prop
 yld:Nat->Hp->V->Hp->Prop
 stop:Nat->Hp->Prop
noncomputable def y0 (X:Cx)(pins:List (Addr × Obj))(H:Hp)(b:Addr):Prop:=
 H b=none/\b≠X.env.locals/\b∉X.fs/\(b∈X.ex∨X.s0.heap.objs.size<=b)/\(∀x c,X.env.cells.lookup x=some c->c≠b)/\∀p∈X.pn++pins,p.1≠b
theorem Inv.fpOk {X:Cx}{pins:List (Addr × Obj)}{σ:St}{H H':Hp}{s:Shared}{b:Addr}(I:Inv X pins σ H s)(hb:s.heap.objs.size<=b)(hn:H' b=none):y0 X pins H' b:=by
 refine ⟨hn,Nat.ne_of_gt (Nat.lt_of_lt_of_le I.lt hb),I.nofs hb,.inr (Nat.le_trans I.sz hb),λ x c e z=>?_,λ p hp z=>?_⟩
 ·obtain ⟨v,q⟩:=I.cell x c e
  exact absurd (Nat.lt_of_lt_of_le q.lt (by rw [z];exact hb)) (Nat.lt_irrefl _)
 ·exact absurd (Nat.lt_of_lt_of_le (Heap.lt_size (I.pin p hp).1) (by rw [z];exact hb)) (Nat.lt_irrefl _)
structure Turn (P:Program)(w:World)(K:Frag)(tg:Expr)(J:It)(fp:List Addr)(it:Addr)(tn:Nat->Heap->Prop):Prop where
 mem:it∈fp
 obj:∀i h,tn i h->∀b∈fp,∃o,h.get? b=some o/\∀v,o.data≠.cell v
 keep:∀i h h',tn i h->(∀b∈fp,∀o,h.get? b=some o->h'.get? b=some o)->tn i h'
 item:∀(X:Cx),X.prog=P->X.w=w->X.K=K->X.calm=true->∀(i:Nat) (pins:List (Addr × Obj)) (s:Shared) (σ:St) (H:Hp) (E:Value->Shared->Prop),Inv X pins σ H s->(∀b∈fp,y0 X pins H b)->tn i s.heap->J.go i H->
  wpAny (model P w) X.A (pyNext (.ref it)) (λ r s1=>∃u,r=some u/\
   wpAny (model P w) X.A (letOwnedTupleGo tg (.ref it) u) (λ _ s2=>∃x H',Inv X pins σ H' s2/\RelV x u/\J.yld i H x H'/\tn (i+1) s2.heap/\∀b∈fp,H' b=none) E s1) E s
 done:∀(X:Cx),X.prog=P->X.w=w->X.K=K->X.calm=true->∀(i:Nat) (pins:List (Addr × Obj)) (s:Shared) (σ:St) (H:Hp) (E:Value->Shared->Prop),Inv X pins σ H s->(∀b∈fp,y0 X pins H b)->tn i s.heap->J.stop i H->
  wpAny (model P w) X.A (pyNext (.ref it)) (λ r s1=>r=none/\Inv X pins σ H s1) E s
 self:∀(A:Around) (i:Nat) (s:Shared) (Q:Value->Shared->Prop) (E:Value->Shared->Prop),tn i s.heap->Q (.ref it) s->wpAny (model P w) A (pyIter (.ref it)) Q E s
noncomputable abbrev TI:=St->Hp->(It->Hp->Prop)->Prop
inductive Pj (X:Cx)(pins:List (Addr × Obj))(σ:St)(tg:Expr)(R:It->Hp->Prop)(itv:Value)(s2:Shared):Prop
 | mk (it:Addr) (fp:List Addr) (tn:Nat->Heap->Prop) (J:It) (H':Hp) (e:itv=.ref it) (I:Inv X pins σ H' s2) (T:Turn X.prog X.w X.K tg J fp it tn) (t0:tn 0 s2.heap) (f:(∀b∈fp,y0 X pins H' b)) (q:R J H')
noncomputable def PI (X:Cx)(tg iter:Expr)(wi:TI):Prop:=
 ∀(pins:List (Addr × Obj)) (s:Shared) (σ:St) (H:Hp) (R:It->Hp->Prop),Inv X pins σ H s->wi σ H R->
  wpAny (model X.prog X.w) X.A (eval iter X.env) (λ v s1=>wpAny (model X.prog X.w) X.A (pyIter v) (Pj X pins σ tg R) X.xe s1) X.xe s
theorem VF {M:Model}{A:Around}{E:Value->Shared->Prop}{s:Shared}{tg:Expr}{it:Addr}{u:Value}{o:Obj}{n:String}{vs:Array Value}{Q:Unit->Shared->Prop}(ho:s.heap.get? it=some o)(hc:o.cls=.type n)(hd:o.data=.fields vs)
  (hn:["enumerate", "zip", "dict_itemiterator", "dict_reverseitemiterator", "odict_iterator", "itertools.zip_longest", "itertools.pairwise"].contains n=false)(hQ:Q () s):wpAny M A (letOwnedTupleGo tg (.ref it) u) Q E s:=by
 unfold letOwnedTupleGo
 cases tg<;>first
  | exact wpAny_pure hQ
  | (cases u<;>first
    | exact wpAny_pure hQ
    | (
      refine wpAny_bind (wpAny_load ho ?_)
      rw [hc,hd]
      show wpAny M A (if (["enumerate", "zip", "dict_itemiterator", "dict_reverseitemiterator", "odict_iterator", "itertools.zip_longest", "itertools.pairwise"].contains n&&vs[0]?==some (rawInt _))=true then _ else _) Q E s
      rw [if_neg (by intro h;rw [hn,Bool.false_and] at h;cases h)]
      exact wpAny_pure hQ))
noncomputable def Pq (K:Frag)(a:Addr):It:=
 ⟨λ i H=>∃xs x,qS K H a xs/\xs[i]? =some x,λ i H x H'=>H'=H/\∀xs,qS K H a xs->xs[i]? =some x,λ i H=>∃xs,qS K H a xs/\xs.length<=i⟩
noncomputable def Pr (K:Frag)(a:Addr):It:=
 ⟨λ i H=>∃xs x,qp K H a xs/\xs[i]? =some x,λ i H x H'=>H'=H/\∀xs,qp K H a xs->xs[i]? =some x,λ i H=>∃xs,qp K H a xs/\xs.length<=i⟩
noncomputable def KZ (lo:Int)(n:Nat):It:=⟨λ i _=>i<n,λ i H x H'=>H'=H/\x=.int (lo+i),λ i _=>n<=i⟩
theorem Mj {P:Program}{w:World}{K:Frag}{tg:Expr}(a it:Addr):Turn P w K tg (Pq K a) [it] it (λ i h=>h.IsListIter it a i) where
 mem:=by simp
 obj:=λ i h st b hb=>by
  have e:b=it:=by simpa using hb
  subst e
  obtain ⟨o,e,c,d⟩:=st
  exact ⟨o,e,λ v z=>by rw [d] at z;cases z⟩
 keep:=λ i h h' st k=>st.at λ o e=>k it (by simp) o e
 item:=by
  intro X hP hw hK hc i pins s σ H E I hf st hg
  subst hP hw hK
  obtain ⟨xs,x,hq,hx⟩:=hg
  obtain ⟨its,rv,p,hz⟩:=I.list hq
  obtain ⟨u,hu,ru⟩:=rv.get hx
  obtain ⟨f0,f1,f2,f3,f4,f5⟩:=hf it (by simp)
  refine wpAny_pyNext_list_item st p.isList (x:=u) (by simpa using hu) λ h' st' sb=>?_
  have I1:Inv X pins σ H { s with heap:=h' }:=I.turned (t':=s.toks) (λ b o hb e=>(sb.2 b hb).trans e) f0 f1 f3 f4 f5
  obtain ⟨o,e,c,d⟩:=id st'
  exact ⟨u,rfl,VF (s:={ s with heap:=h' }) e c d (by decide) ⟨x,H,I1,ru,⟨rfl,λ ys hy=>by rw [I.list_inj hy hq];exact hx⟩,st',λ b hb=>(hf b hb).1⟩⟩
 done:=by
  intro X hP hw hK hc i pins s σ H E I hf st hg
  subst hP hw hK
  obtain ⟨xs,hq,hx⟩:=hg
  obtain ⟨its,rv,p,hz⟩:=I.list hq
  obtain ⟨f0,f1,f2,f3,f4,f5⟩:=hf it (by simp)
  have hl:=rv.length
  exact wpAny_pyNext_list_end (I.ok.hd hc) st p.isList (by simp;omega) λ h' eb=>⟨rfl,I.turned (t':=s.toks) (λ b o hb e=>eb b o hb e) f0 f1 f3 f4 f5⟩
 self:=λ _ _ _ _ _ st h=>wpAny_pyIter_listiter st h
theorem Nt {P:Program}{w:World}{K:Frag}{tg:Expr}(a it:Addr):Turn P w K tg (Pr K a) [it] it (λ i h=>h.IsTupleIter it a i) where
 mem:=by simp
 obj:=λ i h st b hb=>by
  have e:b=it:=by simpa using hb
  subst e
  obtain ⟨o,e,c,d⟩:=st
  exact ⟨o,e,λ v z=>by rw [d] at z;cases z⟩
 keep:=λ i h h' st k=>st.at λ o e=>k it (by simp) o e
 item:=by
  intro X hP hw hK hc i pins s σ H E I hf st hg
  subst hP hw hK
  obtain ⟨xs,x,hq,hx⟩:=hg
  obtain ⟨its,rv,p,hz⟩:=I.tuple hq
  obtain ⟨u,hu,ru⟩:=rv.get hx
  obtain ⟨f0,f1,f2,f3,f4,f5⟩:=hf it (by simp)
  refine wpAny_pyNext_tuple_item st (show s.heap.IsTuple a its.toArray from p) (x:=u) (by simpa using hu) λ h' st' sb=>?_
  have I1:Inv X pins σ H { s with heap:=h' }:=I.turned (t':=s.toks) (λ b o hb e=>(sb.2 b hb).trans e) f0 f1 f3 f4 f5
  obtain ⟨o,e,c,d⟩:=id st'
  exact ⟨u,rfl,VF (s:={ s with heap:=h' }) e c d (by decide) ⟨x,H,I1,ru,⟨rfl,λ ys hy=>by rw [I.tuple_inj hy hq];exact hx⟩,st',λ b hb=>(hf b hb).1⟩⟩
 done:=by
  intro X hP hw hK hc i pins s σ H E I hf st hg
  subst hP hw hK
  obtain ⟨xs,hq,hx⟩:=hg
  obtain ⟨its,rv,p,hz⟩:=I.tuple hq
  obtain ⟨f0,f1,f2,f3,f4,f5⟩:=hf it (by simp)
  have hl:=rv.length
  exact wpAny_pyNext_tuple_end (I.ok.hd hc) st (show s.heap.IsTuple a its.toArray from p) (by simp;omega) λ h' eb=>⟨rfl,I.turned (t':=s.toks) (λ b o hb e=>eb b o hb e) f0 f1 f3 f4 f5⟩
 self:=λ _ _ _ _ _ st h=>wpAny_pyIter_tupleiter st h
theorem Nn {P:Program}{w:World}{K:Frag}{tg:Expr}(it:Addr)(lo:Int)(n:Nat):Turn P w K tg (KZ lo n) [it] it (λ i h=>IsRangeIter h it (lo+(i:Nat) * 1) ((n:Int) - (i:Nat)) 1) where
 mem:=by simp
 obj:=λ i h st b hb=>by
  have e:b=it:=by simpa using hb
  subst e
  exact ⟨_,st,λ v z=>by
   have z':Data.fields _=Data.cell v:=z
   cases z'⟩
 keep:=λ i h h' st k=>k it (by simp) _ st
 item:=by
  intro X hP hw hK hc i pins s σ H E I hf st hg
  subst hP hw hK
  obtain ⟨f0,f1,f2,f3,f4,f5⟩:=hf it (by simp)
  have W:=Walks.range (prog:=X.prog) (w:=X.w) (I.ok.hd hc) it lo 1 n
  refine W.item i s _ _ hg st λ v h' tk hv st' kk=>?_
  obtain ⟨t,rfl⟩:=hv
  have I1:Inv X pins σ H { s with heap:=h',toks:=tk }:=I.turned (λ b o hb e=>kk b o (by simpa using hb) e) f0 f1 f3 f4 f5
  refine ⟨_,rfl,VF (s:={ s with heap:=h',toks:=tk }) (n := "range_iterator") st' rfl rfl (by decide) ⟨.int (lo+i),H,I1,⟨t,?_⟩,⟨rfl,rfl⟩,st',λ b hb=>(hf b hb).1⟩⟩
  rw [Int.mul_one]
 done:=by
  intro X hP hw hK hc i pins s σ H E I hf st hg
  subst hP hw hK
  obtain ⟨f0,f1,f2,f3,f4,f5⟩:=hf it (by simp)
  exact wpAny_pyNext_range_end (I.ok.hd hc) st (by have:n<=i:=hg;omega) λ h' eb=>⟨rfl,I.turned (t':=s.toks) (λ b o hb e=>eb b o hb e) f0 f1 f3 f4 f5⟩
 self:=λ _ _ _ _ _ st h=>wpAny_pyIter_rangeiter st h
section
variable {X:Cx}{tg:Expr}
theorem Iy {pins:List (Addr × Obj)}{σ:St}{H:Hp}{s:Shared}{R:It->Hp->Prop}{E:Value->Shared->Prop}{lo hi:Int}{t u v:Tok}{tk:Nat}(I:Inv X pins σ H s)(h1:-(2 ^ 62)<=lo)(h2:lo<2 ^ 62)(h3:-(2 ^ 62)<=hi)(h4:hi<2 ^ 62)
  (q:R (KZ lo (hi - lo).toNat) H):wpAny (model X.prog X.w) X.A (pyIter (.ref s.heap.objs.size)) (Pj X pins σ tg R) E { s with heap:=s.heap.push { cls:=.type "range",data:=.fields #[.int lo t,.int hi u,.int 1 v] },toks:=tk }:=by
 refine wpAny_pyIter_range (IsRange.new ..) (small_one h1 h2 h3 h4) ?_
 have I1:Inv X pins σ H { s with heap:=s.heap.push { cls:=.type "range",data:=.fields #[.int lo t,.int hi u,.int 1 v] },toks:=tk }:=I.kept λ b o e=>Heap.get?_push_of_some _ e
 refine ⟨(s.heap.push { cls:=.type "range",data:=.fields #[.int lo t,.int hi u,.int 1 v] }).objs.size,[(s.heap.push { cls:=.type "range",data:=.fields #[.int lo t,.int hi u,.int 1 v] }).objs.size],_,_,H,rfl,
  I1.kept (t':=tk) λ b o e=>Heap.get?_push_of_some _ e,Nn _ lo (hi - lo).toNat,?_,λ b hb=>?_,q⟩
 ·have e1:lo+((0:Nat):Int) * 1=lo:=by simp
  have e2:(((hi - lo).toNat:Nat):Int) - ((0:Nat):Int)=Builtin.Range.rangeSize lo hi 1:=by rw [rangeSize_one];split<;>omega
  show IsRangeIter _ _ (lo+((0:Nat):Int) * 1) ((((hi - lo).toNat:Nat):Int) - ((0:Nat):Int)) 1
  rw [e1,e2]
  exact Heap.get?_push_size _ rfl
 ·have e:b=(s.heap.push { cls:=.type "range",data:=.fields #[.int lo t,.int hi u,.int 1 v] }).objs.size:=by simpa using hb
  subst e
  exact I1.fpOk (Nat.le_refl _) (I1.hok.fresh (Nat.le_refl _))
noncomputable def DL (ta:TA):TI:=λ σ H R=>ta σ H λ vs H1=>∃j:Int,vs=[.int j]/\-(2 ^ 62)<=j/\j<2 ^ 62/\R (KZ 0 j.toNat) H1
theorem Mx {a:Expr}{ta:TA}{p pos:Pos}(hg:Gl X "range")(hm:X.mg "range" = none)(ha:PA X [a] ta)(hs:starEach [a] X.env=[(false,eval a X.env)]:=by rfl):PI X tg (.Call (.Name "range" p) [a] [] pos) (DL ta):=by
 intro pins s σ H R I h
 refine Call_ (Zs I hg hm boot_range (PyProof.Rows.callWith_type1 (zS (ha pos pins s σ H _ I h) λ us s1 ⟨vs,H1,I1,r1,q1⟩=>?_) hs rfl))
 obtain ⟨j,e,q1,q2,q⟩:=q1
 subst e
 cases r1 with
 | cons r rr=>
  cases rr
  obtain ⟨t,rfl⟩:=r
  exact call_range_1 (Iy I1 (by omega) (by omega) q1 q2 (by simpa using q))
noncomputable def Cu (wi:TI)(g:TG)(tb:TS):TS:=λ D σ H=>wi σ H λ J H1=>∃W:Nat->Nat->St->Hp->Prop,(∃m,W 0 m σ H1)/\∀i m σ H,W i m σ H->
 (J.stop i H/\D.nx σ H)∨(J.go i H/\∃N:St->Hp->Prop,(∀σ' H',N σ' H'->∃m',m'<m/\W (i+1) m' σ' H')/\∀x H',J.yld i H x H'->g x σ H' λ σ2 H2=>tb { D with nx:=N,ct:=N,bk:=D.nx } σ2 H2)
noncomputable def Jx (fp:List Addr)(h:Heap):List (Addr × Obj):=fp.filterMap λ b=>(h.get? b).map λ o=>(b,o)
theorem Yo {fp:List Addr}{h:Heap}{b:Addr}{o:Obj}(hb:b∈fp)(e:h.get? b=some o):(b,o)∈Jx fp h:=List.mem_filterMap.mpr ⟨b,hb,by rw [e];rfl⟩
theorem NV {fp:List Addr}{h:Heap}{p:Addr × Obj}(hp:p∈Jx fp h):p.1∈fp/\h.get? p.1=some p.2:=by
 obtain ⟨b,hb,e⟩:=List.mem_filterMap.mp hp
 cases q:h.get? b with
 | none=>rw [q] at e;cases e
 | some o=>
  rw [q] at e
  have e':(b,o)=p:=Option.some.inj e
  subst e'
  exact ⟨hb,q⟩
theorem Inv.pinned {pins:List (Addr × Obj)}{σ:St}{H:Hp}{s:Shared}{fp:List Addr}(I:Inv X pins σ H s)(hf:∀b∈fp,y0 X pins H b)(ho:∀b∈fp,∃o,s.heap.get? b=some o/\∀v,o.data≠.cell v):Inv X (pins++Jx fp s.heap) σ H s:=
 I.pins_of λ p hp=>(List.mem_append.mp hp).elim (λ z=>I.pin p (List.mem_append_right _ z)) λ z=>by
  obtain ⟨hb,e⟩:=NV z
  obtain ⟨f0,f1,f2,_⟩:=hf p.1 hb
  obtain ⟨o,e',d⟩:=ho p.1 hb
  rw [e] at e';cases e'
  exact ⟨e,f0,f1,f2,d⟩
theorem Inv.unpinned {pins pl:List (Addr × Obj)}{σ:St}{H:Hp}{s:Shared}(I:Inv X (pins++pl) σ H s):Inv X pins σ H s:=I.pins_of λ p hp=>I.pin p (List.mem_append_right _ (List.mem_append_left _ hp))
theorem FT {iter:Expr}{body:List Stmt}{wi:TI}{g:TG}{tb:TS}{pos:Pos}(hp:PassesOwn (model X.prog X.w) X.A X.env X.xe)(hc:X.calm=true)(hi:PI X tg iter wi)(hg:PG X tg g)(hb:j7 X body tb)
  (hs:∀x,foldedSetIterable iter X.env x=pure x:=by intro _;rfl):PS X (.For tg iter body [] pos) (Cu wi g tb):=by
 intro pins s σ H D I h
 refine wpAny_For (zS (hi pins s σ H _ I h) λ v s1 h1=>zS h1 λ itv s2 h2=>?_) hs
 obtain ⟨it,fp,tn,J,H2,e,I2,T,kN,f2,W,⟨m0,w0⟩,turn⟩:=h2
 subst e
 have stat:∀{H':Hp},(∀b∈fp,H' b=none)->∀b∈fp,y0 X pins H' b:=λ hn b hb=>⟨hn b hb,(f2 b hb).2⟩
 refine codeAny_forLoop_any (λ n s'=>∃i σ' H',Inv X pins σ' H' s'/\tn i s'.heap/\(∀b∈fp,H' b=none)/\W i n σ' H') ?_ m0 ⟨0,σ,H2,I2,kN,λ b hb=>(f2 b hb).1,w0⟩
 rintro n s3 ⟨i,σ3,H3,I3,wk,fr3,w3⟩
 rcases turn i n σ3 H3 w3 with ⟨stop,qn⟩ | ⟨go,N,hN,step⟩
 ·refine wpAny_passesOwn hp (zS (T.done X rfl rfl rfl hc i pins s3 σ3 H3 X.xe I3 (stat fr3) wk stop) λ r s4 ⟨hr,I4⟩=>?_)
  subst hr
  exact wpAny_execs_nil ⟨σ3,H3,I4,qn⟩
 ·refine wpAny_passesOwn hp (zS (T.item X rfl rfl rfl hc i pins s3 σ3 H3 X.xe I3 (stat fr3) wk go) λ r s4 ⟨u,hr,h4⟩=>?_)
  subst hr
  refine wpAny_passesOwn hp (zS h4 λ _ s5 ⟨x,H5,I5,r5,y5,st5,fr5⟩=>?_)
  have I5':=I5.pinned (stat fr5) (T.obj _ _ st5)
  refine wpAny_passesOwn hp (zS (hg _ s5 σ3 H5 x u _ I5' r5 (step x H5 y5)) λ _ s6 ⟨σ6,H6,I6,q6⟩=>?_)
  refine wpAny_passesOwn hp (zS (hb _ s6 σ6 H6 _ I6 q6) λ f s7 q7=>?_)
  have again:∀{σ7:St} {H7:Hp},Inv X (pins++Jx fp s5.heap) σ7 H7 s7->N σ7 H7->∃m,m<n/\∃i σ' H',Inv X pins σ' H' s7/\tn i s7.heap/\(∀b∈fp,H' b=none)/\W i m σ' H':=λ {σ7 H7} I7 n7=>by
   obtain ⟨m',hm,w7⟩:=hN σ7 H7 n7
   refine ⟨m',hm,i+1,σ7,H7,I7.unpinned,T.keep _ _ _ st5 λ b hb o e=>(I7.pin (b,o) (List.mem_append_right _ (List.mem_append_right _ (Yo hb e)))).1,λ b hb=>?_,w7⟩
   obtain ⟨o,e,d⟩:=T.obj _ _ st5 b hb
   exact (I7.pin (b,o) (List.mem_append_right _ (List.mem_append_right _ (Yo hb e)))).2.1
  cases f with
  | next=>obtain ⟨σ7,H7,I7,n7⟩:=q7;exact again I7 n7
  | cont=>obtain ⟨σ7,H7,I7,n7⟩:=q7;exact again I7 n7
  | brk=>obtain ⟨σ7,H7,I7,q7⟩:=q7;exact ⟨σ7,H7,I7.unpinned,q7⟩
  | ret v=>obtain ⟨x7,σ7,H7,I7,r7,q7⟩:=q7;exact ⟨x7,σ7,H7,I7.unpinned,r7,q7⟩
end
noncomputable abbrev R2:=V->V->Hp->VK->Prop
noncomputable def qA (X:Cx)(f:Value->Value->Sem Value)(r:R2):Prop:=
 ∀(pins:List (Addr × Obj)) (s:Shared) (σ:St) (H:Hp) (x y:V) (v u:Value) (Q:VK),Inv X pins σ H s->RelV x v->RelV y u->r x y H Q->
  wpAny (model X.prog X.w) X.A (f v u) (EP X pins σ Q) X.xe s
noncomputable def K8 (X:Cx)(f:Value->Sem Value)(r:V->Hp->VK->Prop):Prop:=
 ∀(pins:List (Addr × Obj)) (s:Shared) (σ:St) (H:Hp) (x:V) (v:Value) (Q:VK),Inv X pins σ H s->RelV x v->r x H Q->
  wpAny (model X.prog X.w) X.A (f v) (EP X pins σ Q) X.xe s
noncomputable def jK (X:Cx)(f:Value)(r:List V->Hp->VK->Prop):Prop:=
 ∀(pins:List (Addr × Obj)) (s:Shared) (σ:St) (H:Hp) (xs:List V) (us:List Value) (Q:VK),Inv X pins σ H s->Vals xs us->r xs H Q->
  wpAny (model X.prog X.w) X.A (call f us) (EP X pins σ Q) X.xe s
noncomputable def JT (r:R2)(ta tb:TE):TE:=λ σ H Q=>ta σ H λ x H1=>tb σ H1 λ y H2=>r x y H2 Q
noncomputable def Pd (r:V->Hp->VK->Prop)(ta:TE):TE:=λ σ H Q=>ta σ H λ x H1=>r x H1 Q
noncomputable def rI (C:Int->Int->Prop)(g:Int->Int->V):R2:=λ x y H Q=>∃i j,x=.int i/\y=.int j/\C i j/\Q (g i j) H
noncomputable def wJ (g:Int->Int->V):R2:=λ x y H Q=>∃i j,x=.int i/\y=.int j/\Q (g i j) H
noncomputable def rU (g:Int->V):V->Hp->VK->Prop:=λ x H Q=>∃i,x=.int i/\Q (g i) H
section
variable {X:Cx}{a b c:Expr}{ta tb tc:TE}{pos:Pos}
theorem V7 (ha:PE X a ta)(hb:PE X b tb){pins:List (Addr × Obj)}{s:Shared}{σ:St}{H:Hp}{R:V->V->Hp->Prop}(I:Inv X pins σ H s)
  (h:ta σ H λ x H1=>tb σ H1 λ y H2=>R x y H2){Q:Value->Shared->Prop}{f:Value->Value->Sem Value}
  (hf:∀v u s2 x y H2,Inv X pins σ H2 s2->RelV x v->RelV y u->R x y H2->wpAny (model X.prog X.w) X.A (f v u) Q X.xe s2):
  wpAny (model X.prog X.w) X.A (eval a X.env) (λ v s₁=>wpAny (model X.prog X.w) X.A (eval b X.env) (λ u s₂=>wpAny (model X.prog X.w) X.A (f v u) Q X.xe s₂) X.xe s₁) X.xe s:=by
 refine zS (ha pins s σ H _ I h) λ v s1 ⟨x,H1,I1,r1,q1⟩=>?_
 refine zS (hb pins s1 σ H1 _ I1 q1) λ u s2 ⟨y,H2,I2,r2,q2⟩=>?_
 exact hf v u s2 x y H2 I2 r1 r2 q2
theorem DG {op:Operator}{r:R2}(ho:qA X (binaryOp op) r)(ha:PE X a ta)(hb:PE X b tb):PE X (.BinOp a op b pos) (JT r ta tb):=by
 intro pins s σ H Q I h
 exact wpAny_BinOp (V7 ha hb I h λ v u s2 x y H2 I2 rx ry q=>ho pins s2 σ H2 x y v u Q I2 rx ry q)
theorem Cc {op:UnaryOp}{r:V->Hp->VK->Prop}(ho:K8 X (unaryOp op) r)(ha:PE X a ta):PE X (.UnaryOp op a pos) (Pd r ta):=by
 intro pins s σ H Q I h
 exact UnaryOp_ (zS (ha pins s σ H _ I h) λ v s1 ⟨x,H1,I1,r1,q1⟩=>ho pins s1 σ H1 x v Q I1 r1 q1)
theorem KY {f:Value->Value->Sem Value}{C:Int->Int->Prop}{g:Int->Int->Int}
  (rule:∀(i j:Int) (t u:Tok) (s:Shared) (Q:Value->Shared->Prop) (E:Value->Shared->Prop),C i j->Q (.int (g i j) s.toks) { s with toks:=s.toks+1 }->wpAny (model X.prog X.w) X.A (f (.int i t) (.int j u)) Q E s):
  qA X f (rI C λ i j=>.int (g i j)):=by
 intro pins s σ H x y v u Q I rx ry h
 obtain ⟨i,j,rfl,rfl,hc,q⟩:=h
 obtain ⟨t,rfl⟩:=rx
 obtain ⟨t',rfl⟩:=ry
 exact rule i j t t' s _ _ hc ⟨.int (g i j),H,I.tok _,⟨_,rfl⟩,q⟩
theorem V4 {f:Value->Value->Sem Value}{g:Int->Int->Int}
  (rule:∀(i j:Int) (t u:Tok) (s:Shared) (Q:Value->Shared->Prop) (E:Value->Shared->Prop),Q (.int (g i j) s.toks) { s with toks:=s.toks+1 }->wpAny (model X.prog X.w) X.A (f (.int i t) (.int j u)) Q E s):
  qA X f (wJ λ i j=>.int (g i j)):=by
 intro pins s σ H x y v u Q I rx ry h
 obtain ⟨i,j,rfl,rfl,q⟩:=h
 obtain ⟨t,rfl⟩:=rx
 obtain ⟨t',rfl⟩:=ry
 exact rule i j t t' s _ _ ⟨.int (g i j),H,I.tok _,⟨_,rfl⟩,q⟩
theorem Kx {f:Value->Value->Sem Value}{g:Int->Int->Bool}
  (rule:∀(i j:Int) (t u:Tok) (s:Shared) (Q:Value->Shared->Prop) (E:Value->Shared->Prop),Q (.bool (g i j)) s->wpAny (model X.prog X.w) X.A (f (.int i t) (.int j u)) Q E s):
  qA X f (wJ λ i j=>.bl (g i j)):=by
 intro pins s σ H x y v u Q I rx ry h
 obtain ⟨i,j,rfl,rfl,q⟩:=h
 obtain ⟨t,rfl⟩:=rx
 obtain ⟨t',rfl⟩:=ry
 exact rule i j t t' s _ _ ⟨.bl (g i j),H,I,rfl,q⟩
noncomputable def R8 (i j:Int):Prop:=0<=j/\j<=1000000/\i.natAbs<2 ^ 64
noncomputable def JO (i j:Int):Prop:=(-(2 ^ 64)<i/\i<2 ^ 64)∨(-(2 ^ 64)<j/\j<2 ^ 64)
theorem JO.ok {i j:Int}(h:JO i j):IntMulOk i j:=by
 rcases h with ⟨h1,h2⟩ | ⟨h1,h2⟩
 ·exact .of_left (intBits_le_64 h1 h2)
 ·exact .of_right (intBits_le_64 h1 h2)
theorem Dc:qA X (binaryOp .Add) (wJ λ i j=>.int (i+j)):=V4 λ _ _ _ _ _ _ _ q=>add_int q
theorem Dt:qA X (binaryOp .Sub) (wJ λ i j=>.int (i - j)):=V4 λ _ _ _ _ _ _ _ q=>sub_int q
theorem Eg:qA X (binaryOp .Mult) (rI JO λ i j=>.int (i * j)):=KY λ _ _ _ _ _ _ _ hc q=>mul_int q hc.ok
theorem EK:qA X (binaryOp .Mod) (rI (λ _ j=>0<j) λ i j=>.int (i % j)):=KY λ i j _ _ _ _ _ hc q=>by
 have h1:(0:Int)<j:=hc
 exact mod_int' (by omega) (by rw [Int.fmod_eq_emod_of_nonneg i (by omega)];exact q)
theorem FY:qA X (binaryOp .Pow) (rI R8 λ i j=>.int (i ^ j.toNat)):=KY λ _ _ _ _ _ _ _ hc q=>pow_int_small hc.1 hc.2.1 hc.2.2 q
theorem FE:qA X (binaryOp .BitXor) (wJ λ i j=>.int (Builtin.bitXor i j)):=V4 λ _ _ _ _ _ _ _ q=>xor_int q
theorem Bh {f:Value->Sem Value}{g:Int->Int}
  (rule:∀(i:Int) (t:Tok) (s:Shared) (Q:Value->Shared->Prop) (E:Value->Shared->Prop),Q (.int (g i) s.toks) { s with toks:=s.toks+1 }->wpAny (model X.prog X.w) X.A (f (.int i t)) Q E s):
  K8 X f (rU λ i=>.int (g i)):=by
 intro pins s σ H x v Q I rx h
 obtain ⟨i,rfl,q⟩:=h
 obtain ⟨t,rfl⟩:=rx
 exact rule i t s _ _ ⟨.int (g i),H,I.tok _,⟨_,rfl⟩,q⟩
theorem De:K8 X (unaryOp .USub) (rU λ i=>.int (-i)):=Bh λ _ _ _ _ _ q=>neg_int q
end
section
variable {X:Cx}{a b c:Expr}{ta tb tc:TE}{pos:Pos}
theorem Cg:qA X (compareOp .Lt) (wJ λ i j=>.bl (decide (i<j))):=Kx λ _ _ _ _ _ _ _ q=>lt_int q
theorem D6:qA X (compareOp .LtE) (wJ λ i j=>.bl (decide (i<=j))):=Kx λ _ _ _ _ _ _ _ q=>le_int q
theorem DW:qA X (compareOp .Gt) (wJ λ i j=>.bl (decide (j<i))):=Kx λ _ _ _ _ _ _ _ q=>gt_int q
theorem DE:qA X (compareOp .GtE) (wJ λ i j=>.bl (decide (j<=i))):=Kx λ _ _ _ _ _ _ _ q=>ge_int q
theorem qA.or {f:Value->Value->Sem Value}{r r':R2}(h:qA X f r)(h':qA X f r'):qA X f (λ x y H Q=>r x y H Q∨r' x y H Q):=by
 intro pins s σ H x y v u Q I rx ry q
 rcases q with q | q
 ·exact h pins s σ H x y v u Q I rx ry q
 ·exact h' pins s σ H x y v u Q I rx ry q
theorem Fq {op:CmpOp}{r:R2}(ho:qA X (compareOp op) r)(ha:PE X a ta)(hb:PE X b tb)(hm:behindInMarks op b=false):PE X (.Compare a [op] [b] pos) (JT r ta tb):=by
 intro pins s σ H Q I h
 exact wpAny_Compare1 (V7 ha hb I h λ v u s2 x y H2 I2 rx ry q=>ho pins s2 σ H2 x y v u Q I2 rx ry q) hm
noncomputable def RT (t:TE):TT:=λ σ H Q=>t σ H λ x H'=>∃k,x=.bl k/\Q k H'
theorem Hv {op:CmpOp}{r:R2}(ho:qA X (compareOp op) r)(ha:PE X a ta)(hb:PE X b tb)(hm:behindInMarks op b=false):PT X (.Compare a [op] [b] pos) (RT (JT r ta tb)):=by
 intro pins s σ H Q I h
 refine wpAny_isTrue_Compare1 (zS (ha pins s σ H _ I h) λ v s1 ⟨x,H1,I1,r1,q1⟩=>zS (hb pins s1 σ H1 _ I1 q1) λ u s2 ⟨y,H2,I2,r2,q2⟩=>
  zS (ho pins s2 σ H2 x y v u _ I2 r1 r2 q2) λ c s3 ⟨z,H3,I3,r3,k,e,q3⟩=>?_) hm
 subst e
 cases r3
 exact wpAny_truthy_bool ⟨H3,I3,q3⟩
noncomputable def X6 (r r':R2)(ta tb tc:TE):TE:=λ σ H Q=>ta σ H λ x H1=>tb σ H1 λ y H2=>r x y H2 λ z H3=>∃k,z=.bl k/\
 (if k=true then tc σ H3 λ w' H4=>r' y w' H4 Q else Q (.bl false) H3)
theorem LK {op op':CmpOp}{r r':R2}(ho:qA X (compareOp op) r)(ho':qA X (compareOp op') r')(ha:PE X a ta)(hb:PE X b tb)(hc:PE X c tc)
  (hm:lastMarks [op,op'] [b,c]=false:=by with_unfolding_all rfl):PE X (.Compare a [op,op'] [b,c] pos) (X6 r r' ta tb tc):=by
 intro pins s σ H Q I h
 refine Compare_chain (zS (ha pins s σ H _ I h) λ v s1 ⟨x,H1,I1,r1,q1⟩=>chain_link (zS (hb pins s1 σ H1 _ I1 q1) λ u s2 ⟨y,H2,I2,r2,q2⟩=>
  zS (ho pins s2 σ H2 x y v u _ I2 r1 r2 q2) λ d s3 ⟨z,H3,I3,r3,k,e,q3⟩=>?_)) hm
 subst e
 cases r3
 refine wpAny_truthy_bool ?_
 cases k with
 | false=>exact ite_ff ⟨.bl false,H3,I3,rfl,q3⟩
 | true=>exact ite_tt (chain_last (zS (hc pins s3 σ H3 _ I3 q3) λ w' s4 ⟨z',H4,I4,r4,q4⟩=>ho' pins s4 σ H4 y z' u w' Q I4 r2 r4 q4))
theorem Lo {op op':CmpOp}{r r':R2}(ho:qA X (compareOp op) r)(ho':qA X (compareOp op') r')(ha:PE X a ta)(hb:PE X b tb)(hc:PE X c tc)
  (hm:lastMarks [op,op'] [b,c]=false:=by with_unfolding_all rfl):PT X (.Compare a [op,op'] [b,c] pos) (RT (X6 r r' ta tb tc)):=by
 intro pins s σ H Q I h
 refine isTrue_chain (zS (ha pins s σ H _ I h) λ v s1 ⟨x,H1,I1,r1,q1⟩=>test_link (zS (hb pins s1 σ H1 _ I1 q1) λ u s2 ⟨y,H2,I2,r2,q2⟩=>
  zS (ho pins s2 σ H2 x y v u _ I2 r1 r2 q2) λ d s3 ⟨z,H3,I3,r3,k,e,q3⟩=>?_)) hm
 subst e
 cases r3
 refine wpAny_truthy_bool ?_
 cases k with
 | false=>
  obtain ⟨k',e',q'⟩:=q3
  cases e'
  exact ite_ff ⟨H3,I3,q'⟩
 | true=>
  refine ite_tt (test_last (zS (hc pins s3 σ H3 _ I3 q3) λ w' s4 ⟨z',H4,I4,r4,q4⟩=>zS (ho' pins s4 σ H4 y z' u w' _ I4 r2 r4 q4) λ d' s5 ⟨z2,H5,I5,r5,k2,e2,q5⟩=>?_))
  subst e2
  cases r5
  exact wpAny_truthy_bool ⟨H5,I5,q5⟩
theorem Jw:(sizeLine:Nat)<2 ^ 63:=by rw [sizeLine_eq];decide
theorem vals1 {x:V}{us:List Value}(r:Vals [x] us):∃u,us=[u]/\RelV x u:=by
 cases r with
 | cons r1 r2=>cases r2;exact ⟨_,rfl,r1⟩
theorem vals2 {x y:V}{us:List Value}(r:Vals [x,y] us):∃u w',us=[u,w']/\RelV x u/\RelV y w':=by
 cases r with
 | cons r1 r2=>
  cases r2 with
  | cons r3 r4=>cases r4;exact ⟨_,_,rfl,r1,r3⟩
theorem Ll:jK X (.builtin "abs") (λ xs H Q=>∃i,xs=[.int i]/\Q (.int (if i<0 then -i else i)) H):=by
 intro pins s σ H xs us Q I r h
 obtain ⟨i,rfl,q⟩:=h
 obtain ⟨u,rfl,t,rfl⟩:=vals1 r
 exact call_abs_int λ u tk=>⟨.int (if i<0 then -i else i),H,I.tok _,⟨_,rfl⟩,q⟩
theorem ML (hc:X.calm=true):jK X (.builtin "max") (λ xs H Q=>∃i j,xs=[.int i,.int j]/\Q (.int (if j > i then j else i)) H):=by
 intro pins s σ H xs us Q I r h
 obtain ⟨i,j,rfl,q⟩:=h
 obtain ⟨u,w',rfl,⟨t,rfl⟩,⟨t',rfl⟩⟩:=vals2 r
 refine max_two_ints (I.ok.hd hc) λ h' tk k=>⟨_,H,I.kept k,?_,q⟩
 by_cases hj:j > i
 ·rw [if_pos hj,if_pos hj];exact ⟨_,rfl⟩
 ·rw [if_neg hj,if_neg hj];exact ⟨_,rfl⟩
theorem MN (hc:X.calm=true):jK X (.builtin "min") (λ xs H Q=>∃i j,xs=[.int i,.int j]/\Q (.int (if j<i then j else i)) H):=by
 intro pins s σ H xs us Q I r h
 obtain ⟨i,j,rfl,q⟩:=h
 obtain ⟨u,w',rfl,⟨t,rfl⟩,⟨t',rfl⟩⟩:=vals2 r
 refine min_two_ints (I.ok.hd hc) λ h' tk k=>⟨_,H,I.kept k,?_,q⟩
 by_cases hj:j<i
 ·rw [if_pos hj,if_pos hj];exact ⟨_,rfl⟩
 ·rw [if_neg hj,if_neg hj];exact ⟨_,rfl⟩
theorem MC:jK X (.type "int") (λ xs H Q=>(∃i,xs=[.int i]/\Q (.int i) H)∨∃k,xs=[.bl k]/\Q (.int (if k then 1 else 0)) H):=by
 intro pins s σ H xs us Q I r h
 rcases h with ⟨i,rfl,q⟩ | ⟨k,rfl,q⟩
 ·obtain ⟨u,rfl,t,rfl⟩:=vals1 r
  exact call_int_int ⟨.int i,H,I,⟨_,rfl⟩,q⟩
 ·obtain ⟨u,rfl,r1⟩:=vals1 r
  cases r1
  exact call_int_bool ⟨.int (if k then 1 else 0),H,I.tok _,⟨_,rfl⟩,q⟩
end
structure V5 (h:Heap)(x dx C:Addr)(mA:Str->Option Value):Prop where
 obj:h.get? x=some (PySem.W.instObj C dx)
 ns:h.Ns1 dx mA
 ne:dx≠x
theorem MR {h:Heap}{dx:Addr}{mA:Str->Option Value}(n:h.Ns1 dx mA):∃od,h.get? dx=some od/\∀name,PySem.W.lookIn name od=some (mA name):=by
 obtain ⟨o,es,ep,ho,hd,hk,_,hm⟩:=n
 refine ⟨o,ho,λ name=>?_⟩
 have e:=hm name
 unfold nsFind findBy at e
 rw [<- Array.find?_toList] at e
 unfold PySem.W.lookIn
 rw [hd]
 dsimp only
 split
 ·rename_i y q
  rw [q] at e
  exact congrArg some e
 ·rename_i q
  rw [q] at e
  have a:es.toList.any (·.refKey)=false:=by
   rw [List.any_eq_false]
   intro y hy
   obtain ⟨z,t,hkey⟩:=hk y (Array.mem_toList_iff.mp hy)
   simp [DictEntry.refKey,hkey]
  have a':¬es.toList.any (·.refKey)=true:=by rw [a];exact Bool.false_ne_true
  rw [if_neg a']
  exact congrArg some e
theorem V5.look {h:Heap}{x dx C:Addr}{mA:Str->Option Value}(I:V5 h x dx C mA):∃od,PySem.W.InstAt h x (PySem.W.instObj C dx) C (some od)/\∀name,PySem.W.lookIn name od=some (mA name):=
 let ⟨od,ho,hl⟩:=MR I.ns
 ⟨od,⟨I.obj,rfl,rfl,ho⟩,hl⟩
section
variable {prog:Program}{w:World}{A:Around}{E:Value->Shared->Prop}{s:Shared}{K:Frag}{x dx C f:Addr}{mA:Str->Option Value}{name:Str}{v:Value}
end
section
variable {P:Program}{w:World}{H H':Hp}{h h':Heap}{a C dx:Addr}{fs fs':List (Str × V)}
theorem Ft (hok:jI P w H h)(e:H a=some (.ins C dx fs)):∃mA,V5 h a dx C mA/\(∀f,V0 (fs.lookup f) (mA f))/\PySem.Within mA (fs.map (·.1))/\fs.length<=1000/\H dx=some (.own a):=by
 obtain ⟨d,z,ne,ob,mA,n,r,q⟩:=(show qY P w H h a (.ins C dx fs) from hok a _ e)
 exact ⟨mA,⟨ob,n,ne⟩,r,q,z,d⟩
end
structure yG (K:Frag)(C:Addr):Prop where
 pg:PySem.W.plainGet K C Str.empty=true
 hd:PySem.W.hasDictIn K C=true
 po:PySem.W.plainOver K C=true
 sa:PySem.W.findIn K (.ref C) "__setattr__" = some (some (.builtin "object.__setattr__"))
theorem yG.get {K:Frag}{C:Addr}(c:yG K C)(f:Str):PySem.W.plainGet K C f=true:=c.pg
section
variable {X:Cx}{pins:List (Addr × Obj)}{σ:St}{H:Hp}{s:Shared}{a C dx:Addr}{fs:List (Str × V)}{f:Str}{v:V}{A:Around}{E:Value->Shared->Prop}
end
section
variable {X:Cx}{o e value:Expr}{f:Str}{pos pos' tpos:Pos}{ta tv:TE}
end
section
variable {X:Cx}{pins:List (Addr × Obj)}{σ:St}{H:Hp}{s:Shared}{A:Around}{E:Value->Shared->Prop}{Q:Value->Shared->Prop}{c:Value}{b:Bool}
inductive kI (K:Frag)(H:Hp):V->Value->Prop where
 | non:kI K H .non (.type "NoneType")
 | bl (x:Bool):kI K H (.bl x) (.type "bool")
 | int (i:Int):kI K H (.int i) (.type "int")
 | str (x:Str):kI K H (.str x) (.type "str")
 | flt (x:UInt64):kI K H (.flt x) (.type "float")
 | lst {a:Addr} {xs:List V} (e:H a=some (.lst xs)):kI K H (.ref a) (.type "list")
 | frz {a:Addr} {o:Obj} {xs:List V} (e:H a=some (.frz o (.lst xs))):kI K H (.ref a) (.type "list")
 | tup {a:Addr} {xs:List V} (e:H a=some (.tup xs)):kI K H (.ref a) (.type "tuple")
 | dK {a:Addr} {kvs:List (Key × V)} (e:H a=some (.dK kvs)):kI K H (.ref a) (.type "dict")
 | dT {a:Addr} {kvs:List (List Key × V)} (e:H a=some (.dT kvs)):kI K H (.ref a) (.type "dict")
 | ins {a C dx:Addr} {fs:List (Str × V)} (e:H a=some (.ins C dx fs)) (cl:yG K C) (ha:PySem.W.findIn K (.ref C) "__class__" = some (some (.builtin "object.__class__")))
   (hn:PySem.W.specialIn K (.builtin "object.__class__") "__get__" = some (some (.builtin "getset_descriptor.__get__"))) (htk:PySem.W.takesIn K (.builtin "object.__class__")=some true)
   (hm:PySem.W.mroIn K C (.type "object")=some true):kI K H (.ref a) (.ref C)
theorem Tz {x:V}{u t:Value}(I:Inv X pins σ H s)(rx:RelV x u)(ty:kI X.K H x t)(e:PySem.W.kitOne X.K t c=some b)(h:∀tk,Q (.bool b) { s with toks:=tk }):
  wpAny (model X.prog X.w) A (call (.builtin "isinstance") [u,c]) Q E s:=by
 cases ty with
 | non=>cases (show u=Value.none from rx);exact PySem.W.kia_one PySem.W.kitx_none I.kIn True.intro e (λ z=>nomatch z) h
 | bl y=>cases (show u=Value.bool y from rx);exact PySem.W.kia_one PySem.W.kitx_bool I.kIn True.intro e (λ z=>nomatch z) h
 | int i=>obtain ⟨t,q⟩:=(show ∃t,u=Value.int i t from rx);cases q;exact PySem.W.kia_one PySem.W.kitx_int I.kIn True.intro e (λ z=>nomatch z) h
 | str y=>obtain ⟨t,q⟩:=(show ∃t,u=Value.str y t from rx);cases q;exact PySem.W.kia_one PySem.W.kitx_str I.kIn True.intro e (λ z=>nomatch z) h
 | flt y=>obtain ⟨t,q⟩:=(show ∃t,u=Value.float y t from rx);cases q;exact PySem.W.kia_one PySem.W.kitx_float I.kIn True.intro e (λ z=>nomatch z) h
 | @lst a xs ea=>
  cases (show u=Value.ref a from rx)
  obtain ⟨_,_,n,_,h1⟩:=(show qY X.prog X.w H s.heap a (.lst xs) from I.hok a _ ea)
  exact PySem.W.kia_one PySem.W.kitx_list I.kIn ⟨_,h1,rfl⟩ e (λ z=>nomatch z) h
 | @frz a ob xs ea=>
  cases (show u=Value.ref a from rx)
  obtain ⟨_,_,_,n,_,h1⟩:=(show qY X.prog X.w H s.heap a (.frz ob (.lst xs)) from I.hok a _ ea)
  exact PySem.W.kia_one PySem.W.kitx_list I.kIn ⟨_,h1,rfl⟩ e (λ z=>nomatch z) h
 | @tup a xs ea=>
  cases (show u=Value.ref a from rx)
  obtain ⟨_,_,_,p⟩:=(show qY X.prog X.w H s.heap a (.tup xs) from I.hok a _ ea)
  obtain ⟨o,h1,h2,_⟩:=p
  exact PySem.W.kia_one PySem.W.kitx_tuple I.kIn ⟨o,h1,h2.1⟩ e (λ z=>nomatch z) h
 | @dK a kvs ea=>
  cases (show u=Value.ref a from rx)
  obtain ⟨_,_,vs,_,p⟩:=(show qY X.prog X.w H s.heap a (.dK kvs) from I.hok a _ ea)
  obtain ⟨o,es,ep,h1,h2,_⟩:=p
  exact PySem.W.kia_one PySem.W.kitx_dict I.kIn ⟨o,h1,h2.1⟩ e (λ z=>nomatch z) h
 | @dT a kvs ea=>
  cases (show u=Value.ref a from rx)
  obtain ⟨_,_,xs,_,o,es,ep,h1,h2,_⟩:=(show qY X.prog X.w H s.heap a (.dT kvs) from I.hok a _ ea)
  exact PySem.W.kia_one PySem.W.kitx_dict I.kIn ⟨o,h1,h2.1⟩ e (λ z=>nomatch z) h
 | @ins a C dx fs ea cl ha hn htk hm=>
  cases (show u=Value.ref a from rx)
  obtain ⟨mA,O,_⟩:=Ft I.hok ea
  obtain ⟨od,J,_⟩:=O.look
  exact PySem.W.kia_one (PySem.W.kitx_own (cl.get _) cl.hd ha hn htk hm) I.kIn J e (λ z=>nomatch z) h
end
structure jv (k:Nat)(A:Around):Prop where
 hd:A.handled=none
 dp:A.depth+3 * k+5<recursionLimit
 un:A.units+16 * k+200<cLine
theorem jv.mono {j k:Nat}{A:Around}(r:jv k A)(h:j<=k):jv j A:=⟨r.hd,by have:=r.dp;omega,by have:=r.un;omega⟩
theorem jv.deeper {k:Nat}{A:Around}(r:jv (k+1) A)(env:Env):jv k (A.deeper env):=
 ⟨r.hd,by have:=r.dp;show A.depth+1+3 * k+5<_;omega,by have:=r.un;show A.units+3+16 * k+200<_;omega⟩
theorem jv.depth {k:Nat}{A:Around}(r:jv k A):A.depth<recursionLimit:=by have:=r.dp;omega
theorem jv.units {k:Nat}{A:Around}(r:jv k A):A.units+64<cLine:=by have:=r.un;omega
noncomputable def VZ:TA:=λ _ H Q=>Q [] H
noncomputable def Ku (ta:TE)(tr:TA):TA:=λ σ H Q=>ta σ H λ x H1=>tr σ H1 λ xs H2=>Q (x::xs) H2
section
variable {X:Cx}{e:Expr}{es:List Expr}{te:TE}{t:TA}{pos:Pos}
theorem jY:PA X [] VZ:=λ _ _ _ _ H Q I h=>Calls.spliced_nil ⟨[],H,I,.nil,h⟩
theorem jn (ha:PE X e te)(hr:PA X es t)(hs:starEach (e::es) X.env=(false,eval e X.env)::starEach es X.env:=by rfl):PA X (e::es) (Ku te t):=by
 intro pos pins s σ H Q I h
 rw [hs]
 show wpAny _ _ (spliced ((false,eval e X.env)::backTo pos (starEach es X.env))) _ _ s
 refine Calls.spliced_cons (zS (ha pins s σ H _ I h) λ u s1 ⟨x,H1,I1,r1,q1⟩=>?_)
 exact zS (hr pos pins s1 σ H1 _ I1 q1) λ us s2 ⟨xs,H2,I2,r2,q2⟩=>⟨x::xs,H2,I2,.cons r1 r2,q2⟩
noncomputable def C7 (t:TA):TE:=λ σ H Q=>t σ H λ xs H1=>xs.length<=sizeLine/\∀p,H1 p=none->Q (.ref p) (upd H1 p (.tup xs))
noncomputable def CA (t:TA):TE:=λ σ H Q=>t σ H λ xs H1=>xs.length<=sizeLine/\∀p,H1 p=none->Q (.ref p) (upd H1 p (.lst xs))
theorem Rt {x1}(h:PA X es t):PE X (.Tuple es x1 pos) (C7 t):=by
 intro pins s σ H Q I hq
 refine wpAny_Tuple_spliced (zS (h pos pins s σ H _ I hq) λ us s1 ⟨xs,H1,I1,r,z,q⟩=>⟨by rw [<- r.length];exact z,?_⟩)
 have hf:H1 s1.heap.objs.size=none:=I1.hok.fresh (Nat.le_refl _)
 refine ⟨.ref s1.heap.objs.size,upd H1 s1.heap.objs.size (.tup xs),I1.laid (t':=s1.toks) (λ b u e=>Heap.get?_push_of_some _ e) (Nat.le_refl _) ?_,rfl,q _ hf⟩
 exact ⟨z,us,r,⟨_,Heap.get?_push_size _ rfl,⟨rfl,rfl⟩,_,rfl⟩⟩
theorem EH (h:PA X es t):PE X (.List es pos) (CA t):=by
 intro pins s σ H Q I hq
 refine wpAny_List_spliced (zS (h pos pins s σ H _ I hq) λ us s1 ⟨xs,H1,I1,r,z,q⟩=>⟨by rw [<- r.length];exact z,?_⟩)
 have hf:H1 s1.heap.objs.size=none:=I1.hok.fresh (Nat.le_refl _)
 refine ⟨.ref s1.heap.objs.size,upd H1 s1.heap.objs.size (.lst xs),I1.laid (t':=s1.toks) (λ b u e=>Heap.get?_push_of_some _ e) (Nat.le_refl _) ?_,rfl,q _ hf⟩
 exact ⟨z,us,0,r,Heap.get?_push_size _ rfl⟩
end
noncomputable abbrev Sp:=List V->Hp->VK->XK->Prop
noncomputable abbrev wm:=List Env->Hp->Shared->XK->Value->Shared->Prop
structure QU (P:Program)(w:World)(K:Frag)(mg:Str->Option Value)(base:Heap)(A:Around)(outer:List Env)(s:Shared)(H:Hp):Prop where
 frames:A.frames=some outer
 mod:Mod K mg base
 bs:∀b o,base.get? b=some o->s.heap.get? b=some o/\H b=none
 bsz:base.objs.size<=s.heap.objs.size
 funs:s.heap.FunFrames base outer
 frf:∀b∈ql outer,H b=none
 hok:jI P w H s.heap
 bare:AllBare s.gens
inductive CE (outer:List Env)(P:Program)(w:World)(H:Hp)(s:Shared)(Q:VK)(u:Value)(s':Shared):Prop
 | mk (v:V) (H':Hp) (os:s'.os=s.os) (b:AllBare s'.gens) (un:Un (ql outer) [] H H' s.heap s'.heap) (hk:jI P w H' s'.heap) (r:RelV v u) (q:Q v H')
noncomputable def CR (CX:wm)(outer:List Env)(P:Program)(w:World)(H:Hp)(s:Shared)(Q:VK)(E:XK)(r:Result)(s':Shared):Prop:=
 match r with
 | .ok (.ret u)=>CE outer P w H s Q u s'
 | .ok _=>False
 | .error e=>CX outer H s E e s'
structure yc (P:Program)(w:World)(K:Frag)(mg:Str->Option Value)(base:Heap)(CX:wm)(k:Nat)(f:Addr)(fd:FuncData)(ps:List Str)(sp:Sp):Prop where
 len:∀vs H Q E,sp vs H Q E->vs.length=ps.length
 run:∀(A:Around) (outer:List Env) (s:Shared) (H:Hp) (args:Args) (us:List Value) (vs:List V) (Q:VK) (E:XK),jv k A->QU P w K mg base A outer s H->BindsTo s fd args (ps.zip us)->Vals vs us->sp vs H Q E->
  codeAny (model P w) A (.call (.ref f) args) (CR CX outer P w H s Q E) s
theorem yc.mono {P:Program}{w:World}{K:Frag}{mg:Str->Option Value}{base:Heap}{CX:wm}{j k:Nat}{f:Addr}{fd:FuncData}{ps:List Str}{sp:Sp}(F:yc P w K mg base CX j f fd ps sp)(h:j<=k):
  yc P w K mg base CX k f fd ps sp:=⟨F.len,λ A outer s H args us vs Q E hr=>F.run A outer s H args us vs Q E (hr.mono h)⟩
theorem yc.imp {P:Program}{w:World}{K:Frag}{mg:Str->Option Value}{base:Heap}{CX:wm}{k:Nat}{f:Addr}{fd:FuncData}{ps:List Str}{sp sp':Sp}(F:yc P w K mg base CX k f fd ps sp)
  (h:∀vs H Q E,sp' vs H Q E->sp vs H Q E):yc P w K mg base CX k f fd ps sp':=
 ⟨λ vs H Q E q=>F.len vs H Q E (h _ _ _ _ q),λ A outer s H args us vs Q E hr he hb hv hs=>F.run A outer s H args us vs Q E hr he hb hv (h _ _ _ _ hs)⟩
section
variable {X:Cx}{pins:List (Addr × Obj)}{σ:St}{H:Hp}{s s':Shared}
theorem Inv.env0 (I:Inv X pins σ H s):QU X.prog X.w X.K X.mg X.base X.A X.stack s H:=
 ⟨I.ok.frames,I.ok.mod,I.bs,Nat.le_trans I.ok.bsz I.sz,I.stack,I.stkFree,I.hok,I.bare⟩
theorem Inv.after {Q:VK}{u:Value}(I:Inv X pins σ H s)(h:CE X.stack X.prog X.w H s Q u s'):EP X pins σ Q u s':=by
 obtain ⟨v,H',os,bare,un,hok,r,q⟩:=h
 obtain ⟨hh,g,d,t,os'⟩:=s'
 obtain rfl:os'=s.os:=os
 exact ⟨v,H',I.call (h':=hh) (g':=g) (d':=d) (t':=t) (ch:=[]) un hok bare (λ b z=>absurd z (by simp)),r,q⟩
end
noncomputable def Cp (sp:Sp)(dvs:List V)(E:XK)(t:TA):TE:=λ σ H Q=>t σ H λ vs H1=>sp (vs++dvs) H1 Q E
noncomputable def Binds (K:Frag)(fd:FuncData)(ps:List Str)(ds:List Value):Prop:=
 ∀(s:Shared) (us:List Value),K.In s.heap->(us++ds).length=ps.length->BindsTo s fd ⟨us,[]⟩ (ps.zip (us++ds))
theorem Binds.all {K:Frag}{fd:FuncData}{ps:List Str}(h:∀us:List Value,us.length=ps.length->bindArgs fd ⟨us,[]⟩=pure (ps.zip us)):Binds K fd ps []:=λ s us _ hl=>by
 rw [List.append_nil] at hl ⊢
 exact .of_eq (h us hl)
noncomputable def Passes (CX:wm)(X:Cx)(E:XK):Prop:=∀(pins:List (Addr × Obj)) (σ:St) (H:Hp) (s:Shared) (e:Value) (s':Shared),Inv X pins σ H s->CX X.stack H s E e s'->X.xe e s'
section
variable {X:Cx}{CX:wm}{k:Nat}{f C:Addr}{fd:FuncData}{ps:List Str}{sp:Sp}{dvs:List V}{ds:List Value}{E:XK}{x m:Str}{p pos apos:Pos}{e o:Expr}{es:List Expr}{ta:TE}{t:TA}
theorem Ep {pins:List (Addr × Obj)}{σ:St}{H:Hp}{s:Shared}{Q:VK}{us:List Value}{vs:List V}(F:yc X.prog X.w X.K X.mg X.base CX k f fd ps sp)(hr:jv k X.A)(hb:Binds X.K fd ps ds)(hd:Vals dvs ds)(hx:Passes CX X E)
  (I:Inv X pins σ H s)(r:Vals vs us)(h:sp (vs++dvs) H Q E):wpAny (model X.prog X.w) X.A (call (.ref f) us) (EP X pins σ Q) X.xe s:=by
 have r2:Vals (vs++dvs) (us++ds):=r.append hd
 have hl:(us++ds).length=ps.length:=by rw [<- r2.length];exact F.len _ _ _ _ h
 refine wpAny_call (codeAny_mono (F.run X.A X.stack s H ⟨us,[]⟩ (us++ds) (vs++dvs) Q E hr I.env0 (hb s us I.kIn hl) r2 h) λ r s' hq=>?_)
 cases r with
 | error e=>exact hx pins σ H s e s' I hq
 | ok fl=>
  cases fl with
  | ret u=>exact I.after hq
  | next=>exact False.elim hq
  | brk=>exact False.elim hq
  | cont=>exact False.elim hq
theorem Sl (F:yc X.prog X.w X.K X.mg X.base CX k f fd ps sp)(hr:jv k X.A)(hg:Gl X x)(hm:X.mg x=some (.ref f))(hk:PySem.W.keepIn X.K (.ref f)=true)(hb:Binds X.K fd ps ds)(hd:Vals dvs ds)(hx:Passes CX X E)
  (ha:PA X (e::es) t)(hdb:(x==("__debug__" : Str))=false:=by decide)(he:starEach (e::es) X.env=(false,eval e X.env)::starEach es X.env:=by rfl)(hpl:(backTo pos (starEach es X.env)).any (·.1)=false:=by rfl):
  PE X (.Call (.Name x p) (e::es) [] pos) (Cp sp dvs E t):=by
 intro pins s σ H Q I h
 refine wpAny_Call_Name_kw (Js I hg hm ?_ hdb)
 refine PySem.W.callWith_K (h₀:=X.base) I.ok.mod.kin hk (zS (ha pos pins s σ H _ I h) λ us s1 ⟨vs,H1,I1,r,q⟩=>⟨I1.kIn,?_⟩) he hpl
 exact Ep F hr hb hd hx I1 r q
end
section
variable {X:Cx}{CX:wm}{k:Nat}{f C:Addr}{fd:FuncData}{ps ks:List Str}{sp:Sp}{E:XK}{x m:Str}{p pos apos kpos:Pos}{e o:Expr}{es:List Expr}{kws:List Keyword}{te ta:TE}{t tk:TA}{nm:Option Str}
variable {g:List Value->List Value->List Value}{gV:List V->List V->List V}
end
structure qU (N P:List Str)(sc:Scope):Prop where
 kind:sc.kind=.function
 co:sc.isCoroutine=false
 gen:sc.isGenerator=false
 nd:N.Nodup
 pre:N.take P.length=P
 par:∀x∈P,sc.names.lookup x=some .local∨sc.names.lookup x=some .cell
 nofree:∀y∈sc.names,y.2≠.free
theorem Tc {kindOf:Str->Option NameKind}{x:Str}:∀{binds:List (Str × Value)} {m:Str->Option Value},(∀v,(x,v)∉binds)->bindL kindOf binds m x=m x
 | [],_,_=>rfl
 | (n,v)::r,m,h=>by
  unfold bindL
  rw [Tc λ w hw=>h w (List.mem_cons_of_mem _ hw)]
  split
  ·have:x≠n:=by rintro rfl;exact h v List.mem_cons_self
   simp [this]
  ·rfl
theorem Tp {kindOf:Str->Option NameKind}{x:Str}:∀{binds:List (Str × Value)} {m:Str->Option Value},(∀v,(x,v)∉binds)->bindC kindOf binds m x=m x
 | [],_,_=>rfl
 | (n,v)::r,m,h=>by
  unfold bindC
  rw [Tp λ w hw=>h w (List.mem_cons_of_mem _ hw)]
  split
  ·rfl
  ·have:x≠n:=by rintro rfl;exact h v List.mem_cons_self
   simp [this]
theorem TB {kindOf:Str->Option NameKind}{x:Str}{v:Value}:∀{P:List Str} {vs:List Value} {i:Nat} {m:Str->Option Value},P.Nodup->P[i]? =some x->vs[i]? =some v->kindOf x=some .local->
  bindL kindOf (P.zip vs) m x=some v
 | [],_,_,_,_,h,_,_=>by simp at h
 | _::_,[],_,_,_,_,h,_=>by simp at h
 | p::P,w::vs,0,m,nd,h1,h2,hk=>by
  simp at h1 h2;subst h1;subst h2
  show bindL kindOf ((p,w)::P.zip vs) m p=_
  unfold bindL
  rw [Tc λ v hv=>(List.nodup_cons.mp nd).1 (List.of_mem_zip hv).1,if_pos hk]
  simp
 | p::P,w::vs,i+1,m,nd,h1,h2,hk=>by
  show bindL kindOf ((p,w)::P.zip vs) m x=_
  unfold bindL
  exact TB (i:=i) (List.nodup_cons.mp nd).2 (by simpa using h1) (by simpa using h2) hk
theorem Tn {kindOf:Str->Option NameKind}{x:Str}{v:Value}:∀{P:List Str} {vs:List Value} {i:Nat} {m:Str->Option Value},P.Nodup->P[i]? =some x->vs[i]? =some v->kindOf x≠some .local->
  bindC kindOf (P.zip vs) m x=some v
 | [],_,_,_,_,h,_,_=>by simp at h
 | _::_,[],_,_,_,_,h,_=>by simp at h
 | p::P,w::vs,0,m,nd,h1,h2,hk=>by
  simp at h1 h2;subst h1;subst h2
  show bindC kindOf ((p,w)::P.zip vs) m p=_
  unfold bindC
  rw [Tp λ v hv=>(List.nodup_cons.mp nd).1 (List.of_mem_zip hv).1,if_neg hk]
  simp
 | p::P,w::vs,i+1,m,nd,h1,h2,hk=>by
  show bindC kindOf ((p,w)::P.zip vs) m x=_
  unfold bindC
  exact Tn (i:=i) (List.nodup_cons.mp nd).2 (by simpa using h1) (by simpa using h2) hk
noncomputable def start (N:List Str)(vs:List V):St:=vs.map some++List.replicate (N.length - vs.length) none
noncomputable def kG (CX:wm)(P:Program)(w:World)(K:Frag)(mg:Str->Option Value)(base:Heap)(N:List Str)(qual:Str)(scope:Scope)(f:Addr)(cd:Value)(A:Around)(outer:List Env)(s:Shared)(H:Hp)(E:XK):Cx where
 prog:=P
 w:=w
 K:=K
 mg:=mg
 base:=base
 A:=A.deeper (envOfC qual scope s.heap.objs.size f cd)
 N:=N
 s0:=s
 H0:=H
 env:=envOfC qual scope s.heap.objs.size f cd
 outer:=outer
 stack:=envOfC qual scope s.heap.objs.size f cd::outer
 ex:=[]
 calm:=true
 fn:=λ _=>true
 pn:=[]
 xe:=λ e s'=>wpAny (model P w) (A.deeper (envOfC qual scope s.heap.objs.size f cd)) (leaving (envOfC qual scope s.heap.objs.size f cd) e) (λ _ s''=>CX outer H s E e s'') (λ e' s''=>CX outer H s E e' s'') s'
theorem TQ {sc:Scope}{n:Nat}{x:Str}(h:sc.names.lookup x=some .cell):∃c,(cellsFrom n sc.names []).lookup x=some c:=by
 have q:=PySem.W.cellsFrom_some sc.names n [] (.inl h)
 exact Option.isSome_iff_exists.mp q
theorem N9 {CX:wm}{P:Program}{w:World}{K:Frag}{mg:Str->Option Value}{base:Heap}{N ps:List Str}{qual:Str}{scope:Scope}{f:Addr}{cd:Value}{A:Around}{outer:List Env}{s s1:Shared}{H:Hp}{E:XK}{us:List Value}{vs:List V}
  (S:qU N ps scope)(hd:A.handled=none)(e0:QU P w K mg base A outer s H)(hl:vs.length=ps.length)(r:Vals vs us)
  (x:InCallC s s.heap.objs.size (bindL (envOfC qual scope s.heap.objs.size f cd).kindOf (ps.zip us) λ _=>none) (cellsFrom (s.heap.objs.size+1) scope.names []) (bindC (envOfC qual scope s.heap.objs.size f cd).kindOf (ps.zip us) λ _=>none) s1):
  Inv (kG CX P w K mg base N qual scope f cd A outer s H E) [] (start N vs) H s1:=by
 have hpl:ps.length<=N.length:=by have:=congrArg List.length S.pre;rw [List.length_take] at this;omega
 obtain ⟨h1,tk,rfl,hk⟩:=x.done
 have noA:∀b:Addr,b∉(kG CX P w K mg base N qual scope f cd A outer s H E).ex:=λ b z=>absurd (show b∈([]:List Addr) from z) (by simp)
 refine ⟨⟨e0.mod,S.kind,rfl,rfl,Nat.le_refl _,λ y z c h1 h2=>?_,λ y hy=>?_,λ y c _ h=>?_,λ _=>hd,Around.frames_deeper e0.frames,.inr ⟨rfl,rfl⟩,λ b z=>absurd z (noA b),e0.bs,e0.bsz,λ b _ _=>noA b,λ b z=>absurd z (noA b),e0.funs,e0.frf⟩,
  rfl,e0.bare,Un.kept hk,⟨_,x.toInCall.ns,λ i y v h1 h2 h3=>?_⟩,λ y c h=>⟨_,x.cell y c h⟩,e0.hok.fresh (Nat.le_refl _),λ y c h=>?_,λ p hp=>absurd (show p∈([]:List (Addr × Obj)) from hp) (by simp),e0.hok.kept hk,?_⟩
 ·exact name_of_addr x.apart (PySem.mem_of_lookup h1) (PySem.mem_of_lookup h2)
 ·have hy:scope.names.lookup y=some .cell∨scope.names.lookup y=some .free:=hy
  rcases hy with hy | hy
  ·exact TQ hy
  ·exact absurd rfl (S.nofree _ (PySem.mem_of_lookup hy))
 ·exact Nat.le_of_lt (x.above y c (PySem.mem_of_lookup h))
 ·have hi:i<vs.length:=by
   unfold start at h2
   by_cases hi:i<vs.length
   ·exact hi
   ·rw [List.getElem?_append_right (by simpa using hi)] at h2
    rw [List.getElem?_replicate] at h2
    split at h2<;>cases h2
  have ha:vs[i]? =some v:=by
   unfold start at h2
   rw [List.getElem?_append_left (by simpa using hi),List.getElem?_map] at h2
   cases e:vs[i]? with
   | none=>rw [e] at h2;cases h2
   | some a=>rw [e] at h2;cases h2;rfl
  obtain ⟨u,hu,rv⟩:=r.get ha
  have hp:ps[i]? =some y:=by
   rw [<- S.pre,List.getElem?_take_of_lt (by omega)];exact h1
  have ndP:ps.Nodup:=by rw [<- S.pre];exact S.nd.sublist (List.take_sublist _ _)
  refine ⟨u,rv,?_⟩
  rcases S.par y (List.mem_of_getElem? hp) with k | k
  ·exact .inl ⟨k,TB ndP hp hu k⟩
  ·obtain ⟨c,e⟩:=TQ (n:=s.heap.objs.size+1) k
   refine .inr ⟨.inl k,c,e,?_⟩
   have q:=x.cell y c e
   rw [Tn ndP hp hu (by show scope.names.lookup y≠_;rw [k];decide)] at q
   exact q
 ·exact e0.hok.fresh (Nat.le_of_lt (x.above y c (PySem.mem_of_lookup h)))
 ·unfold start
  show _=N.length
  rw [List.length_append,List.length_map,List.length_replicate]
  omega
theorem Vd {CX:wm}{P:Program}{w:World}{K:Frag}{mg:Str->Option Value}{base:Heap}{k:Nat}{f:Addr}{name qual:Str}{params:Arguments}{body:List Stmt}{scope:Scope}{dV kV doc pm cdv ct oc:Value}{an od:Option Addr}
  {osl:Array (Option Value)}{N ps:List Str}{sp:Sp}(lk:K.lookup f=some ⟨oc,od,.func (PySem.W.fnOf name qual params body scope dV kV doc pm an cdv ct),osl⟩)(hcd:PySem.W.codeIn K cdv qual=true)(S:qU N ps scope)
  (len:∀vs H Q E,sp vs H Q E->vs.length=ps.length)
  (hbody:∀(A:Around) (outer:List Env) (s:Shared) (H:Hp) (vs:List V) (Q:VK) (E:XK),jv k (A.deeper (envOfC qual scope s.heap.objs.size f cdv))->sp vs H Q E->
   ∃t,j7 (kG CX P w K mg base N qual scope f cdv A outer s H E) body t/\t { nx:=λ _ H'=>Q .non H',rt:=Q } (start N vs) H):
  yc P w K mg base CX (k+1) f (PySem.W.fnOf name qual params body scope dV kV doc pm an cdv ct) ps sp:=by
 refine ⟨len,λ A outer s H args us vs Q E hr e0 hb r hsp=>?_⟩
 have hl:=len _ _ _ _ hsp
 have KX:K.In s.heap:=e0.mod.kin.keeps λ b o e=>(e0.bs b o e).1
 have lim:s.heap.NoLimit:=e0.mod.nolimit.keeps λ b o e=>(e0.bs b o e).1
 have hkind:∀y∈ps.zip us,scope.names.lookup y.1=some .local∨(scope.names.lookup y.1=some .cell/\((cellsFrom (s.heap.objs.size+1) scope.names []).lookup y.1).isSome=true):=λ ⟨n,v⟩ hy=>by
  rcases S.par n (List.of_mem_zip hy).1 with q | q
  ·exact .inl q
  ·exact .inr ⟨q,PySem.W.cellsFrom_some _ _ _ (.inl q)⟩
 refine codeAny_call_function hr.depth (KX _ _ lk) rfl S.co S.gen rfl (PySem.W.codeRec_of KX hcd) (hb _ _ _ _ ?_)
 refine wpAny_newFunctionEnv_cells S.kind hkind λ env he s1 x=>?_
 subst he
 refine ⟨lim.keeps x.toInCall.keep,codeAny_func ?_⟩
 obtain ⟨t,ht,hq⟩:=hbody A outer s H vs Q E (hr.deeper _) hsp
 have I:Inv (kG CX P w K mg base N qual scope f cdv A outer s H E) [] (start N vs) H s1:=N9 S hr.hd e0 hl r x
 refine wpAny_mono (ht [] s1 (start N vs) H _ I hq) (λ fl s' hs=>?_) λ e s' hs=>hs
 have fin:∀{σ':St} {H':Hp} {v:V} {u:Value},Inv (kG CX P w K mg base N qual scope f cdv A outer s H E) [] σ' H' s'->RelV v u->Q v H'->CE outer P w H s Q u s':=
  λ {σ' H' v u} J rv q=>⟨v,H',J.os,J.bare,J.base,J.hok,rv,q⟩
 cases fl with
 | ret u=>
  obtain ⟨v,σ',H',J,rv,q⟩:=hs
  exact fin J rv q
 | next=>
  obtain ⟨σ',H',J,q⟩:=hs
  exact fin (v:=V.non) (u:=Value.none) J rfl q
 | brk=>
  obtain ⟨_,_,_,q⟩:=hs
  exact False.elim q
 | cont=>
  obtain ⟨_,_,_,q⟩:=hs
  exact False.elim q
section
variable {X:Cx}{x:Str}{p pos:Pos}{e:Expr}{es:List Expr}{t:TA}{id T:String}{r:List V->Hp->VK->Prop}
noncomputable def K4 (r:List V->Hp->VK->Prop)(t:TA):TE:=λ σ H Q=>t σ H λ vs H1=>r vs H1 Q
theorem Zh (hc:jK X (.builtin id) r)(hg:Gl X x)(hm:X.mg x=none)(hv:bootBuiltins x=some (.builtin id))(ha:PA X (e::es) t)(hn:x ≠ "__name__" := by decide)(hdb:(x==("__debug__" : Str))=false:=by decide)
  (he:starEach (e::es) X.env=(false,eval e X.env)::starEach es X.env:=by rfl)(hpl:(backTo pos (starEach es X.env)).any (·.1)=false:=by rfl):PE X (.Call (.Name x p) (e::es) [] pos) (K4 r t):=by
 intro pins s σ H Q I h
 refine wpAny_Call_Name_kw (Zs I hg hm hv ?_ hn hdb)
 exact PyProof.Rows.callWith_builtin1 (zS (ha pos pins s σ H _ I h) λ us s1 ⟨vs,H1,I1,r1,q1⟩=>hc pins s1 σ H1 vs us Q I1 r1 q1) he hpl
theorem Qw (hc:jK X (.type T) r)(hg:Gl X x)(hm:X.mg x=none)(hv:bootBuiltins x=some (.type T))(ha:PA X (e::es) t)(hn:x ≠ "__name__" := by decide)(hdb:(x==("__debug__" : Str))=false:=by decide)
  (he:starEach (e::es) X.env=(false,eval e X.env)::starEach es X.env:=by rfl)(hpl:(backTo pos (starEach es X.env)).any (·.1)=false:=by rfl):PE X (.Call (.Name x p) (e::es) [] pos) (K4 r t):=by
 intro pins s σ H Q I h
 refine wpAny_Call_Name_kw (Zs I hg hm hv ?_ hn hdb)
 exact PyProof.Rows.callWith_type1 (zS (ha pos pins s σ H _ I h) λ us s1 ⟨vs,H1,I1,r1,q1⟩=>hc pins s1 σ H1 vs us Q I1 r1 q1) he hpl
end
end L2
namespace HT
open PySem PyProof.Rows
section
open PySem.SeqAt
open PySem.AutoSeq1 (wpAny_loadPart')
open PySem.MeetsSeq PySem.MeetsSeq2 PySem.MeetsSeq3
end
section
variable {prog:Program}{w:World}{A:Around}{E:Value->Shared->Prop}{s:Shared}
theorem He {t b:Addr}{vs ws:List Value}{Q:Value->Shared->Prop}(ht:IsTup s.heap t vs.toArray)(hb:IsTup s.heap b ws.toArray)(hv:vs≠[])
  (h1:ws=[]->Q (.ref t) s)(h2:ws≠[]->Q (.ref s.heap.objs.size) { s with heap:=s.heap.push { cls:=.type "tuple",data:=.seq (vs++ws).toArray } })
  (hsz:vs.length+ws.length<=sizeLine):wpAny (model prog w) A (binaryOp .Add (.ref t) (.ref b)) Q E s:=by
 obtain ⟨⟨cls,dd,data,sl⟩,ho,hc,n,hd⟩:=id ht
 obtain ⟨⟨cls2,dd2,data2,sl2⟩,ho2,hc2,n2,hd2⟩:=id hb
 simp only at hc hd hc2 hd2
 subst hc hd hc2 hd2
 have e:vs.toArray++ws.toArray=(vs++ws).toArray:=by simp
 by_cases hw:ws=[]
 ·exact concat_meets ⟨_,ho,rfl⟩ ⟨_,ho2,rfl⟩ noFill_tuple_add seq_tuple_add PySem.F.slot_tuple_add PySem.F.entry_tuple_add (PySem.F.args_tuple_add_2 _ _)
   (tuple_addW1 t b vs.toArray ws.toArray n n2 dd dd2 sl sl2 (by simpa using hv) (by simp [hw])) ⟨ho,ho2,h1 hw⟩
 ·refine concat_meets ⟨_,ho,rfl⟩ ⟨_,ho2,rfl⟩ noFill_tuple_add seq_tuple_add PySem.F.slot_tuple_add PySem.F.entry_tuple_add (PySem.F.args_tuple_add_2 _ _)
   (tuple_addW2 t b vs.toArray ws.toArray n n2 dd dd2 sl sl2 (by simpa using hv) (by simpa using hw) (by rw [List.size_toArray,List.size_toArray];exact hsz)) ⟨ho,ho2,?_⟩
  rw [e]
  exact h2 hw
noncomputable def qi (n d:Nat):Option Int->Nat
 | none=>d
 | some v=>if v<0 then (v+(n:Int)).toNat else min v.toNat n
theorem ER (n d:Nat)(hd:d<=n)(o:Option Int):qi n d o<=n:=by
 cases o with
 | none=>exact hd
 | some v=>
  show (if v<0 then (v+(n:Int)).toNat else min v.toNat n)<=n
  by_cases hv:v<0
  ·rw [if_pos hv];omega
  ·rw [if_neg hv];exact Nat.min_le_right _ _
theorem Sw (v:Int)(n d:Nat):(if v<0 then max (v+(n:Int)) 0 else min v (n:Int))=((qi n d (some v):Nat):Int):=by
 show (if v<0 then max (v+(n:Int)) 0 else min v (n:Int))=(((if v<0 then (v+(n:Int)).toNat else min v.toNat n):Nat):Int)
 by_cases hv:v<0
 ·simp only [if_pos hv];omega
 ·simp only [if_neg hv];omega
theorem Nv (lo hi:Option Int)(n:Nat):Builtin.Slice.sliceAdjust lo hi 1 (n:Int)=(((qi n 0 lo:Nat):Int),((qi n n hi:Nat):Int)):=by
 have h1:¬((1:Int)<0):=by omega
 unfold Builtin.Slice.sliceAdjust
 simp only [h1,if_false]
 refine Prod.ext ?_ ?_
 ·cases lo with
  | none=>rfl
  | some v=>exact Sw v n 0
 ·cases hi with
  | none=>rfl
  | some v=>exact Sw v n n
theorem Nz (i j:Nat):Builtin.Slice.slicePlaces (i:Int) (j:Int) 1=j - i:=by
 unfold Builtin.Slice.slicePlaces
 have h1:(1:Int) > 0:=by omega
 simp only [h1,if_true,Int.ediv_one]
 split<;>omega
theorem Ta {v:Value}{o:Option Int}{Q:Option Int->Shared->Prop}(p:IsPart v o)(h:Q o s):wpAny (model prog w) A (Builtin.Slice.slicePartIndex v) Q E s:=by
 cases p with
 | none=>exact slicePart_none h
 | int i t=>exact slicePart_int h
theorem UA {sl:Addr}{vl vu:Value}{lo hi:Option Int}{n:Nat}{Q:Int × Int × Nat->Shared->Prop}(hs:s.heap.IsSliceOf sl vl vu .none)(pl:IsPart vl lo)(pu:IsPart vu hi)
  (h:Q (((qi n 0 lo:Nat):Int),1,qi n n hi - qi n 0 lo) s):wpAny (model prog w) A (Builtin.Slice.sliceApplied (.ref sl) (pure (n:Int))) Q E s:=by
 obtain ⟨os,hos,hcs,hds⟩:=id hs
 unfold Builtin.Slice.sliceApplied Builtin.Slice.sliceFields
 refine wpAny_bind (wpAny_bind (wpAny_field hos hds (x:=vl) rfl (wpAny_bind (wpAny_field hos hds (x:=vu) rfl (wpAny_bind (wpAny_field hos hds (x:=.none) rfl (wpAny_pure ?_)))))))
 refine wpAny_bind (slicePart_none ?_)
 show wpAny _ _ (if ((1:Int)==0)=true then _ else _) _ _ s
 rw [if_neg (by decide)]
 refine wpAny_bind (Ta pl (wpAny_bind (Ta pu (wpAny_bind (wpAny_pure ?_)))))
 show wpAny _ _ (match Builtin.Slice.sliceAdjust lo hi 1 (n:Int) with | (lo,hi)=>pure (lo,(1:Int),Builtin.Slice.slicePlaces lo hi 1)) _ _ s
 rw [Nv lo hi n]
 show wpAny _ _ (pure (((qi n 0 lo:Nat):Int),(1:Int),Builtin.Slice.slicePlaces ((qi n 0 lo:Nat):Int) ((qi n n hi:Nat):Int) 1)) _ _ s
 rw [Nz]
 exact wpAny_pure h
theorem Lz (xs:Array Value)(i k:Nat):((List.range k).filterMap λ (m:Nat)=>xs[((i:Int)+(m:Int) * 1).toNat]?).toArray=((xs.toList.drop i).take k).toArray:=by
 have e:(λ (m:Nat)=>xs[((i:Int)+(m:Int) * 1).toNat]?)=λ m=>xs[i+m]?:=by
  funext m
  have:((i:Int)+(m:Int) * 1).toNat=i+m:=by omega
  rw [this]
 rw [e]
 have:=pick_run xs i k
 rw [List.filterMap_map] at this
 have e2:((λ x=>xs[x]?) ∘ λ x=>i+x)=λ m=>xs[i+m]?:=rfl
 rw [e2] at this
 rw [this]
theorem PR {t sl:Addr}{items:Array Value}{vl vu:Value}{lo hi:Option Int}{Q:Value->Shared->Prop}(ht:IsTup s.heap t items)(hs:s.heap.IsSliceOf sl vl vu .none)(pl:IsPart vl lo)(pu:IsPart vu hi)
  (hw:¬(qi items.size 0 lo=0/\qi items.size items.size hi=items.size))
  (h:Q (.ref s.heap.objs.size) { s with heap:=s.heap.push { cls:=.type "tuple",data:=.seq ((items.toList.drop (qi items.size 0 lo)).take (qi items.size items.size hi - qi items.size 0 lo)).toArray } })
  (hsz:items.size<=sizeLine):wpAny (model prog w) A (getItem (.ref t) (.ref sl)) Q E s:=by
 have htake:sizeOk (.seq ((items.toList.drop (qi items.size 0 lo)).take (qi items.size items.size hi - qi items.size 0 lo)).toArray):=by
  show ((items.toList.drop (qi items.size 0 lo)).take (qi items.size items.size hi - qi items.size 0 lo)).toArray.size<=sizeLine
  rw [List.size_toArray,List.length_take,List.length_drop,Array.length_toList]
  omega
 have hj:qi items.size items.size hi<=items.size:=ER _ _ (Nat.le_refl _) hi
 obtain ⟨os,hos,hcs,hds⟩:=id hs
 have hTs:s.TypeIs (.ref sl) "slice" := ⟨os,hos,hcs⟩
 unfold getItem
 try with_reducible refine wpAny_holding ?_
 first | refine wpAny_bind (wpAny_pure ?_) | skip
 refine wpAny_bind (wpAny_sequenceKey ht.typeIs (by decide) ?_)
 refine wpAny_bind (wpAny_callSpecial?_slot (name:=Str.ofString "__getitem__") ht.typeIs PyProof.Rows.slot_tuple_getitem
  (wpAny_call_entry PyProof.Rows.slot_tuple_getitem ht.typeIs entry_tuple_getitem ?_ (args_tuple_getitem _ _)))
 show wpAny _ _ (Builtin.Tuple.tupleItemsOf (.ref t) >>= _) _ _ s
 refine wpAny_bind (tupleItemsOf_ ht ?_)
 refine wpAny_bind (wpAny_typeOf hTs ?_)
 rw [if_pos (by decide)]
 refine wpAny_bind (UA hs pl pu ?_)
 have hno:¬((((qi items.size 0 lo:Nat):Int)==0&&(1:Int)==1&&(qi items.size items.size hi - qi items.size 0 lo)==items.size)=true):=by
  intro q
  rw [Bool.and_eq_true,Bool.and_eq_true] at q
  have q1:((qi items.size 0 lo:Nat):Int)=0:=eq_of_beq q.1.1
  have q2:qi items.size items.size hi - qi items.size 0 lo=items.size:=eq_of_beq q.2
  exact hw ⟨by omega,by omega⟩
 show wpAny _ _ (if (((qi items.size 0 lo:Nat):Int)==0&&(1:Int)==1&&(qi items.size items.size hi - qi items.size 0 lo)==items.size)=true then _ else _) _ _ s
 rw [if_neg hno,Lz]
 first
  | exact wpAny_bind (m:=Builtin.Tuple.tupleExact _) (wpAny_newObj_type (wpAny_pure ⟨_,rfl,wpAny_pure h⟩) htake)
  | exact wpAny_bind (m:=Builtin.Tuple.tupleExact _) (wpAny_newObj_type (wpAny_bind (wpAny_pure (wpAny_pure ⟨_,rfl,wpAny_pure h⟩))) htake)
  | exact wpAny_bind (wpAny_bind (m:=Builtin.Tuple.tupleExact _) (wpAny_newObj_type (wpAny_pure (wpAny_pure ⟨_,rfl,wpAny_pure h⟩)) htake))
  | exact wpAny_bind (wpAny_bind (m:=Builtin.Tuple.tupleExact _) (wpAny_newObj_type (wpAny_pure ⟨_,rfl,wpAny_pure h⟩) htake))
end
end HT
namespace L2
open PySem PySem.Spec PyProof.Rows
noncomputable abbrev TO:=St->Hp->(Option Int->Hp->Prop)->Prop
noncomputable def PO (X:Cx)(e:Option Expr)(t:TO):Prop:=
 ∀(pins:List (Addr × Obj)) (s:Shared) (σ:St) (H:Hp) (Q:Option Int->Hp->Prop),Inv X pins σ H s->t σ H Q->
  wpAny (model X.prog X.w) X.A (evalPart e X.env) (λ u s'=>∃o H',Inv X pins σ H' s'/\IsPart u o/\Q o H') X.xe s
noncomputable def Hc:TO:=λ _ H Q=>Q none H
noncomputable def D5 (t:TE):TO:=λ σ H Q=>t σ H λ x H1=>∃i,x=.int i/\Q (some i) H1
section
variable {X:Cx}{e:Expr}{te:TE}{lo hi:Option Expr}{tl th:TO}{pos p2:Pos}
theorem Fo:PO X none Hc:=by
 intro pins s σ H Q I h
 rw [evalPart_none]
 exact wpAny_pure ⟨none,H,I,.none,h⟩
theorem HX (h:PE X e te):PO X (some e) (D5 te):=by
 intro pins s σ H Q I hw
 rw [evalPart_some]
 refine zS (h pins s σ H _ I hw) λ u s1 ⟨x,H1,I1,r1,q1⟩=>?_
 obtain ⟨i,rfl,q⟩:=q1
 obtain ⟨t,rfl⟩:=r1
 exact ⟨some i,H1,I1,.int i t,q⟩
noncomputable def Um (X:Cx)(r:V->Option Int->Option Int->Hp->VK->Prop):Prop:=
 ∀(pins:List (Addr × Obj)) (s:Shared) (σ:St) (H:Hp) (x:V) (v vl vu:Value) (lo hi:Option Int) (sl:Addr) (Q:VK),Inv X pins σ H s->RelV x v->s.heap.IsSliceOf sl vl vu .none->IsPart vl lo->IsPart vu hi->r x lo hi H Q->
  ∃T id,typeLookup (.type T) "__getitem__" = pure (some (.builtin id))/\s.TypeIs v T/\wpAny (model X.prog X.w) X.A (getItem v (.ref sl)) (EP X pins σ Q) X.xe s
noncomputable def Ba (r:V->Option Int->Option Int->Hp->VK->Prop)(te:TE)(tl th:TO):TE:=λ σ H Q=>te σ H λ x H1=>tl σ H1 λ l H2=>th σ H2 λ u H3=>r x l u H3 Q
theorem M1 {r:V->Option Int->Option Int->Hp->VK->Prop}(hr:Um X r)(he:PE X e te)(hl:PO X lo tl)(hu:PO X hi th):PE X (.Subscript e (.Slice lo hi none p2) pos) (Ba r te tl th):=by
 intro pins s σ H Q I h
 refine Subscript_ (zS (he pins s σ H _ I h) λ v s1 ⟨x,H1,I1,r1,q1⟩=>?_)
 refine wpAny_Slice (zS (hl pins s1 σ H1 _ I1 q1) λ vl s2 ⟨l,H2,I2,pl,q2⟩=>zS (hu pins s2 σ H2 _ I2 q2) λ vu s3 ⟨u,H3,I3,pu,q3⟩=>?_)
 rw [evalPart_none]
 refine wpAny_pure ?_
 have I4:Inv X pins σ H3 { s3 with heap:=s3.heap.push { cls:=.type "slice",data:=.fields #[vl,vu,.none] } }:=I3.kept (t':=s3.toks) λ b ob q=>Heap.get?_push_of_some _ q
 obtain ⟨T,id,hT,ht,hg⟩:=hr pins { s3 with heap:=s3.heap.push { cls:=.type "slice",data:=.fields #[vl,vu,.none] } } σ H3 x v vl vu l u s3.heap.objs.size Q I4 r1 (Heap.IsSliceOf.new ..) pl pu q3
 show wpAny (model X.prog X.w) X.A (subscriptTail e (.Slice lo hi none p2) v (.ref s3.heap.objs.size)) (EP X pins σ Q) X.xe { s3 with heap:=s3.heap.push { cls:=.type "slice",data:=.fields #[vl,vu,.none] } }
 exact tail_any (ops:=[.ref s3.heap.objs.size,v]) ht hT hg (by with_unfolding_all rfl)
noncomputable def Qd (xs:List V)(lo hi:Option Int):List V:=(xs.drop (HT.qi xs.length 0 lo)).take (HT.qi xs.length xs.length hi - HT.qi xs.length 0 lo)
theorem O8 (xs:List V)(lo hi:Option Int):(Qd xs lo hi).length<=xs.length:=by
 unfold Qd
 rw [List.length_take,List.length_drop]
 omega
noncomputable def CY (K:Frag):V->Option Int->Option Int->Hp->VK->Prop:=λ x lo hi H Q=>∃a xs,x=.ref a/\qp K H a xs/\
 ¬(HT.qi xs.length 0 lo=0/\HT.qi xs.length xs.length hi=xs.length)/\∀p,H p=none->Q (.ref p) (upd H p (.tup (Qd xs lo hi)))
theorem EE:Um X (CY X.K):=by
 intro pins s σ H x v vl vu lo hi sl Q I rx hs pl pu h
 obtain ⟨a,xs,rfl,hx,hw,q⟩:=h
 cases rx
 obtain ⟨its,r,ht,hz⟩:=I.tuple hx
 have hlen:its.toArray.size=xs.length:=by rw [List.size_toArray];exact r.length.symm
 refine ⟨"tuple",_,PyProof.Rows.slot_tuple_getitem.lookup,ht.typeIs,?_⟩
 refine HT.PR ht hs pl pu (by rw [hlen];exact hw) ?_ (by rw [hlen];exact hz)
 rw [hlen]
 refine ⟨.ref s.heap.objs.size,_,I.laid (t':=s.toks) (o:=.tup (Qd xs lo hi)) (λ b ob q=>Heap.get?_push_of_some _ q) (Nat.le_refl _) ?_,rfl,q _ (I.hok.fresh (Nat.le_refl _))⟩
 exact ⟨Nat.le_trans (O8 xs lo hi) hz,_,(r.drop (HT.qi xs.length 0 lo)).take (HT.qi xs.length xs.length hi - HT.qi xs.length 0 lo),gQ.new _ _⟩
noncomputable def RS (K:Frag):R2:=λ x y H Q=>∃a b xs ys,x=.ref a/\y=.ref b/\qp K H a xs/\qp K H b ys/\xs≠[]/\xs.length+ys.length<=sizeLine/\
 (ys=[]->Q (.ref a) H)/\(ys≠[]->∀p,H p=none->Q (.ref p) (upd H p (.tup (xs++ys))))
theorem Vals.nil_iff {xs:List V}{us:List Value}(r:Vals xs us):us=[]↔xs=[]:=by
 cases r with
 | nil=>simp
 | cons _ _=>simp
theorem Ff:qA X (binaryOp .Add) (RS X.K):=by
 intro pins s σ H x y v u Q I rx ry h
 obtain ⟨a,b,xs,ys,rfl,rfl,ha,hb,hx,hz,q1,q2⟩:=h
 cases rx
 cases ry
 obtain ⟨its,r1,p1,_⟩:=I.tuple ha
 obtain ⟨its2,r2,p2,_⟩:=I.tuple hb
 refine HT.He p1 p2 (λ z=>hx (r1.nil_iff.mp z)) (λ z=>⟨.ref a,H,I,rfl,q1 (r2.nil_iff.mp z)⟩) (λ z=>?_) (by rw [<- r1.length,<- r2.length];exact hz)
 refine ⟨.ref s.heap.objs.size,_,I.laid (t':=s.toks) (o:=.tup (xs++ys)) (λ b ob q=>Heap.get?_push_of_some _ q) (Nat.le_refl _) ?_,rfl,q2 (λ w=>z (r2.nil_iff.mpr w)) _ (I.hok.fresh (Nat.le_refl _))⟩
 exact ⟨by rw [List.length_append];exact hz,_,r1.append r2,gQ.new _ _⟩
end
noncomputable def wq (n:Nat)(i:Int):Option Nat:=if 0<=i then (if i<n then some i.toNat else none) else if -(n:Int)<=i then some (i+n).toNat else none
noncomputable def kx {α:Type}(xs:List α)(i:Int):Option α:=(wq xs.length i).bind λ j=>xs[j]?
theorem S7 {n:Nat}{i:Int}{j:Nat}(h:wq n i=some j):seqIndex? i n=some j/\j<n/\-(n:Int)<=i/\i<n:=by
 unfold wq at h
 by_cases h0:0<=i
 ·rw [if_pos h0] at h
  by_cases h1:i<n
  ·rw [if_pos h1] at h
   have e:i.toNat=j:=Option.some.inj h
   exact ⟨by rw [seqIndex_of h0 h1,e],by omega,by omega,h1⟩
  ·rw [if_neg h1] at h;cases h
 ·rw [if_neg h0] at h
  by_cases h1:-(n:Int)<=i
  ·rw [if_pos h1] at h
   have e:(i+n).toNat=j:=Option.some.inj h
   exact ⟨by rw [seqIndex_neg (by omega) h1,e],by omega,h1,by omega⟩
  ·rw [if_neg h1] at h;cases h
theorem Xy {α:Type}{xs:List α}{i:Int}{v:α}(h:kx xs i=some v):∃j,seqIndex? i xs.length=some j/\xs[j]? =some v/\j<xs.length/\-(xs.length:Int)<=i/\i<xs.length:=by
 unfold kx at h
 cases e:wq xs.length i with
 | none=>rw [e] at h;cases h
 | some j=>
  rw [e] at h
  obtain ⟨h1,h2,h3,h4⟩:=S7 e
  exact ⟨j,h1,h,h2,h3,h4⟩
theorem YX {α:Type}{xs:List α}{j:Nat}{v:α}(h:xs[j]? =some v):kx xs (j:Int)=some v:=by
 have hj:j<xs.length:=(List.getElem?_eq_some_iff.mp h).1
 have e:wq xs.length (j:Int)=some j:=by
  unfold wq
  rw [if_pos (by omega),if_pos (by omega)];simp
 unfold kx;rw [e];exact h
noncomputable def SD (b:Expr):Prop:=∀o i,subscripted b false o i=operate [o,i] (getItem o i)
noncomputable def g8 (X:Cx)(r:R2):Prop:=
 ∀(value slice:Expr) (pins:List (Addr × Obj)) (s:Shared) (σ:St) (H:Hp) (x y:V) (v u:Value) (Q:VK),Inv X pins σ H s->RelV x v->RelV y u->r x y H Q->
  subscripted slice false v u=operate [v,u] (getItem v u)->wpAny (model X.prog X.w) X.A (subscriptTail value slice v u) (EP X pins σ Q) X.xe s
noncomputable def Pp (X:Cx)(id:String)(r:V->List V->Hp->VK->Prop):Prop:=
 ∀(pins:List (Addr × Obj)) (s:Shared) (σ:St) (H:Hp) (x:V) (xs:List V) (v:Value) (us:List Value) (Q:VK),Inv X pins σ H s->RelV x v->Vals xs us->r x xs H Q->
  wpAny (model X.prog X.w) X.A (call (.builtin id) (v::us)) (EP X pins σ Q) X.xe s
section
variable {X:Cx}{a b:Expr}{ta tb:TE}{pos:Pos}
theorem g8.or {r r':R2}(h:g8 X r)(h':g8 X r'):g8 X (λ x y H Q=>r x y H Q∨r' x y H Q):=by
 intro value slice pins s σ H x y v u Q I rx ry q hs
 rcases q with q | q
 ·exact h value slice pins s σ H x y v u Q I rx ry q hs
 ·exact h' value slice pins s σ H x y v u Q I rx ry q hs
theorem D7 {r:R2}(hr:g8 X r)(ha:PE X a ta)(hb:PE X b tb)(hs:SD b):PE X (.Subscript a b pos) (JT r ta tb):=by
 intro pins s σ H Q I h
 exact Subscript_ (V7 ha hb I h λ v u s2 x y H2 I2 rx ry q=>hr a b pins s2 σ H2 x y v u Q I2 rx ry q (hs _ _))
noncomputable def Pb (K:Frag):R2:=λ x y H Q=>∃p xs i v,x=.ref p/\y=.int i/\qS K H p xs/\kx xs i=some v/\Q v H
noncomputable def R6 (K:Frag):R2:=λ x y H Q=>∃p xs i v,x=.ref p/\y=.int i/\qp K H p xs/\kx xs i=some v/\Q v H
noncomputable def R1:R2:=λ x y H Q=>∃z i c,x=.str z/\y=.int i/\z.length<=sizeLine/\kx z.cps.toList i=some c/\Q (.str ⟨#[c]⟩) H
theorem Fd:g8 X (Pb X.K):=by
 intro value slice pins s σ H x y v u Q I rx ry h hs
 obtain ⟨p,xs,i,z,rfl,rfl,hq,he,q⟩:=h
 cases rx
 obtain ⟨t,rfl⟩:=ry
 obtain ⟨its,r,pl,hz⟩:=I.list hq
 obtain ⟨j,h1,h2,h3,h4,h5⟩:=Xy he
 obtain ⟨w,ew,rw'⟩:=r.get h2
 have hl:=r.length
 have hn:=Jw
 have fin:EP X pins σ Q w s:=⟨z,H,I,rw',q⟩
 by_cases h0:0<=i
 ·have hj:i.toNat=j:=by
   rw [seqIndex_of h0 h5] at h1
   exact Option.some.inj h1
  exact item_listR pl.isList h0 (by omega) (by rw [hj];simpa using ew) fin hs
 ·have hj:(i+(its.toArray.size:Int)).toNat=j:=by
   rw [seqIndex_neg (by omega) h4] at h1
   rw [List.size_toArray,<- hl]
   exact Option.some.inj h1
  exact subscriptTail_builtinR (x:=w) pl.isList.typeIs slot_list_getitem.lookup
   (wpAny_getItem_list_neg (Q:=λ r s'=>r=w/\EP X pins σ Q r s') pl.isList (by omega) (by rw [List.size_toArray]<;>omega) (by omega) (by rw [hj];simpa using ew) ⟨rfl,fin⟩) hs
theorem FP:g8 X (R6 X.K):=by
 intro value slice pins s σ H x y v u Q I rx ry h hs
 obtain ⟨p,xs,i,z,rfl,rfl,hq,he,q⟩:=h
 cases rx
 obtain ⟨t,rfl⟩:=ry
 obtain ⟨its,r,pl,hz⟩:=I.tuple hq
 obtain ⟨j,h1,h2,h3,h4,h5⟩:=Xy he
 obtain ⟨w,ew,rw'⟩:=r.get h2
 have hl:=r.length
 have hn:=Jw
 have fin:EP X pins σ Q w s:=⟨z,H,I,rw',q⟩
 exact subscriptTail_builtinR (x:=w) pl.typeIs slot_tuple_getitem.lookup
  (getItem_tuple (j:=j) (Q:=λ r s'=>r=w/\EP X pins σ Q r s') pl (by omega) (by omega) (by rw [List.size_toArray,<- hl];exact h1) (by simpa using ew) ⟨rfl,fin⟩) hs
theorem Dn:g8 X R1:=by
 intro value slice pins s σ H x y v u Q I rx ry h hs
 obtain ⟨z,i,c,rfl,rfl,hz,he,q⟩:=h
 obtain ⟨t,rfl⟩:=rx
 obtain ⟨t',rfl⟩:=ry
 obtain ⟨j,h1,h2,h3,h4,h5⟩:=Xy he
 have hl:z.cps.toList.length=z.length:=by simp [Str.length]
 rw [hl] at h1 h4 h5
 have hn:=Jw
 exact tail_any (typeIs_str s z t) slot_str_getitem.lookup (getItem_str (c:=c) (by
  have e1:decide (i < -(2 ^ 63:Int))=false:=decide_eq_false (by omega)
  have e2:decide (i ≥ 2 ^ 63)=false:=decide_eq_false (by omega)
  rw [e1,e2,Bool.or_false]) (by rw [h1];simpa using h2) ⟨.str ⟨#[c]⟩,H,I.tok _,⟨_,rfl⟩,q⟩) hs
noncomputable def Ph (K:Frag):R2:=λ x y H Q=>Pb K x y H Q∨R6 K x y H Q∨R1 x y H Q
theorem FU:g8 X (Ph X.K):=Fd.or (FP.or Dn)
theorem NH (its:List Value)(n j:Nat)(u:Value):Obj.mapSeq (·.setIfInBounds j u) { cls:=.type "list",data:=.seq its.toArray n }={ cls:=.type "list",data:=.seq (its.set j u).toArray n }:=by
 simp [Obj.mapSeq]
theorem Inv.lst {pins:List (Addr × Obj)}{σ:St}{H:Hp}{s:Shared}{p:Addr}{xs:List V}(I:Inv X pins σ H s)(h:H p=some (.lst xs)):
  ∃(its:List Value) (n:Nat),Vals xs its/\s.heap.get? p=some { cls:=.type "list",data:=.seq its.toArray n }/\xs.length<=sizeLine:=by
 obtain ⟨z,its,n,r,e⟩:=I.hok p _ h
 exact ⟨its,n,r,e,z⟩
theorem Inv.lstUpd {pins:List (Addr × Obj)}{σ:St}{H:Hp}{s:Shared}{p:Addr}{xs ys:List V}{its its':List Value}{n n':Nat}{f:Obj->Obj}(I:Inv X pins σ H s)(h:H p=some (.lst xs))
  (ho:s.heap.get? p=some { cls:=.type "list",data:=.seq its.toArray n })(hf:f { cls:=.type "list",data:=.seq its.toArray n }={ cls:=.type "list",data:=.seq its'.toArray n' })(r:Vals ys its')(hz:ys.length<=sizeLine)(t:Nat):
  Inv X pins σ (upd H p (.lst ys)) { s with heap:=s.heap.update p f,toks:=t }:=by
 have e:(s.heap.update p f).get? p=some { cls:=.type "list",data:=.seq its'.toArray n' }:=by
  rw [Heap.get?_update_self f ho (by rw [hf]<;>rfl),hf]
 refine I.write (x:=p) (e:=p) (by rw [h];trivial) (.inl rfl) (λ b u hb q=>(Heap.get?_update_other _ _ (Ne.symm hb)).trans q) ⟨_,e⟩ ?_
 exact ⟨hz,its',n',r,e⟩
noncomputable def RQ:V->V->V->Hp->(Hp->Prop)->Prop:=λ o i v H Q=>∃p xs k j,o=.ref p/\i=.int k/\H p=some (.lst xs)/\wq xs.length k=some j/\Q (upd H p (.lst (xs.set j v)))
theorem set_list:V6 X RQ:=by
 intro pins s σ H o i v ov iv u Q I ro ri rv h
 obtain ⟨p,xs,k,j,rfl,rfl,hp,hj,q⟩:=h
 cases ro
 obtain ⟨t,rfl⟩:=ri
 obtain ⟨its,n,r,ho,hz⟩:=I.lst hp
 obtain ⟨h1,h2,h3,h4⟩:=S7 hj
 have hl:=r.length
 have hn:=Jw
 have I':Inv X pins σ (upd H p (.lst (xs.set j v))) { s with heap:=s.heap.update p (Obj.mapSeq (·.setIfInBounds j u)) }:=
  I.lstUpd hp ho (NH its n j u) (r.set rv j) (by rw [List.length_set];exact hz) s.toks
 by_cases h0:0<=k
 ·have hk:k.toNat=j:=by
   rw [seqIndex_of h0 h4] at h1
   exact Option.some.inj h1
  exact PySem.W.ki_setAt ho h0 (by omega) (by rw [List.size_toArray,<- hl];exact h4) (by rw [hk];exact ⟨_,I',q⟩)
 ·have hk:(k+(its.toArray.size:Int)).toNat=j:=by
   rw [seqIndex_neg (by omega) h3] at h1
   rw [List.size_toArray,<- hl]
   exact Option.some.inj h1
  exact PySem.W.ki_setBack ho (by omega) (by rw [List.size_toArray,<- hl];exact h3) (by omega) (by rw [hk];exact ⟨_,I',q⟩)
noncomputable def w9:V->Bool
 | .non=>true
 | .bl _=>true
 | .int _=>true
 | .str _=>true
 | _=>false
noncomputable def Za:V->V->Bool
 | .non,.non=>true
 | .bl a,.bl b=>a==b
 | .bl a,.int b=>(if a then 1 else 0)==b
 | .int a,.bl b=>a==(if b then 1 else 0)
 | .int a,.int b=>a==b
 | .str a,.str b=>a==b
 | _,_=>false
theorem Dq {A:Around}{s:Shared}{y x:V}{u v:Value}(ry:RelV y u)(rx:RelV x v)(fy:w9 y=true)(fx:w9 x=true):SeqAt.EqAt A s u v (Za y x):=by
 cases y with
 | non=>
  cases ry
  cases x with
  | non=>cases rx;exact SeqAt.EqAt.same _
  | bl b=>cases rx;exact SeqAt.EqAt.none_bool b
  | int b=>obtain ⟨t,rfl⟩:=rx;exact SeqAt.EqAt.none_int b t
  | str b=>obtain ⟨t,rfl⟩:=rx;exact SeqAt.EqAt.none_str b t
  | _=>exact absurd (show false=true from fx) Bool.false_ne_true
 | bl a=>
  cases ry
  cases x with
  | non=>cases rx;exact SeqAt.EqAt.bool_none a
  | bl b=>cases rx;exact SeqAt.EqAt.bool_bool a b
  | int b=>obtain ⟨t,rfl⟩:=rx;exact SeqAt.EqAt.bool_int a b t
  | str b=>obtain ⟨t,rfl⟩:=rx;exact SeqAt.EqAt.bool_str a b t
  | _=>exact absurd (show false=true from fx) Bool.false_ne_true
 | int a=>
  obtain ⟨t',rfl⟩:=ry
  cases x with
  | non=>cases rx;exact SeqAt.EqAt.int_none a t'
  | bl b=>cases rx;exact SeqAt.EqAt.int_bool a t' b
  | int b=>obtain ⟨t,rfl⟩:=rx;exact SeqAt.EqAt.int_int a t' b t
  | str b=>obtain ⟨t,rfl⟩:=rx;exact SeqAt.EqAt.int_str a t' b t
  | _=>exact absurd (show false=true from fx) Bool.false_ne_true
 | str a=>
  obtain ⟨t',rfl⟩:=ry
  cases x with
  | non=>cases rx;exact SeqAt.EqAt.str_none a t'
  | bl b=>cases rx;exact SeqAt.EqAt.str_bool a t' b
  | int b=>obtain ⟨t,rfl⟩:=rx;exact SeqAt.EqAt.str_int a t' b t
  | str b=>obtain ⟨t,rfl⟩:=rx;exact SeqAt.EqAt.str_str a t' b t
  | _=>exact absurd (show false=true from fx) Bool.false_ne_true
 | _=>exact absurd (show false=true from fy) Bool.false_ne_true
noncomputable def g7 (x:V)(u:Value):Bool:=match u with
 | .none=>Za .non x
 | .bool b=>Za (.bl b) x
 | .int i _=>Za (.int i) x
 | .str z _=>Za (.str z) x
 | _=>false
theorem RB {x y:V}{u:Value}(r:RelV y u)(f:w9 y=true):g7 x u=Za y x:=by
 cases y with
 | non=>cases r;rfl
 | bl b=>cases r;rfl
 | int i=>obtain ⟨t,rfl⟩:=r;rfl
 | str z=>obtain ⟨t,rfl⟩:=r;rfl
 | _=>exact absurd (show false=true from f) Bool.false_ne_true
theorem XJ {x:V}:∀{xs:List V} {us:List Value},Vals xs us->xs.all w9=true->us.any (g7 x)=xs.any λ y=>Za y x
 | _,_,.nil,_=>rfl
 | y::xs,u::us,.cons r t,f=>by
  rw [List.all_cons,Bool.and_eq_true] at f
  rw [List.any_cons,List.any_cons,RB r f.1,XJ t f.2]
theorem Xe {A:Around}{s:Shared}{x:V}{v:Value}(rx:RelV x v)(fx:w9 x=true):∀{xs:List V} {us:List Value},Vals xs us->xs.all w9=true->∀u∈us,SeqAt.EqAt A s u v (g7 x u)
 | _,_,.nil,_=>λ u hu=>by cases hu
 | y::xs,u::us,.cons r t,f=>λ u' hu=>by
  rw [List.all_cons,Bool.and_eq_true] at f
  rcases List.mem_cons.mp hu with rfl | hu
  ·rw [RB r f.1];exact Dq r rx f.1 fx
  ·exact Xe rx fx t f.2 u' hu
noncomputable def Wb (x:V)(xs:List V):Bool:=xs.any λ y=>Za y x
noncomputable def Pl (K:Frag)(neg:Bool):R2:=λ x y H Q=>∃p xs,y=.ref p/\(qS K H p xs∨qp K H p xs)/\w9 x=true/\xs.all w9=true/\Q (.bl (if neg then !Wb x xs else Wb x xs)) H
theorem MB:qA X (compareOp .In) (Pl X.K false):=by
 intro pins s σ H x y v u Q I rx ry h
 obtain ⟨p,xs,rfl,hq,fx,fs,q⟩:=h
 cases ry
 rcases hq with hq | hq
 ·obtain ⟨its,r,pl,hz⟩:=I.list hq
  refine SeqAt.in_listAt (g7 x) pl.isList (λ w hw=>Xe rx fx r fs w (by simpa using hw)) ⟨.bl _,H,I,rfl,?_⟩
  rw [show its.toArray.any (g7 x)=its.any (g7 x) by simp,XJ r fs]
  exact q
 ·obtain ⟨its,r,pl,hz⟩:=I.tuple hq
  refine SeqAt.in_tupleAt (g7 x) pl (λ w hw=>Xe rx fx r fs w (by simpa using hw)) ⟨.bl _,H,I,rfl,?_⟩
  rw [show its.toArray.any (g7 x)=its.any (g7 x) by simp,XJ r fs]
  exact q
theorem OD:jK X (.builtin "len") (λ xs H Q=>∃p ys,xs=[.ref p]/\(qS X.K H p ys∨qp X.K H p ys)/\Q (.int ys.length) H):=by
 intro pins s σ H xs us Q I r h
 obtain ⟨p,ys,rfl,hq,q⟩:=h
 obtain ⟨u,rfl,rx⟩:=vals1 r
 cases rx
 have hn:=Jw
 rcases hq with hq | hq
 ·obtain ⟨its,r',pl,hz⟩:=I.list hq
  have hlen:=r'.length
  exact Calls.call_len_list pl.isList (by simp only [List.size_toArray]<;>omega) ⟨.int ys.length,H,I.tok _,⟨s.toks+1,by rw [List.size_toArray,hlen]⟩,q⟩
 ·obtain ⟨its,r',pl,hz⟩:=I.tuple hq
  have hlen:=r'.length
  exact len_tuple pl (by simp only [List.size_toArray]<;>omega) ⟨.int ys.length,H,I.tok _,⟨s.toks+1,by rw [List.size_toArray,hlen]⟩,q⟩
theorem ON:jK X (.type "list") (λ xs H Q=>∃p ys,xs=[.ref p]/\(qS X.K H p ys∨qp X.K H p ys)/\∀l,H l=none->Q (.ref l) (upd H l (.lst ys))):=by
 intro pins s σ H xs us Q I r h
 obtain ⟨p,ys,rfl,hq,q⟩:=h
 obtain ⟨u,rfl,rx⟩:=vals1 r
 cases rx
 have fin:∀(its:List Value),Vals ys its->ys.length<=sizeLine->∀(h':Heap) (c':Nat),(∀b o',s.heap.get? b=some o'->h'.get? b=some o')->
   h'.get? s.heap.objs.size=some { cls:=.type "list",dict:=none,data:=.seq its.toArray c',slots:=#[] }->EP X pins σ Q (.ref s.heap.objs.size) { s with heap:=h' }:=λ its r' hz h' c' kp e=>
  ⟨.ref s.heap.objs.size,_,I.laid (t':=s.toks) kp (Nat.le_refl _) (show qY X.prog X.w _ h' _ (.lst ys) from ⟨hz,its,c',r',e⟩),rfl,q _ (I.hok.fresh (Nat.le_refl _))⟩
 rcases hq with hq | hq
 ·obtain ⟨its,r',pl,hz⟩:=I.list hq
  have hlen:=r'.length
  obtain ⟨o,ho,hc,n,hd⟩:=pl.isList
  exact call_list_seq p (.inl rfl) ho hc hd (λ h' c' kp e=>fin its r' hz h' c' kp e) (by simp only [List.size_toArray]<;>omega)
 ·obtain ⟨its,r',pl,hz⟩:=I.tuple hq
  have hlen:=r'.length
  obtain ⟨o,ho,hc,n,hd⟩:=pl
  exact call_list_seq p (.inr rfl) ho hc hd (λ h' c' kp e=>fin its r' hz h' c' kp e) (by simp only [List.size_toArray]<;>omega)
theorem Oq:jK X (.type "tuple") (λ xs H Q=>∃p ys,xs=[.ref p]/\((qS X.K H p ys/\∀l,H l=none->Q (.ref l) (upd H l (.tup ys)))∨(qp X.K H p ys/\Q (.ref p) H))):=by
 intro pins s σ H xs us Q I r h
 obtain ⟨p,ys,rfl,h⟩:=h
 obtain ⟨u,rfl,rx⟩:=vals1 r
 cases rx
 rcases h with ⟨hq,q⟩ | ⟨hq,q⟩
 ·obtain ⟨its,r',pl,hz⟩:=I.list hq
  have hlen:=r'.length
  refine call_tuple_list pl.isList (λ h' kp=>?_) (by simp only [List.size_toArray]<;>omega)
  have I1:Inv X pins σ H { s with heap:=h' }:=I.kept (t':=s.toks) kp
  have I2:Inv X pins σ (upd H h'.objs.size (.tup ys)) { s with heap:=h'.push { cls:=.type "tuple",data:=.seq its.toArray } }:=
   I1.laid (t':=s.toks) (λ b o e=>Heap.get?_push_of_some _ e) (Nat.le_refl _) (show qY X.prog X.w _ _ _ (.tup ys) from ⟨hz,its,r',gQ.new _ _⟩)
  exact ⟨.ref h'.objs.size,_,I2,rfl,q _ (I1.hok.fresh (Nat.le_refl _))⟩
 ·obtain ⟨its,r',pl,hz⟩:=I.tuple hq
  exact call_tuple_same pl ⟨.ref p,H,I,rfl,q⟩
noncomputable def Ul (K:Frag)(T:String)(x:V)(H:Hp):Prop:=match x with
 | .str _=>T = "str"
 | .int _=>T = "int"
 | .ref p=>(T = "list" /\ ∃xs,qS K H p xs)∨(T = "tuple" /\ ∃o,K.lookup p=some o/\o.cls=.type "tuple" /\ o.dict=none)∨
   (T = "dict" /\ ((∃kvs,H p=some (.dK kvs))∨∃kvs,H p=some (.dT kvs)))∨(T = "set" /\ ∃S n,H p=some (.set S n))
 | _=>False
theorem Ds {pins:List (Addr × Obj)}{σ:St}{H:Hp}{s:Shared}{T:String}{x:V}{v:Value}(I:Inv X pins σ H s)(r:RelV x v)(ty:Ul X.K T x H):
  s.TypeIs v T/\∀a,v=.ref a->∃ob,s.heap.get? a=some ob/\ob.dict=none:=by
 cases x with
 | str z=>
  obtain ⟨t,rfl⟩:=r
  cases (show T = "str" from ty)
  exact ⟨typeIs_str s z t,λ _ e=>nomatch e⟩
 | int i=>
  obtain ⟨t,rfl⟩:=r
  cases (show T = "int" from ty)
  exact ⟨typeIs_int s i t,λ _ e=>nomatch e⟩
 | ref p=>
  cases r
  rcases ty with ⟨rfl,xs,hq⟩ | ⟨rfl,o,hk,hc,hd⟩ | ⟨rfl,hk⟩ | ⟨rfl,S,n,hk⟩
  ·obtain ⟨its,_,pl,_⟩:=I.list hq
   refine ⟨pl.isList.typeIs,λ a e=>?_⟩
   cases e
   obtain ⟨o,n,e,c,hd,_⟩:=pl
   exact ⟨o,e,hd⟩
  ·refine ⟨⟨o,I.kIn p o hk,hc⟩,λ a e=>?_⟩
   cases e
   exact ⟨o,I.kIn _ o hk,hd⟩
  ·have z:∃o,s.heap.get? p=some o/\o.ExactDict:=by
    rcases hk with ⟨kvs,hk⟩ | ⟨kvs,hk⟩
    ·obtain ⟨_,_,_,_,o,_,_,e,ex,_⟩:=I.hok p _ hk
     exact ⟨o,e,ex⟩
    ·obtain ⟨_,_,_,_,o,_,_,e,ex,_⟩:=I.hok p _ hk
     exact ⟨o,e,ex⟩
   obtain ⟨o,e,ex⟩:=z
   refine ⟨⟨o,e,ex.1⟩,λ a e2=>?_⟩
   cases e2
   exact ⟨o,e,ex.2.1⟩
  ·obtain ⟨o,_,_,_,e,ex,_⟩:=I.hok p _ hk
   refine ⟨⟨o,e,ex.1⟩,λ a e2=>?_⟩
   cases e2
   exact ⟨o,e,ex.2.1⟩
 | _=>exact False.elim ty
noncomputable def Bb (K:Frag)(T:String)(r:V->List V->Hp->VK->Prop)(to:TE)(t:TA):TE:=λ σ H Q=>to σ H λ x H1=>Ul K T x H1/\t σ H1 λ xs H2=>r x xs H2 Q
variable {o e:Expr}{es:List Expr}{to:TE}{t:TA}{name:Str}{apos cpos:Pos}{T id:String}{r:V->List V->Hp->VK->Prop}
theorem DD (pa:PlainAttrs T)(slot:Slot T name id)(hty:typeOf (.builtin id)=pure (.type "method_descriptor"))(hm:Pp X id r)(ho:PE X o to)(ha:PA X (e::es) t)
  (hbase:attributeBase o name X.env (eval o X.env)=eval o X.env:=by rfl)
  (hfew:((backTo cpos (starEach (e::es) X.env)).all (λ x=>!x.1)&&(backToKw cpos (keywordEach [] X.env)).all (λ x=>x.1.isSome)
   && decide ((e::es).length+([]:List Keyword).length+(if ([]:List Keyword).isEmpty then 0 else 1)<30))=true:=by rfl)
  (hline:(apos.endLine==cpos.line)=true:=by rfl)(hs:starEach (e::es) X.env=(false,eval e X.env)::starEach es X.env:=by rfl)(hplain:(backTo cpos (starEach es X.env)).any (·.1)=false:=by rfl):
  PE X (.Call (.Attribute o name apos) (e::es) [] cpos) (Bb X.K T r to t):=by
 intro pins s σ H Q I h
 refine wpAny_Call_method_late hbase hfew hline rfl (zS (ho pins s σ H _ I h) λ v s1 ⟨x,H1,I1,r1,ty,q1⟩=>?_)
 obtain ⟨h1,h2⟩:=Ds I1 r1 ty
 refine ⟨T,id,pa,slot,hty,h1,h2,?_⟩
 have hA:=ha cpos pins s1 σ H1 _ I1 q1
 rw [hs] at hA ⊢
 refine Calls.callWith_builtin (by show (false || (backTo cpos (starEach es X.env)).any (·.1))=false;rw [hplain]<;>rfl) (Calls.evalArgs_plain ?_)
 exact zS hA λ us s2 ⟨vs,H2,I2,r2,q2⟩=>hm pins s2 σ H2 x vs v us Q I2 r1 r2 q2
end
noncomputable def Uh (X:Cx)(id:String)(r:V->List V->Hp->VK->Prop):Prop:=
 ∀(pins:List (Addr × Obj)) (s:Shared) (σ:St) (H:Hp) (x:V) (xs:List V) (v:Value) (us:List Value) (Q:VK),Inv X pins σ H s->RelV x v->Vals xs us->r x xs H Q->
  wpAny (model X.prog X.w) X.A (call (.builtin id) (v::us)) (EP X pins σ Q) X.xe s
theorem Vals.one {x:V}{us:List Value}(h:Vals [x] us):∃u,us=[u]/\RelV x u:=by
 cases h with
 | cons r t=>cases t;exact ⟨_,rfl,r⟩
theorem Vals.two {x y:V}{us:List Value}(h:Vals [x,y] us):∃u v,us=[u,v]/\RelV x u/\RelV y v:=by
 cases h with
 | cons r t=>exact (Vals.one t).elim λ v e=>⟨_,v,by rw [e.1],r,e.2⟩
theorem Vals.eraseIdx:∀{xs:List V} {us:List Value} (i:Nat),Vals xs us->Vals (xs.eraseIdx i) (us.eraseIdx i)
 | _,_,_,.nil=>.nil
 | _,_,0,.cons _ t=>t
 | _,_,i+1,.cons r t=>.cons r (Vals.eraseIdx i t)
theorem Vals.rep {xs:List V}{us:List Value}(h:Vals xs us):∀k:Nat,Vals (List.replicate k xs).flatten (List.replicate k us).flatten
 | 0=>.nil
 | k+1=>by
  rw [List.replicate_succ,List.replicate_succ,List.flatten_cons,List.flatten_cons]
  exact Vals.append h (Vals.rep h k)
theorem TC {α:Type}:∀(l:List α) (i:Nat),(l.eraseIdx i).length<=l.length
 | [],_=>Nat.le_refl _
 | _::_,0=>Nat.le_succ _
 | _::r,i+1=>Nat.succ_le_succ (TC r i)
theorem foldl_rep (its:List Value):∀(k:Nat) (acc:List Value),
  List.foldl (λ x1 x2=>x1++x2) acc.toArray (List.replicate k its.toArray)=(acc++(List.replicate k its).flatten).toArray
 | 0,acc=>by simp
 | k+1,acc=>by
  have e:acc.toArray++its.toArray=(acc++its).toArray:=by simp
  have e2:(acc++its)++(List.replicate k its).flatten=acc++(List.replicate (k+1) its).flatten:=by
   rw [List.replicate_succ,List.flatten_cons,List.append_assoc]
  rw [<- e2,<- foldl_rep its k (acc++its),<- e,List.replicate_succ,List.foldl_cons]
section
variable {X:Cx}{pins:List (Addr × Obj)}{σ:St}{H:Hp}{s:Shared}{l b:Addr}{xs ys zs:List V}
theorem Inv.lset {its its':List Value}{n:Nat}{f:Array Value->Array Value}{t':Nat}(I:Inv X pins σ H s)(hH:H l=some (.lst xs))
  (e:s.heap.get? l=some { cls:=.type "list",data:=.seq its.toArray n })(hf:f its.toArray=its'.toArray)(hv:Vals ys its')(hz:ys.length<=sizeLine):
  Inv X pins σ (upd H l (.lst ys)) { s with heap:=s.heap.update l (Obj.mapSeq f),toks:=t' }:=by
 have q:=PySem.IsL.update e f
 rw [hf] at q
 refine I.write (x:=l) (e:=l) (by rw [hH];exact trivial) (.inl rfl) (λ b' u hb hu=>(Heap.get?_update_other s.heap (Obj.mapSeq f) (Ne.symm hb)).trans hu) ⟨_,q⟩ ?_
 exact ⟨hz,its',_,hv,q⟩
theorem Inv.lnew {its:List Value}{t':Nat}(I:Inv X pins σ H s)(hv:Vals ys its)(hz:ys.length<=sizeLine):
  Inv X pins σ (upd H s.heap.objs.size (.lst ys)) { s with heap:=s.heap.push { cls:=.type "list",data:=.seq its.toArray },toks:=t' }:=
 I.laid (λ _ _ q=>Heap.get?_push_of_some _ q) (Nat.le_refl _) ⟨hz,its,0,hv,Heap.get?_push_size _ rfl⟩
theorem Inv.fresh (I:Inv X pins σ H s):H s.heap.objs.size=none:=I.hok.fresh (Nat.le_refl _)
theorem Inv.lstM (I:Inv X pins σ H s)(hH:H l=some (.lst xs)):xs.length<=sizeLine/\∃(its:List Value) (n:Nat),Vals xs its/\xs.length=its.length/\s.heap.get? l=some { cls:=.type "list",data:=.seq its.toArray n }:=by
 obtain ⟨z,its,n,r,e⟩:=I.hok l _ hH
 exact ⟨z,its,n,r,r.length,e⟩
theorem MU {n:Nat}(h:n<=sizeLine):Builtin.List.listTooLong n=false:=by
 unfold Builtin.List.listTooLong
 exact decide_eq_false (by omega)
end
section
variable {X:Cx}
noncomputable def HR:V->List V->Hp->VK->Prop:=λ x vs H Q=>∃l xs y,x=.ref l/\vs=[y]/\H l=some (.lst xs)/\xs.length<sizeLine/\Q .non (upd H l (.lst (xs++[y])))
theorem Tf:Uh X "list.append" HR:=by
 intro pins s σ H x vs v us Q I rx rv h
 obtain ⟨l,xs,y,rfl,rfl,hH,hz,q⟩:=h
 cases rx
 obtain ⟨u,rfl,ru⟩:=rv.one
 obtain ⟨z,its,n,r,hl,e⟩:=I.lstM hH
 refine call_meets F.slot_list_append ⟨_,e,rfl⟩ F.entry_list_append (F.args_list_append_2 _ _) (PySem.list_append l its.toArray n u (by rw [List.size_toArray];omega)) ⟨e,?_⟩
 refine ⟨.non,_,I.lset (its':=its++[u]) hH e (by simp) (r.append (.cons ru .nil)) ?_,rfl,q⟩
 rw [List.length_append,List.length_singleton]
 omega
noncomputable def F5:V->List V->Hp->VK->Prop:=λ x vs H Q=>∃l xs i k y,x=.ref l/\vs=[.int i]/\H l=some (.lst xs)/\-(2 ^ 63)<=i/\i<2 ^ 63/\seqIndex? i xs.length=some k/\xs[k]? =some y/\Q y (upd H l (.lst (xs.eraseIdx k)))
theorem Io:Uh X "list.pop" F5:=by
 intro pins s σ H x vs v us Q I rx rv h
 obtain ⟨l,xs,i,k,y,rfl,rfl,hH,h1,h2,hk,hy,q⟩:=h
 cases rx
 obtain ⟨u,rfl,ru⟩:=rv.one
 obtain ⟨t,rfl⟩:=ru
 obtain ⟨z,its,n,r,hl,e⟩:=I.lstM hH
 obtain ⟨w,hw,rw'⟩:=r.get hy
 refine call_meets F.slot_list_pop ⟨_,e,rfl⟩ F.entry_list_pop (F.args_list_pop_2 _ _)
  (MeetsSeq.list_pop_at l its.toArray n i t k w (fitsIndex_both h1 h2) (by rw [List.size_toArray,<- hl];exact hk) (by rw [<- Array.getElem?_toList];exact hw) (by rw [List.size_toArray];omega)) ⟨e,?_⟩
 refine ⟨y,_,I.lset (its':=its.eraseIdx k) hH e ?_ (r.eraseIdx k) ?_,rw',q⟩
 ·show its.toArray.eraseIdxIfInBounds k=(its.eraseIdx k).toArray
  rw [List.eraseIdxIfInBounds_toArray]
 ·have:=TC xs k
  omega
noncomputable def R0:R2:=λ x y H Q=>∃l b xs zs,x=.ref l/\y=.ref b/\H l=some (.lst xs)/\H b=some (.lst zs)/\xs.length+zs.length<=sizeLine/\∀p,H p=none->Q (.ref p) (upd H p (.lst (xs++zs)))
theorem Ed:qA X (binaryOp .Add) R0:=by
 intro pins s σ H x y v u Q I rx ry h
 obtain ⟨l,b,xs,zs,rfl,rfl,hH,hB,hz,q⟩:=h
 cases rx
 cases ry
 obtain ⟨z,its,n,r,hl,e⟩:=I.lstM hH
 obtain ⟨z2,its2,n2,r2,hl2,e2⟩:=I.lstM hB
 refine PySem.P.add_list e e2 ?_ (by rw [List.size_toArray,List.size_toArray];omega)
 have ea:its.toArray++its2.toArray=(its++its2).toArray:=by simp
 rw [ea]
 exact ⟨.ref _,_,I.lnew (t':=s.toks) (r.append r2) (by rw [List.length_append];omega),rfl,q _ I.fresh⟩
noncomputable def R5:R2:=λ x y H Q=>∃l k xs,x=.ref l/\y=.int k/\H l=some (.lst xs)/\-(2 ^ 63)<=k/\k<2 ^ 63/\xs.length * k.toNat<=sizeLine/\
 ∀p,H p=none->Q (.ref p) (upd H p (.lst (List.replicate k.toNat xs).flatten))
theorem len_rep {α:Type}(xs:List α)(k:Nat):(List.replicate k xs).flatten.length=k * xs.length:=by
 induction k with
 | zero=>simp
 | succ k ih=>rw [List.replicate_succ,List.flatten_cons,List.length_append,ih,Nat.succ_mul,Nat.add_comm]
theorem EF:qA X (binaryOp .Mult) R5:=by
 intro pins s σ H x y v u Q I rx ry h
 obtain ⟨l,k,xs,rfl,rfl,hH,h1,h2,hz,q⟩:=h
 cases rx
 obtain ⟨t,rfl⟩:=ry
 obtain ⟨z,its,n,r,hl,e⟩:=I.lstM hH
 have hlen:its.toArray.size * k.toNat<=sizeLine:=by rw [List.size_toArray,<- hl];exact hz
 have hcap:¬its.toArray.size * k.toNat > (2 ^ 63 - 1) / 8:=by
  have:(sizeLine:Nat)<=(2 ^ 63 - 1) / 8:=by decide
  omega
 have hfit:¬(!Builtin.List.listFitsIndex k)=true:=by
  rw [fitsIndex_both h1 h2]
  exact Bool.false_ne_true
 have hlong:¬Builtin.List.listTooLong (its.toArray.size * k.toNat)=true:=by
  rw [MU hlen]
  exact Bool.false_ne_true
 have hnew:List.foldl (λ x1 x2=>x1++x2) #[] (List.replicate (if its.toArray.isEmpty=true then 0 else k.toNat) its.toArray)=(List.replicate k.toNat its).flatten.toArray:=by
  have f0:∀m:Nat,List.foldl (λ x1 x2=>x1++x2) #[] (List.replicate m its.toArray)=(List.replicate m its).flatten.toArray:=λ m=>by
   have:=foldl_rep its m []
   rw [List.nil_append] at this
   exact this
  rw [f0]
  cases its with
  | nil=>simp
  | cons a r'=>rw [if_neg (by simp)]
 refine wpAny_binaryOp_repeat_ref (T := "list") (U := "int") (by decide) ⟨_,e,rfl⟩ (λ s'=>typeIs_int s' k t) noFill_list_mul F.fills_int_mul F.slot_int_rmul repeat_list F.slot_int_index.lookup
  (call_meets F.slot_int_rmul (typeIs_int s k t) F.entry_int_rmul (F.args_int_rmul_2 _ _) (int___rmul___int_list k t l its.toArray n)
   ⟨e,rfl,⟨_,e,rfl⟩,call_meets F.slot_list_mul ⟨_,e,rfl⟩ F.entry_list_mul (F.args_list_mul_2 _ _) (AutoListH.list___mul___list_int_3 l its.toArray n k t hfit hcap hlong) ⟨e,?_⟩⟩)
 rw [hnew]
 exact ⟨.ref _,_,I.lnew (t':=s.toks) (r.rep k.toNat) (by rw [len_rep,Nat.mul_comm];exact hz),rfl,q _ I.fresh⟩
end
section
variable {prog:Program}{w:World}{A:Around}{E:Value->Shared->Prop}{s:Shared}
set_option maxRecDepth 100000 in
end
section
variable {X:Cx}
end
end L2
namespace Att
open PySem PySem.W PySem.Calls PyProof.Rows
theorem P2 {P:Params}{h:Heap}:∀(ns:List Int) (vs:List Value),WellAll P h vs (ns.map WData.int)->IntsAre vs ns:=by
 intro ns
 induction ns with
 | nil=>
  intro vs w
  rw [List.map_nil] at w
  cases w
  exact .nil
 | cons n ns ih=>
  intro vs w
  rw [List.map_cons] at w
  cases w with
  | cons a b=>
   cases a
   exact .cons _ _ (ih _ b)
theorem Mm {l:OpenLaw}{n:Nat}(hn:l.most=some n){P:Params}{h:Heap}{args:List WData}{vals:List Value}
  (hpre:l.row.toRowW.claim.pre args=true)(hwl:WellAll P h vals args):
  ∃a vs ns,vals=[Value.ref a]/\args=[WData.list (ns.map WData.int)]/\h.get? a=some { cls:=.type "list",data:=.seq vs.toArray }/\IntsAre vs ns/\ns.length<=n:=by
 have hsh:WShape.hasAll [] args [.list .int]=true:=(pre_splitW hpre).1
 have hc:l.pre.holds [] { args:=args }=true:=(pre_splitW hpre).2
 obtain ⟨d,r,rfl,h1,h2⟩:=hasAllW_cons hsh
 obtain rfl:=hasAllW_nil h2
 obtain ⟨xs,rfl,h3⟩:=hasW_list h1
 obtain ⟨ns,rfl⟩:=items_int h3
 have hlen:ns.length<=n:=by
  unfold OpenLaw.pre at hc
  have h4:(WTm.not (.lt (.lit (.int (n:Int))) (.len (.arg 0)))).holds [] { args:=[.list (ns.map .int)] }=true:=by
   have h4:=(holds_andW hc).1
   rw [hn] at h4
   exact h4
  have h5:=condW_of h4 (w_not (w_lt w_lit (w_len_list (w_arg rfl))))
  rw [List.length_map] at h5
  refine Nat.le_of_not_lt λ q=>?_
  have q':(n:Int)<((ns.length:Nat):Int):=by omega
  first
   | (rw [decide_eq_true q'] at h5;exact absurd h5 (by decide))
   | (simp at h5;omega)
 cases hwl with
 | cons w1 w2=>
  cases w2
  cases w1 with
  | list ho hall=>exact ⟨_,_,ns,rfl,rfl,ho,P2 ns _ hall,hlen⟩
theorem NT (l:OpenLaw)(args:List WData):l.row.toRowW.claim.post args (.bool true) args=true:=
 postW_of (r:=l.row.toRowW) (X:=(true==true))
  (show WShape.has [] (.bool true) .bool=true by first | rfl | decide | simp [WShape.has,WShape.arms,WShape.armsAll])
  (show (WTm.eq .res (.lit (.bool true))).value [] { args:=args,res:=some (.bool true),after:=args }=some (.bool (true==true)) from w_eq_bool (w_res rfl) w_lit) rfl
theorem Ng {l:OpenLaw}{n:Nat}{q:Program}{loose:List Str}{XP:(Str->Option Value)->Heap->Prop}{YP:World->Heap->Prop}{d:DefRec}
  (hn:l.most=some n)(hdf:d.params.defaults=[])
  (call:∀(w:World) (s₀ s₁:Shared) (mg mb:Str->Option Value) (fa:Addr) (o:Obj) (pm cd doc:Value) (a:Addr) (vs:List Value) (ns:List Int),
   Ground q loose [] XP w s₀ mg mb s₁.heap->YP w s₁.heap->
   s₁.heap.get? fa=some o->o.data=.func (docDef d.name d.params d.body d.scope pm cd doc)->s₁.heap.CodeRec cd d.name->mg d.name=some (.ref fa)->
   s₁.heap.get? a=some { cls:=.type "list",data:=.seq vs.toArray }->IntsAre vs ns->ns.length<=n->s₁.gens=#[]->
   codeAny (model l.prog w) callerA (.call (.ref fa) ⟨[.ref a],[]⟩) (λ r s'=>r=.ok (.ret (.bool true))/\OldK s₁.heap s'.heap/\s'.os=s₁.os/\AllBare s'.gens) s₁):
  WalkO q loose XP YP l.row.toRowW d [] (λ f vs=>PySem.call f vs):=by
 intro w s₀ s₁ mg mb G Y fa o pm cd doc dV kV ho hd hcd hD hmg hg args vals as hpre hlay hrd hwl hlo
 obtain rfl:dV=.none:=Dflts.none hD hdf
 obtain rfl:kV=.none:=Dflts.noKw hD
 obtain ⟨a,vs,ns,rfl,rfl,hobj,hints,hlen⟩:=Mm hn hpre hwl
 refine enter_call (codeAny_mono (call w s₀ s₁ mg mb fa o pm cd doc a vs ns G Y ho (fd_plain hd) hcd hmg hobj hints hlen hg) λ r s' hq=>?_)
 obtain ⟨rfl,h2,h3,h4⟩:=hq
 exact ⟨.inl ⟨.bool true,.bool true,[],rfl,λ _=>rfl,.bool true,NT l _,λ _=>⟨List.Pairwise.nil,λ _ hm=>(nomatch hm)⟩⟩,h2,h3,h4⟩
section
variable {prog:Program}{w:World}{A:Around}{E:Value->Shared->Prop}{s:Shared}{K:Frag}
end
end Att
namespace L2
open PySem PySem.Spec PyProof.Rows
theorem Je:∀{vs:List Value} {ns:List Int},IntsAre vs ns->Vals (ns.map V.int) vs
 | _,_,.nil=>.nil
 | _,_,.cons n t h=>.cons ⟨t,rfl⟩ (Je h)
noncomputable abbrev Pe {K:Frag}{h:Heap}(_:K.In h):Frag:=K
noncomputable def Zn (s:Stmt):Arguments:=match s with
 | .FunctionDef _ a _ _ _ _ _ _ _ _=>a
 | _=>{ posonlyargs:=[],args:=[],vararg:=none,kwonlyargs:=[],kw_defaults:=[],kwarg:=none,defaults:=[] }
noncomputable def yP (s:Stmt):List Stmt:=match s with
 | .FunctionDef _ _ b _ _ _ _ _ _ _=>b
 | _=>[]
noncomputable def qh (s:Stmt):Scope:=match s with
 | .FunctionDef _ _ _ _ _ _ sc _ _ _=>sc
 | _=>{ kind:=.function,names:=[],isGenerator:=false,isCoroutine:=false }
noncomputable abbrev we:wm:=λ _ _ _ _ _ _=>False
noncomputable abbrev E0:XK:=λ _ _ _=>False
theorem DK {X:Cx}:Passes we X E0:=λ _ _ _ _ _ _ _ h=>h.elim
structure qH (K:Frag)(x qual:Str)(st:Stmt)(f:Addr)(fd:FuncData):Prop where
 ex:∃(oc:Value) (od:Option Addr) (kV doc pm:Value) (an:Option Addr) (cdv ct:Value) (osl:Array (Option Value)),
  fd=PySem.W.fnOf x qual (Zn st) (yP st) (qh st) .none kV doc pm an cdv ct/\K.lookup f=some ⟨oc,od,.func fd,osl⟩/\PySem.W.codeIn K cdv qual=true
 kp:PySem.W.keepIn K (.ref f)=true
section
variable {P:Program}{w:World}{K:Frag}{mg:Str->Option Value}{base:Heap}
theorem qH.ok {x qual:Str}{st:Stmt}{f:Addr}{fd:FuncData}{N ps:List Str}{k:Nat}{sp:Sp}(F:qH K x qual st f fd)(S:qU N ps (qh st))(len:∀vs H Q E,sp vs H Q E->vs.length=ps.length)
  (hbody:∀(cdv:Value) (A:Around) (outer:List Env) (s:Shared) (H:Hp) (vs:List V) (Q:VK) (E:XK),jv k (A.deeper (envOfC qual (qh st) s.heap.objs.size f cdv))->sp vs H Q E->
   ∃t,j7 (kG we P w K mg base N qual (qh st) f cdv A outer s H E).nox (yP st) t/\t { nx:=λ _ H'=>Q .non H',rt:=Q } (start N vs) H):yc P w K mg base we (k+1) f fd ps sp:=by
 obtain ⟨oc,od,kV,doc,pm,an,cdv,ct,osl,rfl,lk,hcd⟩:=F.ex
 refine Vd lk hcd S len λ A outer s H vs Q E hr hsp=>?_
 obtain ⟨t,h,q⟩:=hbody cdv A outer s H vs Q E hr hsp
 exact ⟨t,h.nox,q⟩
theorem qH.binds {x qual:Str}{st:Stmt}{f:Addr}{fd:FuncData}{ps:List Str}(F:qH K x qual st f fd)
  (h:∀(kV doc pm:Value) (an:Option Addr) (cdv ct:Value) (us:List Value),us.length=ps.length->bindArgs (PySem.W.fnOf x qual (Zn st) (yP st) (qh st) .none kV doc pm an cdv ct) ⟨us,[]⟩=pure (ps.zip us)):Binds K fd ps []:=by
 obtain ⟨oc,od,kV,doc,pm,an,cdv,ct,osl,rfl,lk,hcd⟩:=F.ex
 exact .all (h kV doc pm an cdv ct)
theorem Er {x qual:Str}{st:Stmt}{f:Addr}{oc:Value}{od an:Option Addr}{osl:Array (Option Value)}{kV doc pm cdv ct:Value}(l:K.lookup f=some ⟨oc,od,.func (PySem.W.fnOf x qual (Zn st) (yP st) (qh st) .none kV doc pm an cdv ct),osl⟩)
  (c:PySem.W.codeIn K cdv qual=true)(k:PySem.W.keepIn K (.ref f)=true):qH K x qual st f (PySem.W.fnOf x qual (Zn st) (yP st) (qh st) .none kV doc pm an cdv ct):=⟨⟨oc,od,kV,doc,pm,an,cdv,ct,osl,rfl,l,c⟩,k⟩
end
section
variable {X:Cx}
end
section
variable {κ:Type} [DecidableEq κ]
end
section
variable {P:Program}{w:World}{H:Hp}{h:Heap}{a:Addr}
end
section
variable {X:Cx}{pins:List (Addr × Obj)}{σ:St}{H:Hp}{s:Shared}{a:Addr}{y v:V}{u r:Value}{o:Option V}{A:Around}{E:Value->Shared->Prop}
theorem Inv.big (I:Inv X pins σ H s):sysModules<s.heap.objs.size:=by
 have h:mainGlobals<s.heap.objs.size:=(I.mod.glob.keeps I.bk).lt
 exact Nat.lt_trans (by decide) h
end
section
variable {X:Cx}{pins:List (Addr × Obj)}{σ:St}{H:Hp}{s:Shared}{a:Addr}{kvs:List (Key × V)}{k:Key}{u:Value}{A:Around}{E:Value->Shared->Prop}
end
section
variable {X:Cx}{o i e value:Expr}{pos pos' tpos:Pos}{td ty tv:TE}
end
theorem LZ {P:Program}{w:World}{H:Hp}(h:Heap)(hb:sysModules<h.objs.size):qY P w H (h.push { cls:=.type "dict",data:=.dict #[] }) h.objs.size (.dK []):=
 ⟨Nat.zero_le _,beq_eq_false_iff_ne.mpr (Ne.symm (Nat.ne_of_lt hb)),[],.nil,Heap.DictOf.new h⟩
noncomputable def F0:TE:=λ _ H Q=>∀p,H p=none->Q (.ref p) (upd H p (.dK []))
section
variable {X:Cx}{pos:Pos}
theorem LA:PE X (.Dict [] [] pos) F0:=λ pins s σ H Q I h=>
 wpAny_Dict_empty ⟨.ref s.heap.objs.size,_,I.laid (a:=s.heap.objs.size) (o:=.dK []) (t':=s.toks) (λ _ _ q=>Heap.get?_push_of_some _ q) (Nat.le_refl _) (LZ s.heap I.big),rfl,h _ (I.hok.fresh (Nat.le_refl _))⟩
end
section
variable {X:Cx}{pins:List (Addr × Obj)}{σ:St}{H:Hp}{s:Shared}{a:Addr}{y d:V}{u r:Value}{o:Option V}{A:Around}{E:Value->Shared->Prop}
end
section
variable {X:Cx}{o e f:Expr}{apos cpos:Pos}{td ty tx:TE}
end
section
variable {X:Cx}{pins:List (Addr × Obj)}{σ:St}{H:Hp}{s:Shared}{a:Addr}{kvs:List (Key × V)}{A:Around}{E:Value->Shared->Prop}
end
section
variable {X:Cx}{pins:List (Addr × Obj)}{σ:St}{H:Hp}{s:Shared}{a:Addr}{y:V}{u:Value}{A:Around}{E:Value->Shared->Prop}
end
noncomputable def yy (env:Env):List (Str × NameKind)->List (Str × Addr)->List (Str × Addr)
 | [],acc=>acc
 | (n,k)::r,acc=>yy env r (if k==.free then (n,(env.cells.lookup n).getD 0)::acc else acc)
theorem LO {env:Env}(f:Str × NameKind->List (Str × Addr)->Sem (ForInStep (List (Str × Addr))))
  (hf:∀n k r,f (n,k) r=if (k==NameKind.free)=true then (do let c <- cellOf env n;pure (ForInStep.yield ((n,c)::r))) else pure (ForInStep.yield r)):
  ∀(names:List (Str × NameKind)) (acc:List (Str × Addr)),(∀y∈names,y.2=.free->∃c,env.cells.lookup y.1=some c)->(forIn names acc f:Sem (List (Str × Addr)))=pure (yy env names acc):=by
 intro names
 induction names with
 | nil=>intro acc _;rfl
 | cons y r ih=>
  intro acc hh
  obtain ⟨n,k⟩:=y
  rw [List.forIn_cons,hf]
  unfold yy
  have hr:=ih (if k==.free then (n,(env.cells.lookup n).getD 0)::acc else acc) (λ y hy=>hh y (List.mem_cons_of_mem _ hy))
  by_cases hk:k=.free
  ·subst hk
   obtain ⟨c,hc⟩:=hh (n,.free) List.mem_cons_self rfl
   have e:cellOf env n=pure c:=by unfold cellOf;rw [hc]
   have hc':List.lookup n env.cells=some c:=hc
   simp only [e,hc',Option.getD_some,beq_self_eq_true,if_true] at hr ⊢
   exact hr
  ·have hb:(k==NameKind.free)=false:=by simpa using hk
   simp only [hb,Bool.false_eq_true,if_false] at hr ⊢
   exact hr
theorem Tb {scope:Scope}{env:Env}(h:∀y∈scope.names,y.2=.free->∃c,env.cells.lookup y.1=some c):closureFor scope env=pure (yy env scope.names []):=by
 unfold closureFor
 dsimp only
 rw [LO _ (λ n k r=>rfl) scope.names [] h]
 rfl
theorem ZL {env:Env}{n:Str}{c:Addr}:∀(names:List (Str × NameKind)) (acc:List (Str × Addr)),(n,c)∈yy env names acc->(n,c)∈acc∨((n,NameKind.free)∈names/\c=(env.cells.lookup n).getD 0)
 | [],acc,h=>.inl h
 | (x,k)::r,acc,h=>by
  unfold yy at h
  rcases ZL r _ h with h | ⟨h1,h2⟩
  ·by_cases hk:k=.free
   ·subst hk
    simp only [beq_self_eq_true,if_true] at h
    rcases List.mem_cons.mp h with e | h
    ·cases e;exact .inr ⟨List.mem_cons_self,rfl⟩
    ·exact .inl h
   ·have hb:(k==NameKind.free)=false:=by simpa using hk
    simp only [hb,Bool.false_eq_true,if_false] at h
    exact .inl h
  ·exact .inr ⟨List.mem_cons_of_mem _ h1,h2⟩
theorem Yn {env:Env}{n:Str}:∀(names:List (Str × NameKind)) (acc:List (Str × Addr)),((n,NameKind.free)∈names∨(acc.lookup n).isSome=true)->((yy env names acc).lookup n).isSome=true
 | [],acc,h=>by
  rcases h with h | h
  ·cases h
  ·exact h
 | (x,k)::r,acc,h=>by
  unfold yy
  refine Yn r _ ?_
  rcases h with h | h
  ·rcases List.mem_cons.mp h with e | h
   ·cases e
    right
    simp
   ·exact .inl h
  ·right
   by_cases hk:(k==NameKind.free)=true
   ·rw [if_pos hk,List.lookup_cons]
    cases hx:n==x
    ·exact h
    ·rfl
   ·rw [if_neg hk];exact h
theorem WN {n:Str}{c:Addr}:∀(names:List (Str × NameKind)) (k:Nat) (acc:List (Str × Addr)),(n,c)∈cellsFrom k names acc->(n,c)∈acc∨(k<=c/\(n,NameKind.cell)∈names)
 | [],_,_,h=>.inl h
 | (x,q)::r,k,acc,h=>by
  unfold cellsFrom at h
  by_cases hq:(q==NameKind.cell)=true
  ·rw [if_pos hq] at h
   have hq':q=.cell:=by simpa using hq
   rcases WN r _ _ h with h | ⟨h1,h2⟩
   ·rcases List.mem_cons.mp h with e | h
    ·cases e;subst hq';exact .inr ⟨Nat.le_refl _,List.mem_cons_self⟩
    ·exact .inl h
   ·exact .inr ⟨by omega,List.mem_cons_of_mem _ h2⟩
  ·rw [if_neg hq] at h
   rcases WN r _ _ h with h | ⟨h1,h2⟩
   ·exact .inl h
   ·exact .inr ⟨h1,List.mem_cons_of_mem _ h2⟩
theorem WE:∀(names:List (Str × NameKind)) (k:Nat) (acc:List (Str × Addr)),(∀n c,(n,c)∈acc->c<k)->(∀n n' c,(n,c)∈acc->(n',c)∈acc->n=n')->∀n n' c,(n,c)∈cellsFrom k names acc->(n',c)∈cellsFrom k names acc->n=n'
 | [],_,_,_,hi,n,n',c,h,h'=>hi n n' c h h'
 | (x,q)::r,k,acc,hl,hi,n,n',c,h,h'=>by
  unfold cellsFrom at h h'
  by_cases hq:(q==NameKind.cell)=true
  ·rw [if_pos hq] at h h'
   refine WE r (k+1) ((x,k)::acc) (λ m d hm=>?_) (λ m m' d hm hm'=>?_) n n' c h h'
   ·rcases List.mem_cons.mp hm with e | hm
    ·cases e;exact Nat.lt_succ_self _
    ·exact Nat.lt_succ_of_lt (hl m d hm)
   ·rcases List.mem_cons.mp hm with e | hm
    ·rcases List.mem_cons.mp hm' with e' | hm'
     ·cases e;cases e';rfl
     ·cases e;exact absurd (hl m' _ hm') (Nat.lt_irrefl _)
    ·rcases List.mem_cons.mp hm' with e' | hm'
     ·cases e';exact absurd (hl m _ hm) (Nat.lt_irrefl _)
     ·exact hi m m' d hm hm'
  ·rw [if_neg hq] at h h'
   exact WE r k acc hl hi n n' c h h'
theorem WC {n:Str}{c:Addr}:∀(names:List (Str × NameKind)) (h:Heap) (acc:List (Str × Addr)),(n,c)∈cellsFrom h.objs.size names acc->(n,c)∈acc∨(pushCells h names).IsCell c none
 | [],_,_,q=>.inl q
 | (x,k)::r,h,acc,q=>by
  unfold cellsFrom at q
  unfold pushCells
  by_cases hk:(k==NameKind.cell)=true
  ·rw [if_pos hk] at q ⊢
   have:=WC r (h.push { cls:=.type "cell",data:=.cell none }) ((x,h.objs.size)::acc) (by rw [Heap.size_push];exact q)
   rcases this with z | z
   ·rcases List.mem_cons.mp z with e | z
    ·cases e
     exact .inr ⟨_,pushCells_keeps r _ _ _ (Heap.get?_push_size _ rfl),rfl⟩
    ·exact .inl z
   ·exact .inr z
  ·rw [if_neg hk] at q ⊢
   exact WC r h acc q
theorem PL {M:Model}{A:Around}{E:Value->Shared->Prop}{s:Shared}{scope:Scope}{globals:Addr}{cl:List (Str × Addr)}{qual:Str}{env:Env}{Q:Env->Shared->Prop}
  (h:Q { scope,locals:=s.heap.objs.size,globals,cells:=cellsFrom (s.heap.objs.size+1) scope.names cl,qual,func:=none,code:=env.code,frame:=env.frame,builtins:=env.builtins }
   { s with heap:=pushCells (s.heap.push { cls:=.type "dict",data:=.dict #[] }) scope.names }):
  wpAny M A (newFunctionEnv scope globals cl [] qual none .none (some env)) Q E s:=by
 simp only [newFunctionEnv,Option.isSome_some,if_true]
 refine wpAny_bind (wpAny_alloc ?_)
 refine wpAny_bind (wpAny_layCells _ (λ name kind cells=>by cases hkc:kind==NameKind.cell<;>simp [hkc]) _ _ _ _ ?_)
 rw [show ({ s with heap:=s.heap.push { cls:=.type "dict",data:=.dict #[] } }:Shared).heap.objs.size=s.heap.objs.size+1 from Heap.size_push ..]
 rw [List.forIn_nil]
 exact wpAny_bind (wpAny_pure (wpAny_pure h))
noncomputable def jO (X:Cx)(N:List Str)(scope:Scope)(s:Shared)(H:Hp)(fp:List Addr)(xe:Value->Shared->Prop):Cx where
 prog:=X.prog
 w:=X.w
 K:=X.K
 mg:=X.mg
 base:=X.base
 A:=X.A
 N:=N
 s0:=s
 H0:=H
 env:={ scope:=relabel scope X.env,locals:=s.heap.objs.size,globals:=X.env.globals,cells:=cellsFrom (s.heap.objs.size+1) scope.names (yy X.env scope.names []),qual:=X.env.qual,func:=none,code:=X.env.code,frame:=X.env.frame,builtins:=X.env.builtins }
 outer:=X.stack
 stack:=X.stack
 ex:=fp
 fn:=λ x=>scope.names.lookup x==some .local || scope.names.lookup x==some .cell
 calm:=X.calm
 pn:=[]
 xe:=xe
structure gJ (X:Cx)(scope:Scope):Prop where
 kind:scope.kind=.function
 nd:(scope.names.map (·.1)).Nodup
 free:∀y∈scope.names,y.2=.free->X.env.kindOf y.1=some .cell∨X.env.kindOf y.1=some .free
theorem Qn {α:Type}{x:Str}{k:α}:∀{l:List (Str × α)},(l.map (·.1)).Nodup->(x,k)∈l->l.lookup x=some k
 | (y,q)::r,nd,h=>by
  rw [List.map_cons,List.nodup_cons] at nd
  rw [List.lookup_cons]
  rcases List.mem_cons.mp h with e | h
  ·cases e;simp
  ·have ne:(x==y)=false:=by
    rw [beq_eq_false_iff_ne]
    intro e
    apply nd.1
    rw [<- e]
    exact List.mem_map_of_mem (f:=(·.1)) h
   rw [ne]
   exact Qn nd.2 h
theorem Wy {scope:Scope}{env:Env}{x:Str}{k:NameKind}(h:(relabel scope env).names.lookup x=some k):scope.names.lookup x=some k∨(k=.cell/\scope.names.lookup x=some .free/\env.kindOf x=some .cell):=by
 unfold relabel at h
 dsimp only at h
 generalize scope.names=names at h ⊢
 induction names with
 | nil=>cases h
 | cons y r ih=>
  obtain ⟨n,q⟩:=y
  rw [List.map_cons] at h
  have split:(if (q==NameKind.free&&env.scope.kind==.function&&env.kindOf n==some .cell)=true then (n,NameKind.cell) else (n,q)).1=n:=by split<;>rfl
  rw [List.lookup_cons] at h ⊢
  dsimp only at h
  rw [split] at h
  cases hx:x==n with
  | false=>rw [hx] at h;exact ih h
  | true=>
   rw [hx] at h
   have e:x=n:=beq_iff_eq.mp hx
   subst e
   by_cases hc:(q==NameKind.free&&env.scope.kind==.function&&env.kindOf x==some .cell)=true
   ·rw [if_pos hc] at h
    simp only [Bool.and_eq_true,beq_iff_eq] at hc
    cases h
    right
    exact ⟨rfl,by rw [hc.1.1],hc.2⟩
   ·rw [if_neg hc] at h
    left
    exact h
section
variable {X:Cx}{pins:List (Addr × Obj)}{σ:St}{H:Hp}{s:Shared}{scope:Scope}
theorem Inv.capt (I:Inv X pins σ H s)(S:gJ X scope){x:Str}(h:(x,NameKind.free)∈scope.names):∃c,X.env.cells.lookup x=some c:=I.ok.has x (S.free _ h rfl)
theorem Jj (I:Inv X pins σ H s)(S:gJ X scope){x:Str}{c:Addr}(h:(x,c)∈cellsFrom (s.heap.objs.size+1) scope.names (yy X.env scope.names [])):
  ((x,NameKind.free)∈scope.names/\X.env.cells.lookup x=some c/\c<s.heap.objs.size)∨((x,NameKind.cell)∈scope.names/\s.heap.objs.size<c/\∀h0:Heap,h0.objs.size=s.heap.objs.size+1->(pushCells h0 scope.names).IsCell c none):=by
 rcases WN _ _ _ h with h1 | ⟨h1,h2⟩
 ·left
  rcases ZL _ _ h1 with z | ⟨z,e⟩
  ·cases z
  ·obtain ⟨c',hc⟩:=I.capt S z
   rw [hc] at e
   have e':c=c':=e
   subst e'
   obtain ⟨v,q⟩:=I.cell x c hc
   exact ⟨z,hc,q.lt⟩
 ·right
  refine ⟨h2,h1,λ h0 e0=>?_⟩
  have h':=h
  rw [<- e0] at h'
  rcases WC _ h0 _ h' with z | z
  ·exfalso
   rcases ZL _ _ z with z | ⟨z,e⟩
   ·cases z
   ·obtain ⟨c',hc⟩:=I.capt S z
    rw [hc] at e
    have e':c=c':=e
    subst e'
    obtain ⟨v,q⟩:=I.cell x c hc
    exact Nat.lt_irrefl _ (Nat.lt_of_lt_of_le (Nat.lt_succ_of_lt q.lt) h1)
  ·exact z
theorem M6 {N:List Str}{fp:List Addr}{xe:Value->Shared->Prop}{σ':St}(I:Inv X pins σ H s)(S:gJ X scope)(hf:∀b∈fp,y0 X pins H b)(hfl:∀b∈fp,b<s.heap.objs.size)(hl:σ'.length=N.length)
  (hs:∀(j:Nat) (x:Str) (v:V),N[j]? =some x->σ'[j]? =some (some v)->(x,NameKind.free)∈scope.names/\∃i:Nat,X.N[i]? =some x/\σ[i]? =some (some v)):
  Inv (jO X N scope s H fp xe) [] σ' H { s with heap:=pushCells (s.heap.push { cls:=.type "dict",data:=.dict #[] }) scope.names }:=by
 have hk:∀b o,s.heap.get? b=some o->(pushCells (s.heap.push { cls:=.type "dict",data:=.dict #[] }) scope.names).get? b=some o:=λ b o e=>pushCells_keeps _ _ _ _ (Heap.get?_push_of_some _ e)
 have hsz:(s.heap.push { cls:=.type "dict",data:=.dict #[] }).objs.size=s.heap.objs.size+1:=Heap.size_push ..
 have lkm:∀{x:Str} {c:Addr},(jO X N scope s H fp xe).env.cells.lookup x=some c->(x,c)∈cellsFrom (s.heap.objs.size+1) scope.names (yy X.env scope.names []):=λ h=>PySem.mem_of_lookup h
 have lkc:∀{x:Str},((jO X N scope s H fp xe).env.kindOf x=some .cell∨(jO X N scope s H fp xe).env.kindOf x=some .free)->∃c,(jO X N scope s H fp xe).env.cells.lookup x=some c:=λ {x} h=>by
  refine Option.isSome_iff_exists.mp (PySem.W.cellsFrom_some _ _ _ ?_)
  have two:scope.names.lookup x=some .cell∨scope.names.lookup x=some .free:=by
   rcases h with h | h
   ·rcases Wy h with z | ⟨_,z,_⟩
    ·exact .inl z
    ·exact .inr z
   ·rcases Wy h with z | ⟨z,_⟩
    ·exact .inr z
    ·cases z
  rcases two with z | z
  ·exact .inl z
  ·exact .inr (Yn _ _ (.inl (PySem.mem_of_lookup z)))
 have exP:∀b∈fp,∀x c,(jO X N scope s H fp xe).env.cells.lookup x=some c->c≠b:=λ b hb x c e=>by
  rcases Jj I S (lkm e) with ⟨_,q,_⟩ | ⟨_,q,_⟩
  ·exact (hf b hb).2.2.2.2.1 x c q
  ·intro z;subst z;exact Nat.lt_irrefl _ (Nat.lt_trans q (hfl _ hb))
 refine ⟨⟨I.ok.mod,S.kind,I.ok.glob,I.ok.blt,Nat.le_refl _,λ x y c h1 h2=>?_,λ x h=>lkc h,λ x c hx h=>?_,I.ok.hd,I.ok.frames,.inl rfl,λ b hb=>⟨?_,exP b hb⟩,I.bs,Nat.le_trans I.ok.bsz I.sz,λ b o e hb=>?_,λ b hb z=>?_,I.stack,I.stkFree⟩,
  rfl,I.bare,Un.kept hk,⟨λ _=>none,?_,λ j x v h1 h2 h3=>?_⟩,λ x c e=>?_,I.fresh,λ x c e=>?_,λ p hp=>?_,I.hok.kept hk,hl⟩
 ·refine WE _ _ _ (λ n c h=>?_) (λ n n' c h h'=>?_) x y c (lkm h1) (lkm h2)
  ·rcases ZL _ _ h with z | ⟨z,e⟩
   ·cases z
   ·obtain ⟨c',hc⟩:=I.capt S z
    rw [hc] at e
    have e':c=c':=e
    subst e'
    obtain ⟨v,q⟩:=I.cell n c hc
    exact Nat.lt_succ_of_lt q.lt
  ·rcases ZL _ _ h with z | ⟨z,e⟩
   ·cases z
   ·rcases ZL _ _ h' with z' | ⟨z',e'⟩
    ·cases z'
    ·obtain ⟨d,hd⟩:=I.capt S z
     obtain ⟨d',hd'⟩:=I.capt S z'
     rw [hd] at e
     rw [hd'] at e'
     have e1:c=d:=e
     have e2:c=d':=e'
     subst e1
     subst e2
     exact I.ok.inj _ _ _ hd hd'
 ·rcases Jj I S (lkm h) with ⟨z,_,_⟩ | ⟨_,z,_⟩
  ·exfalso
   have e1:=Qn S.nd z
   have hx':(scope.names.lookup x==some .local || scope.names.lookup x==some .cell)=true:=hx
   rw [e1] at hx'
   cases hx'
  ·exact Nat.le_of_lt z
 ·exact Nat.ne_of_lt (hfl b hb)
 ·obtain ⟨_,_,_,h4,_⟩:=hf b hb
  rcases h4 with h4 | h4
  ·exact I.ok.noex b o e h4
  ·exact absurd (Nat.lt_of_lt_of_le (Heap.lt_size e) (Nat.le_trans I.ok.bsz h4)) (Nat.lt_irrefl _)
 ·obtain ⟨_,h2,h3,_⟩:=hf b hb
  rcases List.mem_cons.mp (I.stkSub b z) with e | e
  ·exact h2 e
  ·exact h3 e
 ·exact (Heap.Ns.new s.heap (.type "dict")).keeps (pushCells_keeps _ _)
 ·obtain ⟨hx,i,e1,e2⟩:=hs j x v h1 h2
  obtain ⟨m,hn,hl'⟩:=I.loc
  have vis:KU X.env.scope x:=.inr (S.free _ hx rfl)
  obtain ⟨u,r,lk⟩:=hl' i x v e1 e2 vis
  refine ⟨u,r,.inr ?_⟩
  have hkf:(jO X N scope s H fp xe).env.kindOf x=some .cell∨(jO X N scope s H fp xe).env.kindOf x=some .free:=by
   rcases h3 with z | z | z
   ·exfalso
    rcases Wy z with z' | ⟨z',_⟩
    ·rw [Qn S.nd hx] at z';cases z'
    ·cases z'
   ·exact .inl z
   ·exact .inr z
  refine ⟨hkf,?_⟩
  obtain ⟨c,hc⟩:=lkc hkf
  refine ⟨c,hc,?_⟩
  rcases Jj I S (lkm hc) with ⟨_,q,_⟩ | ⟨q,_,_⟩
  ·rcases lk with ⟨z,_⟩ | ⟨_,c',hc',cell⟩
   ·exfalso
    rcases S.free _ hx rfl with k | k<;>(rw [k] at z;cases z)
   ·rw [q] at hc';cases hc'
    exact cell.keeps hk
  ·exfalso
   have a1:=Qn S.nd hx
   have a2:=Qn S.nd q
   rw [a1] at a2;cases a2
 ·rcases Jj I S (lkm e) with ⟨_,q,_⟩ | ⟨_,_,q⟩
  ·obtain ⟨v,z⟩:=I.cell x c q
   exact ⟨v,z.keeps hk⟩
  ·exact ⟨_,q _ hsz⟩
 ·rcases Jj I S (lkm e) with ⟨_,q,_⟩ | ⟨_,q,_⟩
  ·exact I.freeC x c q
  ·exact I.hok.fresh (Nat.le_of_lt q)
 ·have hp':p∈([]:List (Addr × Obj)):=hp
  cases hp'
end
noncomputable abbrev kO:=Addr->St->Hp->(St->Hp->Prop)->Prop
noncomputable def JR (elt:Expr)(gens:List Comprehension)(sc:Scope)(pos:Pos)(d:Nat)(acc:Value)(env:Env)(k:Sem Fin):Sem Fin:=
 match gens[d+1]? with
 | some g'=>do
  let x <- eval g'.iter env
  standAt g'.iter.pos
  let x <- foldedSetIterable g'.iter env x
  let _ <- runOwn (.compStart (.ListComp elt gens sc pos) (d+1) (<- holding [x] (pyIter x)) acc env) env
  k
 | none=>do
  (do let _ <- call (.builtin "list.append") [acc,<- eval elt env])
  k
theorem Hw {elt tg iter:Expr}{ifs:List Expr}{gens:List Comprehension}{sc:Scope}{pos:Pos}{d:Nat}{it acc:Value}{env:Env}(hg:gens[d]? =some ⟨tg,iter,ifs,0⟩)(ha:∀g',gens[d+1]? =some g'->g'.is_async=0):
  compTurn (.ListComp elt gens sc pos) d it acc env=(do
   standAt iter.pos
   match <- pyNext it with
   | none=>pure (.done .next)
   | some v=>
    letOwnedTupleGo tg it v
    assign tg env v
    let mut ok:=true
    for c in ifs do
     if ok then ok <- isTrue c env (eval c env)
    if ok then JR elt gens sc pos d acc env (again (.compLoop (.ListComp elt gens sc pos) d it acc env))
    else again (.compLoop (.ListComp elt gens sc pos) d it acc env)):=by
 unfold compTurn JR
 dsimp only
 rw [hg]
 cases hn:gens[d+1]? with
 | none=>rfl
 | some g'=>
  obtain ⟨t',i',f',a'⟩:=g'
  have e:a'=0:=ha _ hn
  subst e
  rfl
noncomputable def gY (X:Cx)(ifs:List Expr)(t:TT):Prop:=
 ∀(pins:List (Addr × Obj)) (s:Shared) (σ:St) (H:Hp) (Q:Bool->Hp->Prop),Inv X pins σ H s->t σ H Q->
  wpAny (model X.prog X.w) X.A (forIn ifs true λ c r=>if r=true then do let ok <- isTrue c X.env (eval c X.env);pure (ForInStep.yield ok) else pure (ForInStep.yield r)) (TP X pins σ Q) X.xe s
noncomputable def DF:TT:=λ _ H Q=>Q true H
theorem Lp {X:Cx}:gY X [] DF:=λ pins s σ H Q I h=>wpAny_tests_nil ⟨H,I,h⟩
theorem M4 {X:Cx}{c:Expr}{t:TT}(h:PT X c t):gY X [c] t:=λ pins s σ H Q I hw=>wpAny_tests_one (h pins s σ H Q I hw)
noncomputable def kz (X:Cx)(elt:Expr)(gens:List Comprehension)(sc:Scope)(pos:Pos)(d:Nat)(t:kO):Prop:=
 ∀(pins:List (Addr × Obj)) (s:Shared) (σ:St) (H:Hp) (D:Addr) (Q:St->Hp->Prop) (k:Sem Fin) (Q':Fin->Shared->Prop) (E:Value->Shared->Prop),Inv X pins σ H s->t D σ H Q->
  (∀s' σ' H',Inv X pins σ' H' s'->Q σ' H'->wpAny (model X.prog X.w) X.A k Q' E s')->wpAny (model X.prog X.w) X.A (JR elt gens sc pos d (.ref D) X.env k) Q' E s
noncomputable def DQ (te:TE):kO:=λ D σ H Q=>te σ H λ y H1=>∃ys,H1 D=some (.lst ys)/\ys.length<sizeLine/\Q σ (upd H1 D (.lst (ys++[y])))
noncomputable def JA (J:It)(g:TG)(ti:TT)(tm:kO):kO:=λ D σ H Q=>∃W:Nat->Nat->St->Hp->Prop,(∃m,W 0 m σ H)/\∀i m σ H,W i m σ H->
 (J.stop i H/\Q σ H)∨(J.go i H/\∃N:St->Hp->Prop,(∀σ' H',N σ' H'->∃m',m'<m/\W (i+1) m' σ' H')/\∀x H',J.yld i H x H'->g x σ H' λ σ1 H1=>ti σ1 H1 λ b Hb=>if b=true then tm D σ1 Hb N else N σ1 Hb)
noncomputable def Dw (wi:TI)(g:TG)(ti:TT)(tm:kO):kO:=λ D σ H Q=>wi σ H λ J H1=>JA J g ti tm D σ H1 Q
section
variable {X:Cx}{elt tg iter:Expr}{ifs:List Expr}{gens:List Comprehension}{sc:Scope}{pos:Pos}{d:Nat}
theorem QL (hx:∀e s,X.xe e s->False){α:Type}{t:Sem α}{Q':α->Shared->Prop}{E:Value->Shared->Prop}{s':Shared}(hh:wpAny (model X.prog X.w) X.A t Q' X.xe s'):wpAny (model X.prog X.w) X.A t Q' E s':=
 wpAny_mono hh (λ _ _ z=>z) λ e s' z=>(hx e s' z).elim
theorem LB {te:TE}(hx:∀e s,X.xe e s->False)(he:PE X elt te)(hg:gens[d+1]? =none):kz X elt gens sc pos d (DQ te):=by
 intro pins s σ H D Q k Q' E I h hk
 unfold JR
 rw [hg]
 refine wpAny_bind (wpAny_bind (QL hx (zS (he pins s σ H _ I h) λ u s1 ⟨y,H1,I1,r1,ys,e1,z1,q1⟩=>?_)))
 refine wpAny_bind (QL hx (zS (Tf pins s1 σ H1 (.ref D) [y] (.ref D) [u] (λ _ H'=>Q σ H') I1 rfl (.cons r1 .nil) ⟨D,ys,y,rfl,rfl,e1,z1,q1⟩) λ _ s2 ⟨_,H2,I2,_,q2⟩=>?_))
 exact wpAny_pure (hk s2 σ H2 I2 q2)
theorem HQ {g:TG}{ti:TT}{tm:kO}(hx:∀e s,X.xe e s->False)(hc:X.calm=true)(hg:gens[d]? =some ⟨tg,iter,ifs,0⟩)(ha:∀g',gens[d+1]? =some g'->g'.is_async=0)(hgt:PG X tg g)(hi:gY X ifs ti)(hm:kz X elt gens sc pos d tm)
  {pins:List (Addr × Obj)}{σ:St}{H:Hp}{s:Shared}{D:Addr}{Q:St->Hp->Prop}{J:It}{it:Addr}{fp:List Addr}{tn:Nat->Heap->Prop}(T:Turn X.prog X.w X.K tg J fp it tn)(I:Inv X pins σ H s)(st:tn 0 s.heap)(hf:∀b∈fp,y0 X pins H b)
  (h:JA J g ti tm D σ H Q){R:Result->Shared->Prop}(hR:∀s' σ' H',Inv X pins σ' H' s'->Q σ' H'->R (.ok .next) s'):
  codeAny (model X.prog X.w) X.A (.compLoop (.ListComp elt gens sc pos) d (.ref it) (.ref D) X.env) R s:=by
 obtain ⟨W,⟨m0,w0⟩,turn⟩:=h
 have stat:∀{H':Hp},(∀b∈fp,H' b=none)->∀b∈fp,y0 X pins H' b:=λ hn b hb=>⟨hn b hb,(hf b hb).2⟩
 refine codeAny_loop rfl (λ n s'=>∃i σ' H',Inv X pins σ' H' s'/\tn i s'.heap/\(∀b∈fp,H' b=none)/\W i n σ' H') (λ n s3 hI=>?_) m0 ⟨0,σ,H,I,st,λ b hb=>(hf b hb).1,w0⟩
 show wpAny _ X.A ((compTurn (.ListComp elt gens sc pos) d (.ref it) (.ref D) X.env).onRaise (λ x=>do noteFrame x X.env;theTreesLotGoes x)) _ _ s3
 refine wpAny_noted ?_
 rw [Hw hg ha]
 refine wpAny_bind (wpAny_standAt ?_)
 obtain ⟨i,σ3,H3,I3,wk,fr3,w3⟩:=hI
 rcases turn i n σ3 H3 w3 with ⟨stop,qn⟩ | ⟨go,N,hN,step⟩
 ·refine wpAny_bind (zS (T.done X rfl rfl rfl hc i pins s3 σ3 H3 _ I3 (stat fr3) wk stop) λ r s4 ⟨hr,I4⟩=>?_)
  subst hr
  exact wpAny_pure (hR s4 σ3 H3 I4 qn)
 ·refine wpAny_bind (zS (T.item X rfl rfl rfl hc i pins s3 σ3 H3 _ I3 (stat fr3) wk go) λ r s4 ⟨u,hr,h4⟩=>?_)
  subst hr
  refine wpAny_bind (zS h4 λ _ s5 ⟨x,H5,I5,r5,y5,st5,fr5⟩=>?_)
  have I5':=I5.pinned (stat fr5) (T.obj _ _ st5)
  have back:∀{σ7:St} {H7:Hp} {s7:Shared},Inv X (pins++Jx fp s5.heap) σ7 H7 s7->N σ7 H7->∃m,m<n/\∃i σ' H',Inv X pins σ' H' s7/\tn i s7.heap/\(∀b∈fp,H' b=none)/\W i m σ' H':=λ {σ7 H7 s7} I7 n7=>by
   obtain ⟨m',hm,w7⟩:=hN σ7 H7 n7
   refine ⟨m',hm,i+1,σ7,H7,I7.unpinned,T.keep _ _ _ st5 λ b hb o e=>(I7.pin (b,o) (List.mem_append_right _ (List.mem_append_right _ (Yo hb e)))).1,λ b hb=>?_,w7⟩
   obtain ⟨o,e,d⟩:=T.obj _ _ st5 b hb
   exact (I7.pin (b,o) (List.mem_append_right _ (List.mem_append_right _ (Yo hb e)))).2.1
  refine wpAny_bind (QL hx (zS (hgt _ s5 σ3 H5 x u _ I5' r5 (step x H5 y5)) λ _ s6 ⟨σ6,H6,I6,q6⟩=>?_))
  refine wpAny_bind (QL hx (zS (hi _ s6 σ6 H6 _ I6 q6) λ ok s7 ⟨H7,I7,q7⟩=>?_))
  cases ok with
  | false=>exact wpAny_pure ⟨rfl,back I7 q7⟩
  | true=>
   rw [if_pos rfl] at q7
   exact hm _ s7 σ6 H7 D _ _ _ _ I7 q7 λ s8 σ8 H8 I8 q8=>wpAny_pure ⟨rfl,back I8 q8⟩
theorem RI {g:TG}{ti:TT}{tm:kO}(hx:∀e s,X.xe e s->False)(hc:X.calm=true)(hg:gens[d]? =some ⟨tg,iter,ifs,0⟩)(ha:∀g',gens[d+1]? =some g'->g'.is_async=0)(hgt:PG X tg g)(hi:gY X ifs ti)(hm:kz X elt gens sc pos d tm)
  {pins:List (Addr × Obj)}{σ:St}{H:Hp}{s:Shared}{D:Addr}{Q:St->Hp->Prop}{J:It}{it:Addr}{fp:List Addr}{tn:Nat->Heap->Prop}(T:Turn X.prog X.w X.K tg J fp it tn)(I:Inv X pins σ H s)(st:tn 0 s.heap)(hf:∀b∈fp,y0 X pins H b)
  (h:JA J g ti tm D σ H Q){R:Result->Shared->Prop}(hR:∀s' σ' H',Inv X pins σ' H' s'->Q σ' H'->R (.ok .next) s'):
  codeAny (model X.prog X.w) X.A (.compStart (.ListComp elt gens sc pos) d (.ref it) (.ref D) X.env) R s:=by
 have loop:=HQ hx hc hg ha hgt hi hm T I st hf h hR
 refine codeAny_of_tree ?_
 show wpAny _ _ ((compStart (.ListComp elt gens sc pos) d (.ref it) (.ref D) X.env).onRaise (λ x=>do noteFrame x X.env;standAt theWindowsPlace)) _ _ s
 refine wpAny_notedAt ?_
 unfold compStart
 have hcl:(clausesOf (.ListComp elt gens sc pos))[d]? =some ⟨tg,iter,ifs,0⟩:=hg
 rw [hcl]
 show wpAny _ _ (ask >>= _) _ _ s
 refine wpAny_bind (wpAny_askSetting (wpAny_ite ?_))
 split
 ·first
   | exact wpAny_bind (wpAny_pure (wpAny_pure (And.intro rfl loop)))
   | exact wpAny_pure (And.intro rfl loop)
 ·first
   | exact wpAny_bind (wpAny_rule (wpAny_bind (wpAny_standAt (wpAny_bind (T.self _ 0 s _ _ st (wpAny_pure (And.intro rfl loop)))))))
   | (refine wpAny_bind (wpAny_rule ?_);show wpAny _ _ (standAt iter.pos >>= _) _ _ s;exact wpAny_bind (wpAny_standAt (wpAny_bind (T.self _ 0 s _ _ st (wpAny_pure (And.intro rfl loop))))))
theorem L9 {wi:TI}{g:TG}{ti:TT}{tm:kO}(hx:∀e s,X.xe e s->False)(hc:X.calm=true)(hg:gens[d+1]? =some ⟨tg,iter,ifs,0⟩)(ha:∀g',gens[d+2]? =some g'->g'.is_async=0)(hw:PI X tg iter wi)(hgt:PG X tg g)(hi:gY X ifs ti)(hm:kz X elt gens sc pos (d+1) tm)
  (hs:∀x,foldedSetIterable iter X.env x=pure x:=by intro _;rfl):kz X elt gens sc pos d (Dw wi g ti tm):=by
 intro pins s σ H D Q k Q' E I h hk
 unfold JR
 rw [hg]
 refine wpAny_bind (QL hx (zS (hw pins s σ H _ I h) λ v s1 h1=>?_))
 refine wpAny_bind (wpAny_standAt (wpAny_bind (wpAny_of_eq (hs v) ?_)))
 refine wpAny_bind (wpAny_holding (QL hx (zS h1 λ itv s2 h2=>?_)))
 obtain ⟨it,fp,tn,J,H2,e,I2,T,kN,f2,q2⟩:=h2
 subst e
 refine wpAny_bind (wpAny_runOwn (RI hx hc hg ha hgt hi hm T I2 kN f2 q2 λ s' σ' H' I' q'=>?_))
 exact hk s' σ' H' I' q'
end
noncomputable def gq (nl:Nat)(cap:List Nat)(σ:St):St:=List.replicate nl none++cap.map λ i=>(σ[i]?).join
noncomputable def Qb (M N:List Str)(scope:Scope)(nl:Nat)(cap:List Nat):Bool:=
 N.length==nl+cap.length&&(List.range cap.length).all λ k=>match N[nl+k]?,M[cap.getD k 0]? with
  | some x,some y=>x==y&&scope.names.any λ z=>z.1==x&&z.2==NameKind.free
  | _,_=>false
theorem M8 {M N:List Str}{scope:Scope}{nl:Nat}{cap:List Nat}(h:Qb M N scope nl cap=true){σ:St}:(gq nl cap σ).length=N.length/\
  ∀(j:Nat) (x:Str) (v:V),N[j]? =some x->(gq nl cap σ)[j]? =some (some v)->(x,NameKind.free)∈scope.names/\∃i:Nat,M[i]? =some x/\σ[i]? =some (some v):=by
 unfold Qb at h
 rw [Bool.and_eq_true,beq_iff_eq] at h
 obtain ⟨h1,h2⟩:=h
 refine ⟨by unfold gq;simp [h1],λ j x v e1 e2=>?_⟩
 unfold gq at e2
 by_cases hj:j<nl
 ·rw [List.getElem?_append_left (by simpa using hj),List.getElem?_replicate] at e2
  split at e2<;>cases e2
 ·rw [List.getElem?_append_right (by simpa using hj),List.length_replicate,List.getElem?_map] at e2
  cases hc:cap[j - nl]? with
  | none=>rw [hc] at e2;cases e2
  | some i=>
   rw [hc] at e2
   have e2':(σ[i]?).join=some v:=Option.some.inj e2
   have hk:j - nl<cap.length:=(List.getElem?_eq_some_iff.mp hc).1
   have h3:=List.all_eq_true.mp h2 (j - nl) (List.mem_range.mpr hk)
   have ej:nl+(j - nl)=j:=by omega
   rw [ej,e1] at h3
   have ec:cap.getD (j - nl) 0=i:=by rw [List.getD_eq_getElem?_getD,hc];rfl
   rw [ec] at h3
   cases hm:M[i]? with
   | none=>rw [hm] at h3;cases h3
   | some y=>
    rw [hm] at h3
    rw [Bool.and_eq_true,beq_iff_eq] at h3
    obtain ⟨h4,h5⟩:=h3
    subst h4
    obtain ⟨z,hz,hz2⟩:=List.any_eq_true.mp h5
    rw [Bool.and_eq_true,beq_iff_eq,beq_iff_eq] at hz2
    refine ⟨?_,i,hm,?_⟩
    ·obtain ⟨z1,z2⟩:=z
     obtain ⟨a1,a2⟩:=hz2
     cases a1;cases a2
     exact hz
    ·cases hs:σ[i]? with
     | none=>rw [hs] at e2';cases e2'
     | some o=>rw [hs] at e2';cases o with
      | none=>cases e2'
      | some w=>cases e2';rfl
noncomputable abbrev yB:Value->Shared->Prop:=λ _ _=>False
noncomputable def Kq (K:Frag)(wi:TI)(g:TG)(ti:TT)(tm:kO)(nl:Nat)(cap:List Nat):TE:=λ σ H Q=>wi σ H λ J H2=>∀D,H2 D=none->K.lookup D=none->JA J g ti tm D (gq nl cap σ) (upd H2 D (.lst [])) λ _ H'=>Q (.ref D) H'
section
variable {X:Cx}{elt tg iter:Expr}{ifs:List Expr}{gs:List Comprehension}{sc:Scope}{pos p:Pos}{wi:TI}{g:TG}{ti:TT}{tm:kO}{N:List Str}{nl:Nat}{cap:List Nat}
theorem Sz (hc:X.calm=true)(S:gJ X sc)(hcap:Qb X.N N sc nl cap=true)(ha:∀g',gs[0]? =some g'->g'.is_async=0)(hw:PI X tg iter wi)
  {pins:List (Addr × Obj)}{σ:St}
  (hin:∀s H fp,Inv X pins σ H s->(∀b∈fp,y0 X pins H b)->PG (jO X N sc s H fp yB) tg g/\gY (jO X N sc s H fp yB) ifs ti/\kz (jO X N sc s H fp yB) elt (⟨tg,iter,ifs,0⟩::gs) sc pos 0 tm)
  {H:Hp}{s:Shared}{Q:VK}(I:Inv X pins σ H s)(h:Kq X.K wi g ti tm nl cap σ H Q)
  {use:Option (Value->Sem Unit)}{Q':Value->Shared->Prop}
  (hend:∀(D C:Addr) (s':Shared) (H':Hp) (m:Str->Option Value),Inv X pins σ H' s'->Q (.ref D) H'->s'.heap.Ns C m->H' C=none->C≠X.env.locals->X.s0.heap.objs.size<=C->(∀x c,X.env.cells.lookup x=some c->c≠C)->(∀q∈X.pn++pins,q.1≠C)->
   compPost (model X.prog X.w) X.A X.xe use Q' (.ref D) C (.ok .next) s')
  (hs:∀x,foldedSetIterable iter X.env x=pure x:=by intro _;rfl):
  wpAny (model X.prog X.w) X.A (comprehension (.ListComp elt (⟨tg,iter,ifs,0⟩::gs) sc pos) sc X.env p (newList []) false (eval iter X.env) use) Q' X.xe s:=by
 have hfree:∀y∈sc.names,y.2=.free->∃c,X.env.cells.lookup y.1=some c:=λ y hy e=>I.ok.has _ (S.free y hy e)
 refine wpAny_comprehension_free (use:=use) rfl hs (Tb hfree) S.kind (λ y hy e=>by
  obtain ⟨y1,y2⟩:=y
  have e':y2=.local:=e
  subst e'
  exact Qn S.nd hy) ?_
 refine zS (hw pins s σ H _ I h) λ v s1 h1=>zS h1 λ itv s2 h2=>?_
 obtain ⟨it,fp,tn,J,H2,e,I2,T,kN,f2,q2⟩:=h2
 subst e
 refine wpAny_newObj_type ?_
 have hD:H2 s2.heap.objs.size=none:=I2.fresh
 have hKD:X.K.lookup s2.heap.objs.size=none:=by
  cases ek:X.K.lookup s2.heap.objs.size with
  | none=>rfl
  | some o=>exact absurd (Heap.lt_size (I2.kIn _ _ ek)) (Nat.lt_irrefl _)
 have q3:=q2 _ hD hKD
 generalize hs3:({ s2 with heap:=s2.heap.push { cls:=.type "list",data:=.seq ([]:List Value).toArray } }:Shared)=s3
 have hs3':s3={ s2 with heap:=s2.heap.push { cls:=.type "list",data:=.seq ([]:List Value).toArray } }:=hs3.symm
 have I3:Inv X pins σ (upd H2 s2.heap.objs.size (.lst [])) s3:=by
  rw [hs3']
  exact I2.laid (t':=s2.toks) (λ b u e=>Heap.get?_push_of_some _ e) (Nat.le_refl _) ⟨by simp,[],0,.nil,Heap.get?_push_size _ rfl⟩
 have fpo:∀b∈fp,∃o,s2.heap.get? b=some o:=λ b hb=>let ⟨o,e,_⟩:=T.obj 0 _ kN b hb;⟨o,e⟩
 have sz3:s3.heap.objs.size=s2.heap.objs.size+1:=by rw [hs3'];exact Heap.size_push ..
 have wk:tn 0 s3.heap:=T.keep _ _ _ kN λ b hb o e=>by rw [hs3'];exact Heap.get?_push_of_some _ e
 have fl3:∀b∈fp,b<s3.heap.objs.size:=λ b hb=>by
  obtain ⟨o,e⟩:=fpo b hb
  rw [sz3];exact Nat.lt_succ_of_lt (Heap.lt_size e)
 have f3:∀b∈fp,y0 X pins (upd H2 s2.heap.objs.size (.lst [])) b:=λ b hb=>by
  obtain ⟨o,e⟩:=fpo b hb
  refine ⟨?_,(f2 b hb).2⟩
  rw [qc (Nat.ne_of_lt (Heap.lt_size e))]
  exact (f2 b hb).1
 generalize upd H2 s2.heap.objs.size (.lst [])=H3 at I3 f3 q3
 generalize s2.heap.objs.size=D at q3 ⊢
 refine PL ?_
 obtain ⟨cl,cs⟩:=M8 hcap (σ:=σ)
 have I4:=M6 (xe:=yB) I3 S f3 fl3 cl cs
 obtain ⟨hgt,hi,hm⟩:=hin s3 H3 fp I3 f3
 refine RI (X:=jO X N sc s3 H3 fp yB) (gens:=⟨tg,iter,ifs,0⟩::gs) (d:=0) (λ _ _ z=>z) hc rfl ha hgt hi hm T I4 (T.keep _ _ _ wk λ b hb o e=>pushCells_keeps _ _ _ _ (Heap.get?_push_of_some _ e)) (λ b hb=>?_) q3 λ s' σ' H' I' q'=>?_
 ·obtain ⟨g1,g2,g3,g4,g5,g6⟩:=f3 b hb
  refine ⟨g1,Nat.ne_of_lt (fl3 b hb),λ z=>?_,.inl hb,(I4.ok.exf b hb).2,λ p hp=>absurd (show p∈([]:List (Addr × Obj)) from hp) (by simp)⟩
  rcases List.mem_cons.mp (I3.stkSub b z) with e | e
  ·exact g2 e
  ·exact g3 e
 ·have I5:Inv X pins σ H' s':=I3.call' I'.os I'.base I'.hok I'.bare λ b hb=>by
   obtain ⟨g1,g2,g3,g4,g5,g6⟩:=f3 b hb
   exact ⟨g4,g2,g5,g6⟩
  obtain ⟨m,hn,_⟩:=I'.loc
  refine hend D _ s' H' m I5 q' hn I'.free (Nat.ne_of_gt I3.lt) I3.sz (λ x c e z=>?_) λ q hq z=>?_
  ·obtain ⟨v,w⟩:=I3.cell x c e
   exact Nat.lt_irrefl _ (Nat.lt_of_lt_of_le w.lt (by rw [z];exact Nat.le_refl _))
  ·exact Nat.lt_irrefl _ (Nat.lt_of_lt_of_le (Heap.lt_size (I3.pin q hq).1) (by rw [z];exact Nat.le_refl _))
theorem Fp (hc:X.calm=true)(S:gJ X sc)(hcap:Qb X.N N sc nl cap=true)(ha:∀g',gs[0]? =some g'->g'.is_async=0)(hw:PI X tg iter wi)
  (hin:∀s H fp,PG (jO X N sc s H fp yB) tg g/\gY (jO X N sc s H fp yB) ifs ti/\kz (jO X N sc s H fp yB) elt (⟨tg,iter,ifs,0⟩::gs) sc pos 0 tm)
  (hs:∀x,foldedSetIterable iter X.env x=pure x:=by intro _;rfl):PE X (.ListComp elt (⟨tg,iter,ifs,0⟩::gs) sc pos) (Kq X.K wi g ti tm nl cap):=by
 intro pins s σ H Q I h
 rw [eval_ListComp]
 refine Sz (use:=none) hc S hcap ha hw (λ s H fp _ _=>hin s H fp) I h (λ D C s' H' m I' q hn h1 h2 h3 h4 h5=>?_) hs
 exact ⟨m,hn,λ h' sb=>⟨.ref D,H',I'.turned (t':=s'.toks) (λ b o hb e=>(sb.2 b hb).trans e) h1 h2 (.inr h3) h4 h5,rfl,q⟩⟩
theorem NI {i:Nat}{x:Str}{px:Pos}{spos:Pos}(hN:X.N.Nodup)(hi':X.N[i]? =some x)(hx:X.env.scope.names.lookup x=some .local)
  (hsw:swapsWith (.ListComp elt (⟨tg,iter,ifs,0⟩::gs) sc pos) (some (.Name x px)) spos.line X.env=pure true)
  (hc:X.calm=true)(S:gJ X sc)(hcap:Qb X.N N sc nl cap=true)(ha:∀g',gs[0]? =some g'->g'.is_async=0)(hw:PI X tg iter wi)
  (hin:∀s H fp,PG (jO X N sc s H fp yB) tg g/\gY (jO X N sc s H fp yB) ifs ti/\kz (jO X N sc s H fp yB) elt (⟨tg,iter,ifs,0⟩::gs) sc pos 0 tm)
  (hs:∀x,foldedSetIterable iter X.env x=pure x:=by intro _;rfl):PS X (.Assign [.Name x px] (.ListComp elt (⟨tg,iter,ifs,0⟩::gs) sc pos) spos) (Kz (Kq X.K wi g ti tm nl cap) (Kk i)):=by
 intro pins s σ H D I h
 rw [exec_Assign_Name_used _ _ _ _ hsw]
 refine wpAny_bind (wpAny_standAt (wpAny_bind ?_))
 show wpAny _ X.A (do let _ <- comprehension (.ListComp elt (⟨tg,iter,ifs,0⟩::gs) sc pos) sc X.env _ (newList []) false (eval iter X.env) (some (assign (.Name x px) X.env))) _ _ s
 refine wpAny_bind (wpAny_mono (Sz (use:=some (assign (.Name x px) X.env)) (Q':=λ _ s'=>SP X pins D .next s') hc S hcap ha hw (λ s H fp _ _=>hin s H fp) I h (λ D' C s' H' m I' q hn h1 h2 h3 h4 h5=>?_) hs) (λ _ s' hq=>wpAny_pure (wpAny_pure hq)) λ _ _ e=>e)
 show wpAny _ X.A (assign (.Name x px) X.env (.ref D')) _ _ _
 refine wpAny_assign_Name (Ti I' hN hi' (.inl hx) (v:=.ref D') rfl (λ s2 I2 ⟨a,sb,ea⟩=>?_) (.inr hx))
 have hCa:C≠a:=by
  rcases ea with e | e
  ·rw [e];exact h2
  ·exact λ z=>h4 x a e z.symm
 refine ⟨m,hn.sameBut sb hCa,λ h' sb'=>⟨_,H',I2.turned (t':=s2.toks) (λ b o hb e=>(sb'.2 b hb).trans e) h1 h2 (.inr h3) h4 h5,q⟩⟩
end
end L2
namespace Mi
open PySem PySem.Spec PyProof.Rows L2
inductive W where
 | non | bl (b:Bool) | int (i:Int) | str (x:Str) | tup (xs:List W) | ref (n:Nat)
 | clo (k:Nat) (xs:List W) (P:Obj->Addr->Obj->List V->Prop)
 | xc (x:Str)
inductive O where
 | lst (xs:List W) | ro (xs:List W) | dct (kvs:List (Key × W))
 | tab (q:Str) (P:Addr)
noncomputable def O.mut:O->Bool
 | .ro _=>false
 | _=>true
noncomputable abbrev Hx:=List O
noncomputable abbrev En:=List (Option W)
inductive R (α:Type) where
 | ok (a:α) (A:Hx) | exc (x:Str) (A:Hx) | bad
noncomputable def R.bind {α β:Type}(r:R α)(f:α->Hx->R β):R β:=match r with
 | .ok a A=>f a A
 | .exc x A=>.exc x A
 | .bad=>.bad
noncomputable def R.post {α:Type}(r:R α)(P:α->Hx->Prop)(E:Str->Hx->Prop):Prop:=match r with
 | .ok a A=>P a A
 | .exc x A=>E x A
 | .bad=>False
noncomputable def R.nox {α:Type}(r:R α):R α:=match r with
 | .ok a A=>.ok a A
 | .exc _ _=>.bad
 | .bad=>.bad
section
variable {α β:Type}{r:R α}{f:α->Hx->R β}{P Q:α->Hx->Prop}{P':β->Hx->Prop}{E F:Str->Hx->Prop}
theorem zJ {a:α}{A:Hx}:(R.ok a A).bind f=f a A:=rfl
theorem TZ {x:Str}{A:Hx}:(R.exc x A:R α).bind f=.exc x A:=rfl
theorem zX:(r.bind f).post P' E↔r.post (λ a A=>(f a A).post P' E) E:=by cases r<;>exact Iff.rfl
theorem qv (h:r.post P E)(hP:∀a A,P a A->Q a A)(hE:∀x A,E x A->F x A):r.post Q F:=by
 cases r with
 | ok a A=>exact hP _ _ h
 | exc x A=>exact hE _ _ h
 | bad=>exact h
end
noncomputable abbrev Ev:=En->Hx->R W
inductive C8 (K:Frag)(H:Hp)(R:List V->Prop)(v:V):Prop
 | mk (a:Addr) (vs:List V) (e:v=.ref a) (h:qp K H a vs) (r:R vs)
inductive CF (H:Hp)(P:Obj->Addr->Obj->List V->Prop)(R:List V->Prop)(v:V):Prop
 | mk (a:Addr) (ob:Obj) (u:HO) (c:Addr) (oc:Obj) (uc:HO) (vs:List V) (e:v=.ref a) (h1:H a=some (.frz ob u)) (h2:H c=some (.frz oc uc)) (p:P ob c oc vs) (r:R vs)
inductive CI (R:V->Prop)(Rs:List V->Prop)(vs:List V):Prop
 | mk (v:V) (r:List V) (e:vs=v::r) (h:R v) (t:Rs r)
mutual
noncomputable def RV (K:Frag)(φ:List Addr)(H:Hp):W->V->Prop
 | .non,v=>v=.non
 | .bl b,v=>v=.bl b
 | .int i,v=>v=.int i
 | .str x,v=>v=.str x
 | .tup ws,v=>C8 K H (zB K φ H ws) v
 | .ref n,v=>∃a,v=.ref a/\φ[n]? =some a
 | .clo _ ws P,v=>CF H P (zB K φ H ws) v
 | .xc x,v=>∃a oe u C,v=.ref a/\H a=some (.frz oe u)/\oe.cls=.ref C/\PySem.W.nsIn K mainGlobals x=some (some (.ref C))
noncomputable def zB (K:Frag)(φ:List Addr)(H:Hp):List W->List V->Prop
 | [],vs=>vs=[]
 | w::ws,vs=>CI (RV K φ H w) (zB K φ H ws) vs
end
structure Le (K:Frag)(φ:List Addr)(H:Hp)(φ':List Addr)(H':Hp):Prop where
 ex:∀(n:Nat) (a:Addr),φ[n]? =some a->φ'[n]? =some a
 tp:∀a vs,qp K H a vs->qp K H' a vs
 fr:∀a o,H a=some o->(∀n:Nat,φ[n]?≠some a)->H' a=some o
 nw:∀(n:Nat) (a:Addr),φ'[n]? =some a->φ[n]? =some a∨H a=none
 st:∀a,H' a=none->H a=none
 fz:∀a o u,H a=some (.frz o u)->H' a=some (.frz o u)
theorem Le.refl {K φ H}:Le K φ H φ H:=⟨λ _ _ h=>h,λ _ _ h=>h,λ _ _ h _=>h,λ _ _ h=>.inl h,λ _ h=>h,λ _ _ _ h=>h⟩
theorem Le.trans {K φ H φ1 H1 φ2 H2}(a:Le K φ H φ1 H1)(b:Le K φ1 H1 φ2 H2):Le K φ H φ2 H2 where
 ex:=λ n x h=>b.ex n x (a.ex n x h)
 tp:=λ n x h=>b.tp n x (a.tp n x h)
 fr:=λ c o h n=>b.fr c o (a.fr c o h n) λ k e=>by
  rcases a.nw k c e with e | e
  ·exact n k e
  ·rw [h] at e;cases e
 nw:=λ n c e=>by
  rcases b.nw n c e with e | e
  ·exact a.nw n c e
  ·exact .inr (a.st c e)
 st:=λ c e=>a.st c (b.st c e)
 fz:=λ c o u h=>b.fz c o u (a.fz c o u h)
theorem Le.off {K φ H φ' H'}(l:Le K φ H φ' H'){D:Addr}{o:HO}(h:H D=some o)(n:∀k:Nat,φ[k]?≠some D):H' D=some o/\∀k:Nat,φ'[k]?≠some D:=
 ⟨l.fr D o h n,λ k e=>by
  rcases l.nw k D e with e | e
  ·exact n k e
  ·rw [h] at e;cases e⟩
section
variable {K:Frag}{φ φ':List Addr}{H H':Hp}
structure g9 (K:Frag)(φ:List Addr)(H:Hp)(φ':List Addr)(H':Hp):Prop where
 ex:∀(n:Nat) (a:Addr),φ[n]? =some a->φ'[n]? =some a
 tp:∀a vs,qp K H a vs->qp K H' a vs
 fz:∀a o u,H a=some (.frz o u)->H' a=some (.frz o u)
mutual
theorem RV.monoW (l:g9 K φ H φ' H'):∀{w:W} {v:V},RV K φ H w v->RV K φ' H' w v
 | .non,_,h=>h
 | .bl _,_,h=>h
 | .int _,_,h=>h
 | .str _,_,h=>h
 | .tup ws,_,⟨a,vs,e,t,r⟩=>⟨a,vs,e,l.tp _ _ t,zB.monoW l r⟩
 | .ref n,_,⟨a,e,f⟩=>⟨a,e,l.ex _ _ f⟩
 | .clo _ ws P,_,⟨a,ob,u,c,oc,uc,vs,e,h1,h2,h3,r⟩=>⟨a,ob,u,c,oc,uc,vs,e,l.fz _ _ _ h1,l.fz _ _ _ h2,h3,zB.monoW l r⟩
 | .xc x,_,⟨a,oe,u,C,e,h1,h2⟩=>⟨a,oe,u,C,e,l.fz _ _ _ h1,h2⟩
theorem zB.monoW (l:g9 K φ H φ' H'):∀{ws:List W} {vs:List V},zB K φ H ws vs->zB K φ' H' ws vs
 | [],_,h=>h
 | w::ws,_,⟨v,r,e,h,t⟩=>⟨v,r,e,RV.monoW l h,zB.monoW l t⟩
end
theorem RV.mono {w:W}{v:V}(h:RV K φ H w v)(l:Le K φ H φ' H'):RV K φ' H' w v:=RV.monoW ⟨l.ex,l.tp,l.fz⟩ h
theorem zB.mono {w:List W}{v:List V}(h:zB K φ H w v)(l:Le K φ H φ' H'):zB K φ' H' w v:=zB.monoW ⟨l.ex,l.tp,l.fz⟩ h
structure yg (K:Frag)(D:Addr)(φ:List Addr)(H:Hp)(φ':List Addr)(H':Hp):Prop where
 ex:∀(n:Nat) (a:Addr),φ[n]? =some a->φ'[n]? =some a
 tp:∀a vs,qp K H a vs->qp K H' a vs
 fr:∀a o,a≠D->H a=some o->(∀n:Nat,φ[n]?≠some a)->H' a=some o
 nw:∀(n:Nat) (a:Addr),φ'[n]? =some a->φ[n]? =some a∨H a=none
 st:∀a,H' a=none->H a=none
 fz:∀a o u,H a=some (.frz o u)->H' a=some (.frz o u)
theorem yg.refl {D}:yg K D φ H φ H:=⟨λ _ _ h=>h,λ _ _ h=>h,λ _ _ _ h _=>h,λ _ _ h=>.inl h,λ _ h=>h,λ _ _ _ h=>h⟩
theorem Le.toD {D}(l:Le K φ H φ' H'):yg K D φ H φ' H':=⟨l.ex,l.tp,λ a o _ h n=>l.fr a o h n,l.nw,l.st,l.fz⟩
theorem yg.trans {D φ1 H1 φ2 H2}(a:yg K D φ H φ1 H1)(b:yg K D φ1 H1 φ2 H2):yg K D φ H φ2 H2 where
 ex:=λ n x h=>b.ex n x (a.ex n x h)
 tp:=λ n x h=>b.tp n x (a.tp n x h)
 fr:=λ c o ne h n=>b.fr c o ne (a.fr c o ne h n) λ k e=>by
  rcases a.nw k c e with e | e
  ·exact n k e
  ·rw [h] at e;cases e
 nw:=λ n c e=>by
  rcases b.nw n c e with e | e
  ·exact a.nw n c e
  ·exact .inr (a.st c e)
 st:=λ c e=>a.st c (b.st c e)
 fz:=λ c o u h=>b.fz c o u (a.fz c o u h)
theorem RV.monoD {D}{w:W}{v:V}(h:RV K φ H w v)(l:yg K D φ H φ' H'):RV K φ' H' w v:=RV.monoW ⟨l.ex,l.tp,l.fz⟩ h
theorem zB.monoD {D}{w:List W}{v:List V}(h:zB K φ H w v)(l:yg K D φ H φ' H'):zB K φ' H' w v:=zB.monoW ⟨l.ex,l.tp,l.fz⟩ h
theorem zB.length:∀{ws:List W} {vs:List V},zB K φ H ws vs->ws.length=vs.length
 | [],_,h=>by cases h;rfl
 | w::ws,_,⟨v,r,e,_,t⟩=>by subst e;simp [zB.length t]
theorem zB.get:∀{ws:List W} {vs:List V} {i:Nat} {w:W},zB K φ H ws vs->ws[i]? =some w->∃v,vs[i]? =some v/\RV K φ H w v
 | [],_,_,_,_,e=>by simp at e
 | w::ws,_,0,_,⟨v,r,e,h,t⟩,q=>by subst e;simp at q;subst q;exact ⟨v,by simp,h⟩
 | w::ws,_,i+1,x,⟨v,r,e,h,t⟩,q=>by
  subst e
  obtain ⟨y,h1,h2⟩:=zB.get (i:=i) (w:=x) t (by simpa using q)
  exact ⟨y,by simpa using h1,h2⟩
theorem zB.append:∀{ws us:List W} {vs xs:List V},zB K φ H ws vs->zB K φ H us xs->zB K φ H (ws++us) (vs++xs)
 | [],_,_,_,h,t=>by cases h;exact t
 | w::ws,_,_,_,⟨v,r,e,h,t⟩,t2=>by subst e;exact ⟨v,r++_,rfl,h,zB.append t t2⟩
theorem zB.one {w:W}{v:V}(h:RV K φ H w v):zB K φ H [w] [v]:=⟨v,[],rfl,h,rfl⟩
theorem zB.nil:zB K φ H [] []:=rfl
theorem zB.cons {w:W}{v:V}{ws:List W}{vs:List V}(h:RV K φ H w v)(t:zB K φ H ws vs):zB K φ H (w::ws) (v::vs):=⟨v,vs,rfl,h,t⟩
theorem zB.set {w:W}{v:V}(q:RV K φ H w v):∀{ws:List W} {vs:List V} (i:Nat),zB K φ H ws vs->zB K φ H (ws.set i w) (vs.set i v)
 | [],_,_,h=>by cases h;exact rfl
 | _::_,_,0,⟨v',r,e,h,t⟩=>by subst e;exact ⟨v,r,rfl,q,t⟩
 | _::_,_,i+1,⟨v',r,e,h,t⟩=>by subst e;exact ⟨v',_,rfl,h,zB.set q i t⟩
theorem zB.drop:∀{ws:List W} {vs:List V} (n:Nat),zB K φ H ws vs->zB K φ H (ws.drop n) (vs.drop n)
 | [],_,n,h=>by cases h;rw [List.drop_nil,List.drop_nil];exact zB.nil
 | _::_,_,0,h=>by simpa using h
 | _::_,_,n+1,⟨v',r,e,h,t⟩=>by subst e;simpa using zB.drop n t
theorem zB.take:∀{ws:List W} {vs:List V} (n:Nat),zB K φ H ws vs->zB K φ H (ws.take n) (vs.take n)
 | [],_,n,h=>by cases h;rw [List.take_nil,List.take_nil];exact zB.nil
 | _::_,_,0,h=>by rw [List.take_zero,List.take_zero];exact zB.nil
 | _::_,_,n+1,⟨v',r,e,h,t⟩=>by subst e;exact ⟨v',_,rfl,h,zB.take n t⟩
theorem zB.erase:∀{ws:List W} {vs:List V} (n:Nat),zB K φ H ws vs->zB K φ H (ws.eraseIdx n) (vs.eraseIdx n)
 | [],_,n,h=>by cases h;rw [List.eraseIdx_nil,List.eraseIdx_nil];exact zB.nil
 | _::_,_,0,⟨v',r,e,h,t⟩=>by subst e;simpa using t
 | _::_,_,n+1,⟨v',r,e,h,t⟩=>by subst e;exact ⟨v',_,rfl,h,zB.erase n t⟩
theorem zB.ints:∀{ns:List Int} {vs:List V},zB K φ H (ns.map W.int) vs↔vs=ns.map V.int
 | [],vs=>Iff.rfl
 | n::ns,vs=>by
  constructor
  ·rintro ⟨v,r,e,h,t⟩
   rw [e,(show v=V.int n from h),zB.ints.mp t];rfl
  ·intro e
   exact ⟨V.int n,ns.map V.int,e,rfl,zB.ints.mpr rfl⟩
noncomputable def Q0 (K:Frag)(H:Hp)(a:Addr)(xs:List V):Prop:=
 (∃ob,H a=some (.frz ob (.lst xs)))∨
  ∃(o:Obj) (its:Array Value) (n:Nat),K.lookup a=some o/\o.cls=.type "list" /\ o.dict=none/\o.data=.seq its n/\its.size<=sizeLine/\Vals xs its.toList
theorem Q0.sq {a:Addr}{xs:List V}(h:Q0 K H a xs):qS K H a xs:=by
 rcases h with h | h
 ·exact .inl (.inr h)
 ·exact .inr h
inductive TabAt (H:Hp)(q:Str)(cv:Value):Prop
 | mk (c:Addr) (oc:Obj) (u:HO) (vs:Array Value) (t:Tok) (e:cv=.ref c) (h:H c=some (.frz oc u)) (d:oc.data=.fields vs/\vs[1]? =some (.str q t))
noncomputable def JM (H:Hp)(q:Str)(ps:Array Value):Prop:=TriplesOk ps.toList/\∀pos cv,codeAmong pos ps.toList=some cv->TabAt H q cv
theorem JM.mono {q:Str}{ps:Array Value}(h:JM H q ps)(l:∀a o u,H a=some (.frz o u)->H' a=some (.frz o u)):JM H' q ps:=
 ⟨h.1,λ pos cv e=>by obtain ⟨c,oc,u,vs,t,h1,h2,h3⟩:=h.2 pos cv e;exact ⟨c,oc,u,vs,t,h1,l _ _ _ h2,h3⟩⟩
noncomputable def OR (K:Frag)(φ:List Addr)(H:Hp)(a:Addr):O->Prop
 | .lst ws=>∃vs,H a=some (.lst vs)/\zB K φ H ws vs
 | .ro ws=>∃vs,Q0 K H a vs/\zB K φ H ws vs
 | .dct kvs=>∃us,H a=some (.dK us)/\us.map (·.1)=kvs.map (·.1)/\zB K φ H (kvs.map (·.2)) (us.map (·.2))
 | .tab q P=>a=P/\∃ps,H a=some (.tbl ps)/\JM H q ps
structure zF (K:Frag)(φ:List Addr)(A:Hx)(H:Hp):Prop where
 len:φ.length=A.length
 inj:∀(i j:Nat) (a:Addr) (o o':O),φ[i]? =some a->φ[j]? =some a->A[i]? =some o->A[j]? =some o'->o.mut=true->o'.mut=true->i=j
 ob:∀(n:Nat) (o:O),A[n]? =some o->∃a,φ[n]? =some a/\OR K φ H a o
variable {A A':Hx}
theorem OR.there {a:Addr}{o:O}(h:OR K φ H a o)(m:o.mut=true):∃u,H a=some u/\(∀xs,u≠.tup xs)/\(∀ob v,u≠.frz ob v):=by
 cases o with
 | lst ws=>obtain ⟨vs,e,_⟩:=h;exact ⟨_,e,λ _ z=>(by cases z),λ _ _ z=>(by cases z)⟩
 | ro ws=>cases m
 | dct kvs=>obtain ⟨vs,e,_⟩:=h;exact ⟨_,e,λ _ z=>(by cases z),λ _ _ z=>(by cases z)⟩
 | tab q P=>obtain ⟨_,vs,e,_⟩:=h;exact ⟨_,e,λ _ z=>(by cases z),λ _ _ z=>(by cases z)⟩
theorem Xv {a b:Addr}{o:HO}{vs:List V}(h:qp K H a vs)(n:∀xs,H b≠some (.tup xs))(nf:∀ob u,H b≠some (.frz ob u)):qp K (upd H b o) a vs:=by
 rcases h with (h | ⟨ob,h⟩) | h
 ·exact .inl (.inl (by rw [qc];exact h;intro e;subst e;exact n _ h))
 ·exact .inl (.inr ⟨ob,by rw [qc];exact h;intro e;subst e;exact nf _ _ h⟩)
 ·exact .inr h
theorem Le.upd {b:Addr}{o:HO}{k:Nat}(hb:φ[k]? =some b)(n:∀xs,H b≠some (.tup xs))(nf:∀ob u,H b≠some (.frz ob u)):Le K φ H φ (upd H b o) where
 ex:=λ _ _ h=>h
 tp:=λ _ _ h=>Xv h n nf
 fr:=λ a u h z=>by
  rw [qc];exact h
  intro e;subst e;exact z k hb
 nw:=λ _ _ h=>.inl h
 st:=λ a h=>by
  by_cases e:a=b
  ·subst e;rw [jw] at h;cases h
  ·rw [qc e] at h;exact h
 fz:=λ a ob u h=>by
  rw [qc];exact h
  intro e;subst e;exact nf _ _ h
theorem Le.new {p:Addr}{o:HO}(hp:H p=none):Le K φ H φ (L2.upd H p o) where
 ex:=λ _ _ h=>h
 tp:=λ _ _ h=>Xv h (λ xs z=>by rw [hp] at z;cases z) (λ _ _ z=>by rw [hp] at z;cases z)
 fr:=λ a u h z=>by
  rw [qc];exact h
  intro e;subst e;rw [hp] at h;cases h
 nw:=λ _ _ h=>.inl h
 st:=λ a h=>by
  by_cases e:a=p
  ·subst e;rw [jw] at h;cases h
  ·rw [qc e] at h;exact h
 fz:=λ a ob u h=>by
  rw [qc];exact h
  intro e;subst e;rw [hp] at h;cases h
theorem Le.alloc {p:Addr}{o:HO}(hp:H p=none):Le K φ H (φ++[p]) (L2.upd H p o) where
 ex:=λ n a h=>by
  have:=(List.getElem?_eq_some_iff.mp h).1
  rw [List.getElem?_append_left this];exact h
 tp:=(Le.new (φ:=φ) hp).tp
 fr:=(Le.new (K:=K) (φ:=φ) hp).fr
 nw:=λ n a h=>by
  by_cases hn:n < φ.length
  ·rw [List.getElem?_append_left hn] at h;exact .inl h
  ·rw [List.getElem?_append_right (by omega)] at h
   have e:a=p:=by
    have:=List.mem_of_getElem? h
    simpa using this
   subst e;exact .inr hp
 st:=(Le.new (K:=K) (φ:=φ) hp).st
 fz:=(Le.new (K:=K) (φ:=φ) hp).fz
theorem Le.ofD {D:Addr}{o:HO}(hD:H D=none)(l:yg K D φ (L2.upd H D o) φ' H'):Le K φ H φ' H' where
 ex:=l.ex
 tp:=λ a vs h=>l.tp a vs ((Le.new (K:=K) (φ:=φ) hD).tp a vs h)
 fr:=λ a u h n=>by
  have ne:a≠D:=by rintro rfl;rw [hD] at h;cases h
  exact l.fr a u ne (by rw [qc ne];exact h) n
 nw:=λ n a e=>by
  rcases l.nw n a e with e | e
  ·exact .inl e
  ·by_cases h:a=D
   ·subst h;rw [jw] at e;cases e
   ·rw [qc h] at e;exact .inr e
 st:=λ a e=>by
  have e':=l.st a e
  by_cases h:a=D
  ·subst h;rw [jw] at e';cases e'
  ·rw [qc h] at e';exact e'
 fz:=λ a ob u h=>l.fz a ob u (by rw [qc];exact h;rintro rfl;rw [hD] at h;cases h)
theorem yg.upd {D:Addr}{o:HO}{xs:List V}(hD:H D=some (.lst xs)):yg K D φ H φ (L2.upd H D o) where
 ex:=λ _ _ h=>h
 tp:=λ a vs h=>Xv h (λ xs z=>by rw [hD] at z;cases z) (λ _ _ z=>by rw [hD] at z;cases z)
 fr:=λ a u ne h n=>by rw [qc ne];exact h
 nw:=λ _ _ h=>.inl h
 st:=λ a e=>by
  by_cases h:a=D
  ·subst h;rw [jw] at e;cases e
  ·rw [qc h] at e;exact e
 fz:=λ a ob u h=>by
  rw [qc];exact h
  intro e;subst e;rw [hD] at h;cases h
theorem OR.keep {a:Addr}{o:O}(h:OR K φ H a o)(l:Le K φ H φ' H')(e:∀u,H a=some u->H' a=some u):OR K φ' H' a o:=by
 cases o with
 | lst ws=>obtain ⟨vs,q,r⟩:=h;exact ⟨vs,e _ q,r.mono l⟩
 | dct kvs=>obtain ⟨vs,q,k,r⟩:=h;exact ⟨vs,e _ q,k,r.mono l⟩
 | tab q P=>obtain ⟨k,ps,q,r⟩:=h;exact ⟨k,ps,e _ q,r.mono l.fz⟩
 | ro ws=>
  obtain ⟨vs,q,r⟩:=h
  refine ⟨vs,?_,r.mono l⟩
  rcases q with ⟨ob,q⟩ | q
  ·exact .inl ⟨ob,e _ q⟩
  ·exact .inr q
theorem zF.alloc {p:Addr}{u:HO}{o:O}(S:zF K φ A H)(hp:H p=none)(new:OR K (φ++[p]) (L2.upd H p u) p o):Le K φ H (φ++[p]) (L2.upd H p u)/\zF K (φ++[p]) (A++[o]) (L2.upd H p u):=by
 have l:Le K φ H (φ++[p]) (L2.upd H p u):=Le.alloc hp
 have old:∀(i:Nat) a,(φ++[p])[i]? =some a->i<A.length->φ[i]? =some a:=λ i a e hi=>by
  rw [List.getElem?_append_left (by rw [S.len];exact hi)] at e;exact e
 refine ⟨l,by simp [S.len],λ i j a o1 o2 h1 h2 h3 h4 m1 m2=>?_,λ n o' e=>?_⟩
 ·by_cases hi:i<A.length
  ·by_cases hj:j<A.length
   ·rw [List.getElem?_append_left hi] at h3
    rw [List.getElem?_append_left hj] at h4
    exact S.inj i j a o1 o2 (old i a h1 hi) (old j a h2 hj) h3 h4 m1 m2
   ·exfalso
    rw [List.getElem?_append_left hi] at h3
    have hj':j=A.length:=by have:=(List.getElem?_eq_some_iff.mp h4).1;simp at this;omega
    subst hj'
    rw [List.getElem?_append_right (by rw [S.len];exact Nat.le_refl _),S.len] at h2
    simp at h2
    obtain ⟨a',e1,q⟩:=S.ob i o1 h3
    rw [old i a h1 hi] at e1;cases e1
    obtain ⟨z,hz,_⟩:=q.there m1
    rw [<- h2,hp] at hz;cases hz
  ·have hi':i=A.length:=by have:=(List.getElem?_eq_some_iff.mp h3).1;simp at this;omega
   by_cases hj:j<A.length
   ·exfalso
    rw [List.getElem?_append_left hj] at h4
    subst hi'
    rw [List.getElem?_append_right (by rw [S.len];exact Nat.le_refl _),S.len] at h1
    simp at h1
    obtain ⟨a',e1,q⟩:=S.ob j o2 h4
    rw [old j a h2 hj] at e1;cases e1
    obtain ⟨z,hz,_⟩:=q.there m2
    rw [<- h1,hp] at hz;cases hz
   ·have:=(List.getElem?_eq_some_iff.mp h4).1;simp at this;omega
 ·by_cases hn:n<A.length
  ·rw [List.getElem?_append_left hn] at e
   obtain ⟨a,e1,q⟩:=S.ob n o' e
   refine ⟨a,l.ex _ _ e1,q.keep l λ z hz=>?_⟩
   rw [qc];exact hz
   intro e2;subst e2;rw [hp] at hz;cases hz
  ·have hn':n=A.length:=by have:=(List.getElem?_eq_some_iff.mp e).1;simp at this;omega
   subst hn'
   rw [List.getElem?_append_right (Nat.le_refl _)] at e
   simp at e
   subst e
   exact ⟨p,by rw [List.getElem?_append_right (by rw [S.len];exact Nat.le_refl _),S.len];simp,new⟩
theorem zF.write {n:Nat}{p:Addr}{u:HO}{o o':O}(S:zF K φ A H)(hn:A[n]? =some o)(m:o.mut=true)(m':o'.mut=true)(hp:φ[n]? =some p)(new:OR K φ (L2.upd H p u) p o'):
  Le K φ H φ (L2.upd H p u)/\zF K φ (A.set n o') (L2.upd H p u):=by
 obtain ⟨p',e,q⟩:=S.ob n o hn
 rw [hp] at e;cases e
 obtain ⟨z,hz,nt,nf⟩:=q.there m
 have l:Le K φ H φ (L2.upd H p u):=Le.upd hp (λ xs e=>by rw [hz] at e;exact nt xs (Option.some.inj e)) λ ob v e=>by rw [hz] at e;exact nf ob v (Option.some.inj e)
 have mt:∀(i:Nat) (w:O),(A.set n o')[i]? =some w->w.mut=true->∃w',A[i]? =some w'/\w'.mut=true:=λ i w e mw=>by
  by_cases hi:i=n
  ·subst hi;exact ⟨o,hn,m⟩
  ·rw [List.getElem?_set_ne (Ne.symm hi)] at e;exact ⟨w,e,mw⟩
 refine ⟨l,by simp [S.len],λ i j a o1 o2 h1 h2 h3 h4 m1 m2=>?_,λ i w e=>?_⟩
 ·obtain ⟨w1,e1,k1⟩:=mt i o1 h3 m1
  obtain ⟨w2,e2,k2⟩:=mt j o2 h4 m2
  exact S.inj i j a w1 w2 h1 h2 e1 e2 k1 k2
 ·by_cases hi:i=n
  ·subst hi
   have:i<A.length:=(List.getElem?_eq_some_iff.mp hn).1
   rw [List.getElem?_set_self this] at e;cases e
   exact ⟨p,hp,new⟩
  ·rw [List.getElem?_set_ne (Ne.symm hi)] at e
   obtain ⟨a,e1,r⟩:=S.ob i w e
   refine ⟨a,e1,?_⟩
   by_cases hm:w.mut=true
   ·have ne:a≠p:=λ z=>hi (S.inj i n a w o e1 (by rw [z];exact hp) e hn hm m)
    exact r.keep l λ z hz=>by rw [qc ne];exact hz
   ·cases w with
    | lst _=>exact absurd rfl hm
    | dct _=>exact absurd rfl hm
    | tab _ _=>exact absurd rfl hm
    | ro ws=>
     obtain ⟨vs,r1,r2⟩:=r
     refine ⟨vs,?_,r2.mono l⟩
     rcases r1 with ⟨ob,r1⟩ | r1
     ·refine .inl ⟨ob,?_⟩
      rw [qc];exact r1
      intro z;subst z;rw [hz] at r1;exact nf _ _ (Option.some.inj r1)
     ·exact .inr r1
theorem zF.lay {p:Addr}{u:HO}(S:zF K φ A H)(hp:H p=none):zF K φ A (L2.upd H p u):=
 ⟨S.len,S.inj,λ n o e=>by
  obtain ⟨a,e1,q⟩:=S.ob n o e
  refine ⟨a,e1,q.keep (Le.new hp) λ z hz=>?_⟩
  rw [qc];exact hz
  intro e2;subst e2;rw [hp] at hz;cases hz⟩
theorem zF.off {D:Addr}{o:HO}{xs:List V}(S:zF K φ A H)(hD:H D=some (.lst xs))(n:∀k:Nat,φ[k]?≠some D):zF K φ A (L2.upd H D o):=
 ⟨S.len,S.inj,λ k u e=>by
  obtain ⟨a,e1,q⟩:=S.ob k u e
  have ne:a≠D:=λ z=>n k (by rw [<- z];exact e1)
  have l:yg K D φ H φ (L2.upd H D o):=yg.upd hD
  refine ⟨a,e1,?_⟩
  cases u with
  | lst ws=>obtain ⟨vs,q,r⟩:=q;exact ⟨vs,by rw [qc ne];exact q,r.monoD l⟩
  | dct kvs=>obtain ⟨vs,q,k,r⟩:=q;exact ⟨vs,by rw [qc ne];exact q,k,r.monoD l⟩
  | tab _ _=>obtain ⟨k,vs,q,r⟩:=q;exact ⟨k,vs,by rw [qc ne];exact q,r.mono l.fz⟩
  | ro ws=>
   obtain ⟨vs,q,r⟩:=q
   refine ⟨vs,?_,r.monoD l⟩
   rcases q with ⟨ob,q⟩ | q
   ·exact .inl ⟨ob,by rw [qc ne];exact q⟩
   ·exact .inr q⟩
theorem zF.notin {D:Addr}(S:zF K φ A H)(hD:H D=none)(hK:K.lookup D=none):∀k:Nat,φ[k]?≠some D:=λ k e=>by
 have hk:k<A.length:=by rw [<- S.len];exact (List.getElem?_eq_some_iff.mp e).1
 obtain ⟨a,e1,q⟩:=S.ob k A[k] (by simp [hk])
 rw [e] at e1;cases e1
 cases ho:A[k] with
 | lst ws=>rw [ho] at q;obtain ⟨vs,z,_⟩:=q;rw [hD] at z;cases z
 | dct ws=>rw [ho] at q;obtain ⟨vs,z,_⟩:=q;rw [hD] at z;cases z
 | tab _ _=>rw [ho] at q;obtain ⟨_,vs,z,_⟩:=q;rw [hD] at z;cases z
 | ro ws=>
  rw [ho] at q
  obtain ⟨vs,z,_⟩:=q
  rcases z with ⟨ob,z⟩ | ⟨o,its,n,z,_⟩
  ·rw [hD] at z;cases z
  ·rw [hK] at z;cases z
theorem zF.QP {D:Addr}{u:HO}{o:O}(S:zF K φ A H)(hD:H D=some u)(n:∀k:Nat,φ[k]?≠some D)(new:OR K (φ++[D]) H D o):zF K (φ++[D]) (A++[o]) H:=by
 have l:g9 K φ H (φ++[D]) H:=⟨λ n a h=>by
  have:=(List.getElem?_eq_some_iff.mp h).1
  rw [List.getElem?_append_left this];exact h,λ _ _ h=>h,λ _ _ _ h=>h⟩
 have old:∀(i:Nat) a,(φ++[D])[i]? =some a->i<A.length->φ[i]? =some a:=λ i a e hi=>by
  rw [List.getElem?_append_left (by rw [S.len];exact hi)] at e;exact e
 have last:∀a,(φ++[D])[A.length]? =some a->a=D:=λ a e=>by
  rw [List.getElem?_append_right (by rw [S.len];exact Nat.le_refl _),S.len] at e
  simpa using e.symm
 refine ⟨by simp [S.len],λ i j a o1 o2 h1 h2 h3 h4 m1 m2=>?_,λ k o' e=>?_⟩
 ·by_cases hi:i<A.length
  ·by_cases hj:j<A.length
   ·rw [List.getElem?_append_left hi] at h3
    rw [List.getElem?_append_left hj] at h4
    exact S.inj i j a o1 o2 (old i a h1 hi) (old j a h2 hj) h3 h4 m1 m2
   ·exfalso
    have hj':j=A.length:=by have:=(List.getElem?_eq_some_iff.mp h4).1;simp at this;omega
    subst hj'
    exact n i (by rw [<- last a h2];exact old i a h1 hi)
  ·have hi':i=A.length:=by have:=(List.getElem?_eq_some_iff.mp h3).1;simp at this;omega
   by_cases hj:j<A.length
   ·exfalso
    subst hi'
    exact n j (by rw [<- last a h1];exact old j a h2 hj)
   ·have:=(List.getElem?_eq_some_iff.mp h4).1;simp at this;omega
 ·by_cases hn:k<A.length
  ·rw [List.getElem?_append_left hn] at e
   obtain ⟨a,e1,q⟩:=S.ob k o' e
   refine ⟨a,l.ex _ _ e1,?_⟩
   cases o' with
   | lst ws=>obtain ⟨vs,z,r⟩:=q;exact ⟨vs,z,r.monoW l⟩
   | dct ws=>obtain ⟨vs,z,z2,r⟩:=q;exact ⟨vs,z,z2,r.monoW l⟩
   | tab _ _=>exact q
   | ro ws=>obtain ⟨vs,z,r⟩:=q;exact ⟨vs,z,r.monoW l⟩
  ·have hn':k=A.length:=by have:=(List.getElem?_eq_some_iff.mp e).1;simp at this;omega
   subst hn'
   rw [List.getElem?_append_right (Nat.le_refl _)] at e
   simp at e
   subst e
   exact ⟨D,by rw [List.getElem?_append_right (by rw [S.len];exact Nat.le_refl _),S.len];simp,new⟩
theorem Le.QP {D:Addr}{φ0:List Addr}{H0:Hp}(l:Le K φ0 H0 φ H)(h0:H0 D=none):Le K φ0 H0 (φ++[D]) H where
 ex:=λ n a h=>by
  have h':=l.ex n a h
  have:=(List.getElem?_eq_some_iff.mp h').1
  rw [List.getElem?_append_left this];exact h'
 tp:=l.tp
 fr:=l.fr
 nw:=λ n a e=>by
  by_cases hn:n < φ.length
  ·rw [List.getElem?_append_left hn] at e;exact l.nw n a e
  ·rw [List.getElem?_append_right (by omega)] at e
   have e':a=D:=by
    have:=List.mem_of_getElem? e
    simpa using this
   subst e';exact .inr h0
 st:=l.st
 fz:=l.fz
end
noncomputable abbrev St:=L2.St
noncomputable abbrev XR:=Str->Hp->Prop
noncomputable def PB (K:Frag)(φ:List Addr)(H:Hp)(Q:VK):W->Hx->Prop:=λ w A=>∀φ' H' v,Le K φ H φ' H'->zF K φ' A H'->RV K φ' H' w v->Q v H'
noncomputable def C9 (K:Frag)(φ:List Addr)(H:Hp)(Q:List V->Hp->Prop):List W->Hx->Prop:=λ w A=>∀φ' H' v,Le K φ H φ' H'->zF K φ' A H'->zB K φ' H' w v->Q v H'
noncomputable def EB (K:Frag)(φ:List Addr)(H:Hp)(xr:XR):Str->Hx->Prop:=λ x A=>∀φ' H',Le K φ H φ' H'->zF K φ' A H'->xr x H'
structure RE (K:Frag)(φ:List Addr)(H:Hp)(ρ:En)(σ:St):Prop where
 len:σ.length=ρ.length
 get:∀(i:Nat) (w:W),ρ[i]? =some (some w)->∃v,σ[i]? =some (some v)/\RV K φ H w v
section
variable {K:Frag}{φ φ1 φ':List Addr}{H H1 H':Hp}{A A1:Hx}{ρ:En}{σ:St}{xr:XR}
theorem RE.mono (r:RE K φ H ρ σ)(l:Le K φ H φ' H'):RE K φ' H' ρ σ:=⟨r.len,λ i w e=>let ⟨v,h1,h2⟩:=r.get i w e;⟨v,h1,h2.mono l⟩⟩
theorem PB.mono {Q:VK}{w:W}(h:PB K φ H Q w A)(l:Le K φ H φ1 H1):PB K φ1 H1 Q w A:=λ φ' H' v l'=>h φ' H' v (l.trans l')
theorem EB.mono {x:Str}(h:EB K φ H xr x A)(l:Le K φ H φ1 H1):EB K φ1 H1 xr x A:=λ φ' H' l'=>h φ' H' (l.trans l')
theorem RE.set {i:Nat}{w:W}{v:V}(r:RE K φ H ρ σ)(q:RV K φ H w v):RE K φ H (ρ.set i (some w)) (σ.set i (some v)):=
 ⟨by simp [r.len],λ j u e=>by
  by_cases h:i=j
  ·subst h
   have hi:i < ρ.length:=by
    have:=(List.getElem?_eq_some_iff.mp e).1
    simpa using this
   rw [List.getElem?_set_self hi] at e
   cases e
   exact ⟨v,by rw [List.getElem?_set_self (by rw [r.len];exact hi)],q⟩
  ·rw [List.getElem?_set_ne h] at e
   obtain ⟨x,h1,h2⟩:=r.get j u e
   exact ⟨x,by rw [List.getElem?_set_ne h];exact h1,h2⟩⟩
end
inductive MM (K:Frag)(xr:XR)(m:Ev)(σ:St)(H:Hp)(Q:VK):Prop
 | mk (φ:List Addr) (A:Hx) (ρ:En) (S:zF K φ A H) (re:RE K φ H ρ σ) (h:(m ρ A).post (PB K φ H Q) (EB K φ H xr))
noncomputable def tM (K:Frag)(xr:XR)(m:Ev):TE:=λ σ H Q=>MM K xr m σ H Q
inductive MT (K:Frag)(xr:XR)(m:Ev)(σ:St)(H:Hp)(Q:Bool->Hp->Prop):Prop
 | mk (φ:List Addr) (A:Hx) (ρ:En) (S:zF K φ A H) (re:RE K φ H ρ σ) (h:(m ρ A).post (λ w A'=>∃b,w=.bl b/\∀φ' H',Le K φ H φ' H'->zF K φ' A' H'->Q b H') (EB K φ H xr))
noncomputable def tT (K:Frag)(xr:XR)(m:Ev):TT:=λ σ H Q=>MT K xr m σ H Q
noncomputable abbrev Ea:=En->Hx->R (List W)
inductive MA (K:Frag)(xr:XR)(m:Ea)(σ:St)(H:Hp)(Q:List V->Hp->Prop):Prop
 | mk (φ:List Addr) (A:Hx) (ρ:En) (S:zF K φ A H) (re:RE K φ H ρ σ) (h:(m ρ A).post (C9 K φ H Q) (EB K φ H xr))
noncomputable def K3 (K:Frag)(xr:XR)(m:Ea):TA:=λ σ H Q=>MA K xr m σ H Q
noncomputable def SE (X:Cx)(xr:XR)(e:Expr)(m:Ev):Prop:=PE X e (tM X.K xr m)
noncomputable def ST (X:Cx)(xr:XR)(e:Expr)(m:Ev):Prop:=PT X e (tT X.K xr m)
noncomputable def SW (X:Cx)(xr:XR)(e:Expr)(m:Ev):Prop:=PW X e (tT X.K xr m)
noncomputable def SA (X:Cx)(xr:XR)(es:List Expr)(m:Ea):Prop:=PA X es (K3 X.K xr m)
section
variable {X:Cx}{xr:XR}{e a b:Expr}{es:List Expr}{m ma mb mc:Ev}{pos:Pos}
theorem PE.imp {t t':TE}(h:PE X e t)(i:∀σ H Q,t' σ H Q->t σ H Q):PE X e t':=λ pins s σ H Q I hw=>h pins s σ H Q I (i σ H Q hw)
theorem PT.imp {t t':TT}(h:PT X e t)(i:∀σ H Q,t' σ H Q->t σ H Q):PT X e t':=λ pins s σ H Q I hw=>h pins s σ H Q I (i σ H Q hw)
theorem PW.imp {t t':TT}(h:PW X e t)(i:∀σ H Q,t' σ H Q->t σ H Q):PW X e t':=λ wh pins s σ H Q I hw=>h wh pins s σ H Q I (i σ H Q hw)
theorem PA.imp {t t':TA}(h:PA X es t)(i:∀σ H Q,t' σ H Q->t σ H Q):PA X es t':=λ p pins s σ H Q I hw=>h p pins s σ H Q I (i σ H Q hw)
theorem tM.go {K:Frag}{φ:List Addr}{A:Hx}{H:Hp}{ρ:En}{σ:St}{Q:VK}{G:W->Hx->Prop}(S:zF K φ A H)(r:RE K φ H ρ σ)(h:(m ρ A).post G (EB K φ H xr))
  (k:∀w A1 φ1 H1 v,G w A1->Le K φ H φ1 H1->zF K φ1 A1 H1->RV K φ1 H1 w v->Q v H1):tM K xr m σ H Q:=
 ⟨φ,A,ρ,S,r,qv h (λ w A1 g φ1 H1 v l s q=>k w A1 φ1 H1 v g l s q) λ _ _ z=>z⟩
theorem K3.go {K:Frag}{φ:List Addr}{A:Hx}{H:Hp}{ρ:En}{σ:St}{m:Ea}{Q:List V->Hp->Prop}{G:List W->Hx->Prop}(S:zF K φ A H)(r:RE K φ H ρ σ)(h:(m ρ A).post G (EB K φ H xr))
  (k:∀w A1 φ1 H1 v,G w A1->Le K φ H φ1 H1->zF K φ1 A1 H1->zB K φ1 H1 w v->Q v H1):K3 K xr m σ H Q:=
 ⟨φ,A,ρ,S,r,qv h (λ w A1 g φ1 H1 v l s q=>k w A1 φ1 H1 v g l s q) λ _ _ z=>z⟩
theorem tT.go {K:Frag}{φ:List Addr}{A:Hx}{H:Hp}{ρ:En}{σ:St}{Q:Bool->Hp->Prop}{G:W->Hx->Prop}(S:zF K φ A H)(r:RE K φ H ρ σ)(h:(m ρ A).post G (EB K φ H xr))
  (k:∀w A1,G w A1->∃b,w=.bl b/\∀φ1 H1,Le K φ H φ1 H1->zF K φ1 A1 H1->Q b H1):tT K xr m σ H Q:=
 ⟨φ,A,ρ,S,r,qv h (λ w A1 g=>k w A1 g) λ _ _ z=>z⟩
noncomputable def zh (i:Nat):Ev:=λ ρ A=>match ρ[i]? with
 | some (some w)=>.ok w A
 | _=>.bad
noncomputable def zi (w:W):Ev:=λ _ A=>.ok w A
noncomputable def zp (g:W->W->Hx->R W)(a b:Ev):Ev:=λ ρ A=>(a ρ A).bind λ x A1=>(b ρ A1).bind λ y A2=>g x y A2
noncomputable def jV (g:W->Hx->R W)(a:Ev):Ev:=λ ρ A=>(a ρ A).bind λ x A1=>g x A1
noncomputable abbrev wI:Str->Hx->Prop:=λ _ _=>False
noncomputable def jQ (K:Frag)(r:R2)(g:W->W->Hx->R W):Prop:=∀φ A H x y u v Q,zF K φ A H->RV K φ H u x->RV K φ H v y->(g u v A).post (PB K φ H Q) wI->r x y H Q
noncomputable def K5 (K:Frag)(r:V->Hp->VK->Prop)(g:W->Hx->R W):Prop:=∀φ A H x u Q,zF K φ A H->RV K φ H u x->(g u A).post (PB K φ H Q) wI->r x H Q
noncomputable def qz {α:Type}(r:R α):Prop:=∀x A,r≠.exc x A
theorem Qz {α:Type}{r:R α}{P:α->Hx->Prop}{E:Str->Hx->Prop}(n:qz r)(h:r.post P E):r.post P wI:=by
 cases r with
 | ok a A=>exact h
 | exc x A=>exact absurd rfl (n x A)
 | bad=>exact h
theorem zp.read {g:W->W->Hx->R W}{r:R2}(hn:∀x y A,qz (g x y A))(hg:jQ X.K r g):∀σ H Q,tM X.K xr (zp g ma mb) σ H Q->JT r (tM X.K xr ma) (tM X.K xr mb) σ H Q:=by
 rintro σ H Q ⟨φ,A,ρ,S,re,h⟩
 refine tM.go S re (zX.mp h) λ w A1 φ1 H1 v h1 l1 S1 q1=>?_
 refine tM.go S1 (re.mono l1) (qv (zX.mp h1) (λ _ _ z=>z) λ _ _ z=>z.mono l1) λ w2 A2 φ2 H2 v2 h2 l2 S2 q2=>?_
 exact hg φ2 A2 H2 v v2 w w2 Q S2 (q1.mono l2) q2 (qv (Qz (hn _ _ _) h2) (λ _ _ z=>z.mono (l1.trans l2)) λ _ _ z=>z)
theorem jV.read {g:W->Hx->R W}{r:V->Hp->VK->Prop}(hn:∀x A,qz (g x A))(hg:K5 X.K r g):∀σ H Q,tM X.K xr (jV g ma) σ H Q->Pd r (tM X.K xr ma) σ H Q:=by
 rintro σ H Q ⟨φ,A,ρ,S,re,h⟩
 refine tM.go S re (zX.mp h) λ w A1 φ1 H1 v h1 l1 S1 q1=>?_
 exact hg φ1 A1 H1 v w Q S1 q1 (qv (Qz (hn _ _) h1) (λ _ _ z=>z.mono l1) λ _ _ z=>z)
theorem Zu {op:Operator}{r:R2}{g:W->W->Hx->R W}(ho:qA X (binaryOp op) r)(hn:∀x y A,qz (g x y A))(hg:jQ X.K r g)(ha:SE X xr a ma)(hb:SE X xr b mb):SE X xr (.BinOp a op b pos) (zp g ma mb):=
 PE.imp (DG ho ha hb) (zp.read hn hg)
theorem D4 {op:UnaryOp}{r:V->Hp->VK->Prop}{g:W->Hx->R W}(ho:K8 X (unaryOp op) r)(hn:∀x A,qz (g x A))(hg:K5 X.K r g)(ha:SE X xr a ma):SE X xr (.UnaryOp op a pos) (jV g ma):=
 PE.imp (Cc ho ha) (jV.read hn hg)
theorem Rp {op:CmpOp}{r:R2}{g:W->W->Hx->R W}(ho:qA X (compareOp op) r)(hn:∀x y A,qz (g x y A))(hg:jQ X.K r g)(ha:SE X xr a ma)(hb:SE X xr b mb)(hm:behindInMarks op b=false):SE X xr (.Compare a [op] [b] pos) (zp g ma mb):=
 PE.imp (Fq ho ha hb hm) (zp.read hn hg)
theorem tT.toM {K:Frag}{σ:St}{H:Hp}{Q:Bool->Hp->Prop}(h:tT K xr m σ H Q):tM K xr m σ H λ x H'=>∃k,x=.bl k/\Q k H':=by
 obtain ⟨φ,A,ρ,S,re,h⟩:=h
 refine tM.go S re h λ w A1 φ1 H1 v ⟨b,e,q⟩ l1 S1 q1=>?_
 subst e
 exact ⟨b,q1,q φ1 H1 l1 S1⟩
theorem S8 {op:CmpOp}{r:R2}{g:W->W->Hx->R W}(ho:qA X (compareOp op) r)(hn:∀x y A,qz (g x y A))(hg:jQ X.K r g)(ha:SE X xr a ma)(hb:SE X xr b mb)(hm:behindInMarks op b=false):ST X xr (.Compare a [op] [b] pos) (zp g ma mb):=
 PT.imp (Hv ho ha hb hm) λ σ H Q h=>zp.read hn hg σ H _ h.toM
noncomputable def yu (g g':W->W->Hx->R W)(a b c:Ev):Ev:=λ ρ A=>(a ρ A).bind λ x A1=>(b ρ A1).bind λ y A2=>(g x y A2).bind λ z A3=>match z with
 | .bl true=>(c ρ A3).bind λ w A4=>g' y w A4
 | .bl false=>.ok (.bl false) A3
 | _=>.bad
theorem yu.read {g g':W->W->Hx->R W}{r r':R2}(hn:∀x y A,qz (g x y A))(hg:jQ X.K r g)(hn':∀x y A,qz (g' x y A))(hg':jQ X.K r' g'):
  ∀σ H Q,tM X.K xr (yu g g' ma mb mc) σ H Q->X6 r r' (tM X.K xr ma) (tM X.K xr mb) (tM X.K xr mc) σ H Q:=by
 rintro σ H Q ⟨φ,A,ρ,S,re,h⟩
 refine tM.go S re (zX.mp h) λ w A1 φ1 H1 v h1 l1 S1 q1=>?_
 refine tM.go S1 (re.mono l1) (qv (zX.mp h1) (λ _ _ z=>z) λ _ _ z=>z.mono l1) λ w2 A2 φ2 H2 v2 h2 l2 S2 q2=>?_
 have l02:=l1.trans l2
 have h2':=zX.mp h2
 have h3:(g w w2 A2).post (PB X.K φ2 H2 λ z H3=>∃k,z=.bl k/\if k=true then tM X.K xr mc σ H3 λ w' H4=>r' v2 w' H4 Q else Q (.bl false) H3) wI:=by
  refine qv (Qz (hn _ _ _) h2') (λ z A3 h3 φ3 H3 zv l3 S3 q3=>?_) λ _ _ z=>z
  have l03:=l02.trans l3
  cases z with
  | bl k=>
   refine ⟨k,q3,?_⟩
   cases k with
   | true=>
    rw [if_pos rfl]
    refine tM.go S3 (re.mono l03) (qv (zX.mp h3) (λ _ _ z=>z) λ _ _ z=>z.mono l03) λ w4 A4 φ4 H4 v4 h4 l4 S4 q4=>?_
    exact hg' φ4 A4 H4 v2 v4 w2 w4 Q S4 ((q2.mono l3).mono l4) q4 (qv (Qz (hn' _ _ _) h4) (λ _ _ z=>z.mono (l03.trans l4)) λ _ _ z=>z)
   | false=>
    rw [if_neg Bool.false_ne_true]
    exact h3 φ3 H3 _ l03 S3 rfl
  | non=>cases h3
  | int _=>cases h3
  | str _=>cases h3
  | tup _=>cases h3
  | ref _=>cases h3
  | clo _ _ _=>cases h3
  | xc _=>cases h3
 exact hg φ2 A2 H2 v v2 w w2 _ S2 (q1.mono l2) q2 h3
theorem LD {c:Expr}{op op':CmpOp}{r r':R2}{g g':W->W->Hx->R W}(ho:qA X (compareOp op) r)(hn:∀x y A,qz (g x y A))(hg:jQ X.K r g)(ho':qA X (compareOp op') r')(hn':∀x y A,qz (g' x y A))(hg':jQ X.K r' g')
  (ha:SE X xr a ma)(hb:SE X xr b mb)(hc:SE X xr c mc)(hm:lastMarks [op,op'] [b,c]=false:=by with_unfolding_all rfl):SE X xr (.Compare a [op,op'] [b,c] pos) (yu g g' ma mb mc):=
 PE.imp (LK ho ho' ha hb hc hm) (yu.read hn hg hn' hg')
theorem LF {c:Expr}{op op':CmpOp}{r r':R2}{g g':W->W->Hx->R W}(ho:qA X (compareOp op) r)(hn:∀x y A,qz (g x y A))(hg:jQ X.K r g)(ho':qA X (compareOp op') r')(hn':∀x y A,qz (g' x y A))(hg':jQ X.K r' g')
  (ha:SE X xr a ma)(hb:SE X xr b mb)(hc:SE X xr c mc)(hm:lastMarks [op,op'] [b,c]=false:=by with_unfolding_all rfl):ST X xr (.Compare a [op,op'] [b,c] pos) (yu g g' ma mb mc):=
 PT.imp (Lo ho ho' ha hb hc hm) λ σ H Q h=>yu.read hn hg hn' hg' σ H _ h.toM
noncomputable def yk (a b:Ev):Ev:=λ ρ A=>(a ρ A).bind λ x A1=>match x with
 | .bl true=>b ρ A1
 | .bl false=>.ok (.bl false) A1
 | _=>.bad
noncomputable def kA (a b:Ev):Ev:=λ ρ A=>(a ρ A).bind λ x A1=>match x with
 | .bl true=>.ok (.bl true) A1
 | .bl false=>b ρ A1
 | _=>.bad
noncomputable def jd (a:Ev):Ev:=λ ρ A=>(a ρ A).bind λ x A1=>match x with
 | .bl k=>.ok (.bl (!k)) A1
 | _=>.bad
noncomputable def Pg (c a b:Ev):Ev:=λ ρ A=>(c ρ A).bind λ x A1=>match x with
 | .bl true=>a ρ A1
 | .bl false=>b ρ A1
 | _=>.bad
theorem tT.mono {K:Frag}{φ φ1:List Addr}{H H1:Hp}{A1:Hx}{ρ:En}{σ:St}{Q:Bool->Hp->Prop}(S1:zF K φ1 A1 H1)(l1:Le K φ H φ1 H1)(re:RE K φ H ρ σ)
  (h:(m ρ A1).post (λ w A'=>∃b,w=.bl b/\∀φ' H',Le K φ H φ' H'->zF K φ' A' H'->Q b H') (EB K φ H xr)):tT K xr m σ H1 Q:=
 ⟨φ1,A1,ρ,S1,re.mono l1,qv h (λ w A' ⟨b,e,q⟩=>⟨b,e,λ φ' H' l s=>q φ' H' (l1.trans l) s⟩) λ _ _ z=>z.mono l1⟩
noncomputable def zj:Ea:=λ _ A=>.ok [] A
noncomputable def zc (a:Ev)(r:Ea):Ea:=λ ρ A=>(a ρ A).bind λ x A1=>(r ρ A1).bind λ xs A2=>.ok (x::xs) A2
noncomputable def zz (a:Ea):Ev:=λ ρ A=>(a ρ A).bind λ xs A1=>.ok (.tup xs) A1
noncomputable def zR (a:Ea):Ev:=λ ρ A=>(a ρ A).bind λ xs A1=>.ok (.ref A1.length) (A1++[.lst xs])
theorem Z0 {K:Frag}{φ:List Addr}{A:Hx}{H:Hp}{p:Addr}{ws:List W}{vs:List V}(S:zF K φ A H)(hp:H p=none)(r:zB K φ H ws vs):
  Le K φ H φ (upd H p (.tup vs))/\zF K φ A (upd H p (.tup vs))/\RV K φ (upd H p (.tup vs)) (.tup ws) (.ref p):=
 ⟨Le.new hp,S.lay hp,p,vs,rfl,qp.of jw,r.mono (Le.new hp)⟩
theorem ZW {K:Frag}{φ:List Addr}{A:Hx}{H:Hp}{p:Addr}{ws:List W}{vs:List V}(S:zF K φ A H)(hp:H p=none)(r:zB K φ H ws vs):
  Le K φ H (φ++[p]) (upd H p (.lst vs))/\zF K (φ++[p]) (A++[.lst ws]) (upd H p (.lst vs))/\RV K (φ++[p]) (upd H p (.lst vs)) (.ref A.length) (.ref p):=by
 have l:Le K φ H (φ++[p]) (upd H p (.lst vs)):=Le.alloc hp
 obtain ⟨h1,h2⟩:=S.alloc (o:=.lst ws) hp ⟨vs,jw,r.mono l⟩
 exact ⟨h1,h2,p,rfl,by rw [<- S.len];simp⟩
theorem EA {mr:Ea}(h:SA X xr es mr)(hl:∀ρ A ws A',mr ρ A=.ok ws A'->ws.length<=sizeLine):SE X xr (.List es pos) (zR mr):=
 PE.imp (EH h) λ σ H Q ⟨φ,A,ρ,S,re,h⟩=>by
  have h':=zX.mp h
  cases e:mr ρ A with
  | ok ws A'=>
   rw [e] at h'
   refine ⟨φ,A,ρ,S,re,?_⟩
   rw [e]
   intro φ1 H1 vs l1 S1 q1
   refine ⟨by rw [<- q1.length];exact hl ρ A ws A' e,λ p hp=>?_⟩
   obtain ⟨a1,a2,a3⟩:=ZW S1 hp q1
   exact h' _ _ _ (l1.trans a1) a2 a3
  | exc x A'=>rw [e] at h';refine ⟨φ,A,ρ,S,re,?_⟩;rw [e];exact h'
  | bad=>rw [e] at h';exact h'.elim
end
inductive Fl where
 | nx (ρ:En) | rt (w:W) | bk (ρ:En) | ct (ρ:En)
noncomputable abbrev Ex:=En->Hx->R Fl
noncomputable def FB (K:Frag)(φ:List Addr)(H:Hp)(D:Ends):Fl->Hx->Prop
 | .nx ρ,A=>∀φ' H' σ',Le K φ H φ' H'->zF K φ' A H'->RE K φ' H' ρ σ'->D.nx σ' H'
 | .rt w,A=>∀φ' H' v,Le K φ H φ' H'->zF K φ' A H'->RV K φ' H' w v->D.rt v H'
 | .bk ρ,A=>∀φ' H' σ',Le K φ H φ' H'->zF K φ' A H'->RE K φ' H' ρ σ'->D.bk σ' H'
 | .ct ρ,A=>∀φ' H' σ',Le K φ H φ' H'->zF K φ' A H'->RE K φ' H' ρ σ'->D.ct σ' H'
theorem FB.mono {K:Frag}{φ φ1:List Addr}{H H1:Hp}{D:Ends}{fl:Fl}{A:Hx}(h:FB K φ H D fl A)(l:Le K φ H φ1 H1):FB K φ1 H1 D fl A:=by
 cases fl with
 | nx ρ=>exact λ φ' H' v l'=>h φ' H' v (l.trans l')
 | rt ρ=>exact λ φ' H' v l'=>h φ' H' v (l.trans l')
 | bk ρ=>exact λ φ' H' v l'=>h φ' H' v (l.trans l')
 | ct ρ=>exact λ φ' H' v l'=>h φ' H' v (l.trans l')
inductive MS (K:Frag)(xr:XR)(m:Ex)(D:Ends)(σ:St)(H:Hp):Prop
 | mk (φ:List Addr) (A:Hx) (ρ:En) (S:zF K φ A H) (re:RE K φ H ρ σ) (h:(m ρ A).post (FB K φ H D) (EB K φ H xr))
noncomputable def tS (K:Frag)(xr:XR)(m:Ex):TS:=λ D σ H=>MS K xr m D σ H
noncomputable def SS (X:Cx)(xr:XR)(st:Stmt)(m:Ex):Prop:=PS X st (tS X.K xr m)
noncomputable def JV (X:Cx)(xr:XR)(st:List Stmt)(m:Ex):Prop:=j7 X st (tS X.K xr m)
section
variable {X:Cx}{xr:XR}{e a b c:Expr}{st:Stmt}{rest:List Stmt}{m ma mb mc:Ev}{m1 m2:Ex}{pos:Pos}
theorem PS.imp {t t':TS}(h:PS X st t)(i:∀D σ H,t' D σ H->t D σ H):PS X st t':=λ pins s σ H D I hw=>h pins s σ H D I (i D σ H hw)
theorem j7.imp {t t':TS}(h:j7 X rest t)(i:∀D σ H,t' D σ H->t D σ H):j7 X rest t':=λ pins s σ H D I hw=>h pins s σ H D I (i D σ H hw)
noncomputable def zA:Ex:=λ ρ A=>.ok (.nx ρ) A
noncomputable def zr (m1 m2:Ex):Ex:=λ ρ A=>(m1 ρ A).bind λ fl A1=>match fl with
 | .nx ρ1=>m2 ρ1 A1
 | f=>.ok f A1
noncomputable def wt (m:Ev):Ex:=λ ρ A=>(m ρ A).bind λ _ A1=>.ok (.nx ρ) A1
noncomputable def zZ (m:Ev):Ex:=λ ρ A=>(m ρ A).bind λ w A1=>.ok (.rt w) A1
noncomputable def qB (c:Ev)(a b:Ex):Ex:=λ ρ A=>(c ρ A).bind λ x A1=>match x with
 | .bl true=>a ρ A1
 | .bl false=>b ρ A1
 | _=>.bad
noncomputable def zT (i:Nat)(m:Ev):Ex:=λ ρ A=>(m ρ A).bind λ w A1=>.ok (.nx (ρ.set i (some w))) A1
theorem zT.read {i:Nat}:∀D σ H,tS X.K xr (zT i m) D σ H->Kz (tM X.K xr m) (Kk i) D σ H:=by
 rintro D σ H ⟨φ,A,ρ,S,re,h⟩
 exact tM.go S re (zX.mp h) λ w A1 φ1 H1 v h1 l1 S1 q1=>h1 φ1 H1 _ l1 S1 ((re.mono l1).set q1)
noncomputable def kh (g:W->W->W->Hx->R Unit)(me mo mi:Ev):Ex:=λ ρ A=>(me ρ A).bind λ v A1=>(mo ρ A1).bind λ o A2=>(mi ρ A2).bind λ i A3=>(g o i v A3).bind λ _ A4=>.ok (.nx ρ) A4
noncomputable def RU (K:Frag)(t:JE)(g:W->W->W->Hx->R Unit):Prop:=∀φ A H o i v wo wi wv Q,zF K φ A H->RV K φ H wo o->RV K φ H wi i->RV K φ H wv v->
 (g wo wi wv A).post (λ _ A'=>∀φ' H',Le K φ H φ' H'->zF K φ' A' H'->Q H') wI->t o i v H Q
theorem Lv {o i:Expr}{mo mi:Ev}{t:JE}{g:W->W->W->Hx->R Unit}{tpos:Pos}(ht:V6 X t)(hn:∀o i v A,qz (g o i v A))(hg:RU X.K t g)(he:SE X xr e m)(ho:SE X xr o mo)(hi:SE X xr i mi)
  (hs:swapsWithSole [.Subscript o i tpos] e pos.line X.env=pure false:=by rfl)(hw:swappedStores [.Subscript o i tpos] e X.env=pure none:=by rfl)
  (h1:(assignEach [.Subscript o i tpos] X.env).map (·.2)=[assign (.Subscript o i tpos) X.env]:=by rfl)
  (ha:∀v,assign (.Subscript o i tpos) X.env v=(do
   let ov <- holding [v] (eval o X.env)
   let iv <- holding [v,ov] (eval i X.env)
   standAt tpos
   holding [v,ov,iv] (setItem ov iv v)
   release [v,ov,iv] []):=by intro _;rfl):SS X xr (.Assign [.Subscript o i tpos] e pos) (kh g m mo mi):=
 PS.imp (Ra he (FO ho hi ht ha) hs hw h1) λ D σ H ⟨φ,A,ρ,S,re,h⟩=>by
  refine tM.go S re (zX.mp h) λ w1 A1 φ1 H1 v1 h1 l1 S1 q1=>?_
  refine tM.go S1 (re.mono l1) (qv (zX.mp h1) (λ _ _ z=>z) λ _ _ z=>z.mono l1) λ w2 A2 φ2 H2 v2 h2 l2 S2 q2=>?_
  have l02:=l1.trans l2
  refine tM.go S2 (re.mono l02) (qv (zX.mp h2) (λ _ _ z=>z) λ _ _ z=>z.mono l02) λ w3 A3 φ3 H3 v3 h3 l3 S3 q3=>?_
  have l03:=l02.trans l3
  refine hg φ3 A3 H3 v2 v3 v1 w2 w3 w1 _ S3 (q2.mono l3) q3 (q1.mono (l2.trans l3)) ?_
  cases hr:g w2 w3 w1 A3 with
  | ok u A4=>
   rw [hr] at h3
   exact λ φ4 H4 l4 S4=>h3 φ4 H4 σ (l03.trans l4) S4 (re.mono (l03.trans l4))
  | exc x A4=>exact absurd hr (hn _ _ _ _ x A4)
  | bad=>rw [hr] at h3;exact h3.elim
structure jq where
 at_:Hx->Nat->Option (Option W)
 len:Nat
noncomputable def ZG (K:Frag)(φ:List Addr)(H:Hp)(j:jq)(J:It):Prop:=∀i φ' H' A',g9 K φ H φ' H'->zF K φ' A' H'->
 (∀w,j.at_ A' i=some (some w)->J.go i H'/\∀x H1,J.yld i H' x H1->Le K φ' H' φ' H1/\zF K φ' A' H1/\RV K φ' H1 w x)/\(j.at_ A' i=some none->J.stop i H')
noncomputable abbrev Ei:=En->Hx->R jq
inductive MI (K:Frag)(xr:XR)(mi:Ei)(σ:St)(H:Hp)(Rr:It->Hp->Prop):Prop
 | mk (φ:List Addr) (A:Hx) (ρ:En) (S:zF K φ A H) (re:RE K φ H ρ σ) (h:(mi ρ A).post (λ j A1=>∀φ1 H1 J,Le K φ H φ1 H1->zF K φ1 A1 H1->ZG K φ1 H1 j J->Rr J H1) (EB K φ H xr))
noncomputable def tI (K:Frag)(xr:XR)(mi:Ei):TI:=λ σ H Rr=>MI K xr mi σ H Rr
noncomputable def SI (X:Cx)(xr:XR)(tg iter:Expr)(mi:Ei):Prop:=PI X tg iter (tI X.K xr mi)
theorem PI.imp {tg:Expr}{t t':TI}(h:PI X tg e t)(i:∀σ H Q,t' σ H Q->t σ H Q):PI X tg e t':=λ pins s σ H Q I hw=>h pins s σ H Q I (i σ H Q hw)
noncomputable abbrev Tg:=W->En->Option En
inductive MG (K:Frag)(tw:Tg)(v:V)(σ:St)(H:Hp)(Q:St->Hp->Prop):Prop
 | mk (φ:List Addr) (A:Hx) (ρ:En) (w:W) (ρ':En) (S:zF K φ A H) (re:RE K φ H ρ σ) (rv:RV K φ H w v) (t:tw w ρ=some ρ') (q:∀σ',RE K φ H ρ' σ'->Q σ' H)
noncomputable def tG (K:Frag)(tw:Tg):TG:=λ v σ H Q=>MG K tw v σ H Q
noncomputable def SG (X:Cx)(tg:Expr)(tw:Tg):Prop:=PG X tg (tG X.K tw)
theorem PG.imp {tg:Expr}{t t':TG}(h:PG X tg t)(i:∀v σ H Q,t' v σ H Q->t v σ H Q):PG X tg t':=λ pins s σ H v u Q I r hw=>h pins s σ H v u Q I r (i v σ H Q hw)
noncomputable def zI (i:Nat):Tg:=λ w ρ=>some (ρ.set i (some w))
noncomputable def wa (i j:Nat):Tg:=λ w ρ=>match w with
 | .tup [x,y]=>some ((ρ.set i (some x)).set j (some y))
 | _=>none
noncomputable def jL (j:jq)(st:W->Ex):Nat->Nat->Ex
 | 0,i,ρ,A=>match j.at_ A i with
  | some none=>.ok (.nx ρ) A
  | _=>.bad
 | f+1,i,ρ,A=>match j.at_ A i with
  | some none=>.ok (.nx ρ) A
  | some (some w)=>(st w ρ A).bind λ fl A1=>match fl with
   | .nx ρ1=>jL j st f (i+1) ρ1 A1
   | .ct ρ1=>jL j st f (i+1) ρ1 A1
   | .bk ρ1=>.ok (.nx ρ1) A1
   | .rt w=>.ok (.rt w) A1
  | none=>.bad
noncomputable def turn (tw:Tg)(body:Ex)(w:W):Ex:=λ ρ A=>match tw w ρ with
 | some ρ1=>body ρ1 A
 | none=>.bad
noncomputable def kJ (mi:Ei)(tw:Tg)(body:Ex):Ex:=λ ρ A=>(mi ρ A).bind λ j A1=>jL j (turn tw body) j.len 0 ρ A1
inductive Pf (K:Frag)(xr:XR)(j:jq)(t:W->Ex)(D:Ends)(φ1:List Addr)(H1:Hp)(f i:Nat)(σ':St)(H':Hp):Prop
 | mk (φ2:List Addr) (A2:Hx) (ρ2:En) (l:Le K φ1 H1 φ2 H') (S:zF K φ2 A2 H') (re:RE K φ2 H' ρ2 σ') (h:(jL j t f i ρ2 A2).post (FB K φ2 H' D) (EB K φ2 H' xr))
noncomputable def gX (c:Ev)(body:Ex):Nat->Ex
 | 0,ρ,A=>.bad
 | f+1,ρ,A=>(c ρ A).bind λ x A1=>match x with
  | .bl true=>(body ρ A1).bind λ fl A2=>match fl with
   | .nx ρ1=>gX c body f ρ1 A2
   | .ct ρ1=>gX c body f ρ1 A2
   | .bk ρ1=>.ok (.nx ρ1) A2
   | .rt w=>.ok (.rt w) A2
  | .bl false=>.ok (.nx ρ) A1
  | _=>.bad
noncomputable def X0 (f:Nat)(c:Ev)(body:Ex):Ex:=gX c body f
noncomputable def Z4 (nl:Nat)(cap:List Nat)(ρ:En):En:=List.replicate nl none++cap.map λ i=>(ρ[i]?).join
theorem RE.gq {K:Frag}{φ:List Addr}{H:Hp}{ρ:En}{σ:St}{nl:Nat}{cap:List Nat}(r:RE K φ H ρ σ):RE K φ H (Z4 nl cap ρ) (L2.gq nl cap σ):=by
 refine ⟨by simp [Z4,L2.gq],λ i w e=>?_⟩
 unfold Z4 at e
 unfold L2.gq
 by_cases hi:i<nl
 ·rw [List.getElem?_append_left (by simpa using hi),List.getElem?_replicate] at e
  split at e<;>cases e
 ·rw [List.getElem?_append_right (by simpa using hi),List.length_replicate,List.getElem?_map] at e
  rw [List.getElem?_append_right (by simpa using hi),List.length_replicate,List.getElem?_map]
  cases hc:cap[i - nl]? with
  | none=>rw [hc] at e;cases e
  | some k=>
   rw [hc] at e
   have e2:(ρ[k]?).join=some w:=Option.some.inj e
   cases hk:ρ[k]? with
   | none=>rw [hk] at e2;cases e2
   | some o=>cases o with
    | none=>rw [hk] at e2;cases e2
    | some w'=>
     rw [hk] at e2
     cases e2
     obtain ⟨v,h1,h2⟩:=r.get k w hk
     exact ⟨v,by simp [h1],h2⟩
noncomputable abbrev Em:=En->List W->Hx->R (En × List W)
noncomputable def zW:Nat:=100000
noncomputable def zK (elt:Ev):Em:=λ ρ acc A=>(elt ρ A).bind λ y A1=>if acc.length<zW then .ok (ρ,acc++[y]) A1 else .bad
noncomputable def jk (j:jq)(tw:Tg)(ifs:Ev)(em:Em):Nat->Nat->Em
 | 0,i,ρ,acc,A=>match j.at_ A i with
  | some none=>.ok (ρ,acc) A
  | _=>.bad
 | f+1,i,ρ,acc,A=>match j.at_ A i with
  | some none=>.ok (ρ,acc) A
  | some (some w)=>match tw w ρ with
   | some ρ1=>(ifs ρ1 A).bind λ c A1=>match c with
    | .bl true=>(em ρ1 acc A1).bind λ p A2=>jk j tw ifs em f (i+1) p.1 p.2 A2
    | .bl false=>jk j tw ifs em f (i+1) ρ1 acc A1
    | _=>.bad
   | none=>.bad
  | none=>.bad
noncomputable def QO (mi:Ei)(tw:Tg)(ifs:Ev)(em:Em):Em:=λ ρ acc A=>(mi ρ A).bind λ j A1=>jk j tw ifs em j.len 0 ρ acc A1
noncomputable abbrev jD:=En->Hx->R (List W)
noncomputable def zN (nl:Nat)(cap:List Nat)(mi:Ei)(tw:Tg)(ifs:Ev)(em:Em):jD:=λ ρ A=>(mi ρ A).bind λ j A1=>(jk j tw ifs em j.len 0 (Z4 nl cap ρ) [] A1).nox.bind λ p A2=>.ok p.2 A2
noncomputable def Uq (K:Frag)(D:Addr)(φ:List Addr)(H:Hp)(Q:St->Hp->Prop)(p:En × List W)(A1:Hx):Prop:=∀φ1 H1 σ1 zs,yg K D φ H φ1 H1->(∀k:Nat,φ1[k]?≠some D)->zF K φ1 A1 H1->RE K φ1 H1 p.1 σ1->H1 D=some (.lst zs)->zB K φ1 H1 p.2 zs->Q σ1 H1
inductive ME (K:Frag)(em:Em)(D:Addr)(σ:St)(H:Hp)(Q:St->Hp->Prop):Prop
 | mk (φ:List Addr) (A:Hx) (ρ:En) (acc:List W) (ys:List V) (S:zF K φ A H) (re:RE K φ H ρ σ) (hD:H D=some (.lst ys)) (nD:∀k:Nat,φ[k]?≠some D) (rv:zB K φ H acc ys)
  (h:(em ρ acc A).post (Uq K D φ H Q) wI)
noncomputable def tE (K:Frag)(em:Em):kO:=λ D σ H Q=>ME K em D σ H Q
noncomputable abbrev yq:XR:=λ _ _=>False
noncomputable def SM (X:Cx)(elt:Expr)(gens:List Comprehension)(sc:Scope)(cpos:Pos)(d:Nat)(em:Em):Prop:=kz X elt gens sc cpos d (tE X.K em)
theorem kz.imp {elt:Expr}{gens:List Comprehension}{sc:Scope}{d:Nat}{t t':kO}(h:kz X elt gens sc pos d t)(i:∀D σ H Q,t' D σ H Q->t D σ H Q):kz X elt gens sc pos d t':=
 λ pins s σ H D Q k Q' E I hw hk=>h pins s σ H D Q k Q' E I (i D σ H Q hw) hk
theorem Xb {α:Type}{K:Frag}{φ:List Addr}{H:Hp}{r:R α}{P:α->Hx->Prop}(h:r.post P wI):r.post P (EB K φ H yq):=qv h (λ _ _ z=>z) λ _ _ z=>z.elim
noncomputable def JW (X:Cx)(ifs:List Expr)(m:Ev):Prop:=gY X ifs (tT X.K yq m)
inductive Pn (tw:Tg)(ifs:Ev)(em:Em)(j:jq)(K:Frag)(D:Addr)(φ:List Addr)(H:Hp)(Q:St->Hp->Prop)(f i:Nat)(σ':St)(H':Hp):Prop
 | mk (φ2:List Addr) (A2:Hx) (ρ2:En) (acc2:List W) (ys2:List V) (l:yg K D φ H φ2 H') (S:zF K φ2 A2 H') (re:RE K φ2 H' ρ2 σ') (hD:H' D=some (.lst ys2)) (nD:∀k:Nat,φ2[k]?≠some D) (ra:zB K φ2 H' acc2 ys2) (h:(jk j tw ifs em f i ρ2 acc2 A2).post (Uq K D φ H Q) wI)
theorem jk.read {tw:Tg}{ifs:Ev}{em:Em}{j:jq}{J:It}{K:Frag}{D:Addr}{φ:List Addr}{A:Hx}{H:Hp}{ρ:En}{σ:St}{acc:List W}{ys:List V}{Q:St->Hp->Prop}{f:Nat}
  (jr:ZG K φ H j J)
  (S:zF K φ A H)(re:RE K φ H ρ σ)(hD:H D=some (.lst ys))(nD:∀k:Nat,φ[k]?≠some D)(ra:zB K φ H acc ys)
  (h:(jk j tw ifs em f 0 ρ acc A).post (Uq K D φ H Q) wI):
  JA J (tG K tw) (tT K yq ifs) (tE K em) D σ H Q:=by
 refine ⟨λ i f σ' H'=>Pn tw ifs em j K D φ H Q f i σ' H',
  ⟨f,φ,A,ρ,acc,ys,.refl,S,re,hD,nD,ra,h⟩,?_⟩
 rintro i f σ2 H2 ⟨φ2,A2,ρ2,acc2,ys2,l2,S2,re2,hD2,nD2,ra2,h2⟩
 obtain ⟨j1,j2⟩:=jr i φ2 H2 A2 ⟨l2.ex,l2.tp,l2.fz⟩ S2
 cases ej:j.at_ A2 i with
 | none=>cases f<;>(unfold jk at h2;rw [ej] at h2;exact h2.elim)
 | some o=>
  cases o with
  | none=>
   left
   refine ⟨j2 ej,?_⟩
   cases f<;>(unfold jk at h2;rw [ej] at h2;exact h2 φ2 H2 σ2 ys2 l2 nD2 S2 re2 hD2 ra2)
  | some w=>
   right
   obtain ⟨go,yl⟩:=j1 w ej
   cases f with
   | zero=>unfold jk at h2;rw [ej] at h2;exact h2.elim
   | succ f=>
    unfold jk at h2
    rw [ej] at h2
    refine ⟨go,λ σ' H'=>Pn tw ifs em j K D φ H Q f (i+1) σ' H',λ σ' H' z=>⟨f,Nat.lt_succ_self _,z⟩,λ x H3 y=>?_⟩
    obtain ⟨l3,S3,q3⟩:=yl x H3 y
    obtain ⟨hD3,nD3⟩:=l3.off hD2 nD2
    dsimp only at h2
    cases et:tw w ρ2 with
    | none=>rw [et] at h2;exact h2.elim
    | some ρ3=>
     rw [et] at h2
     refine ⟨φ2,A2,ρ2,w,ρ3,S3,re2.mono l3,q3,et,λ σ3 re3=>?_⟩
     refine tT.go S3 re3 (Xb (zX.mp h2)) λ c A4 h4=>?_
     cases c with
     | bl k=>
      refine ⟨k,rfl,λ φ4 H4 l4 S4=>?_⟩
      obtain ⟨hD4,nD4⟩:=l4.off hD3 nD3
      have l04:=(l2.trans (l3.trans l4).toD)
      cases k with
      | true=>
       rw [if_pos rfl]
       refine ⟨φ4,A4,ρ3,acc2,ys2,S4,re3.mono l4,hD4,nD4,ra2.mono (l3.trans l4),qv (zX.mp h4) (λ p A5 h5 φ5 H5 σ5 zs l5 n5 S5 re5 d5 r5=>?_) λ _ _ z=>z⟩
       exact ⟨φ5,A5,p.1,p.2,zs,l04.trans l5,S5,re5,d5,n5,r5,h5⟩
      | false=>
       rw [if_neg Bool.false_ne_true]
       exact ⟨φ4,A4,ρ3,acc2,ys2,l04,S4,re3.mono l4,hD4,nD4,ra2.mono (l3.trans l4),h4⟩
     | non=>cases h4
     | int _=>cases h4
     | str _=>cases h4
     | tup _=>cases h4
     | ref _=>cases h4
     | clo _ _ _=>cases h4
     | xc _=>cases h4
theorem ZG.mono {K:Frag}{φ φ1:List Addr}{H H1:Hp}{j:jq}{J:It}(h:ZG K φ H j J)(l:g9 K φ H φ1 H1):ZG K φ1 H1 j J:=
 λ i φ' H' A' l'=>h i φ' H' A' ⟨λ n a e=>l'.ex n a (l.ex n a e),λ a vs e=>l'.tp a vs (l.tp a vs e),λ a o u e=>l'.fz a o u (l.fz a o u e)⟩
inductive MF (K:Frag)(xr:XR)(mq:jD)(σ:St)(H:Hp)(Q:VK):Prop
 | mk (φ:List Addr) (A:Hx) (ρ:En) (S:zF K φ A H) (re:RE K φ H ρ σ) (h:(mq ρ A).post (λ ws A1=>∀φ1 H1 D ys,Le K φ H φ1 H1->zF K φ1 A1 H1->H D=none->H1 D=some (.lst ys)->(∀k:Nat,φ1[k]?≠some D)->zB K φ1 H1 ws ys->Q (.ref D) H1) (EB K φ H xr))
noncomputable def tF (K:Frag)(xr:XR)(mq:jD):TE:=λ σ H Q=>MF K xr mq σ H Q
noncomputable def SF (X:Cx)(xr:XR)(e:Expr)(mq:jD):Prop:=PE X e (tF X.K xr mq)
theorem zN.read {mi:Ei}{tw:Tg}{mf:Ev}{em:Em}{nl:Nat}{cap:List Nat}:∀σ H Q,tF X.K xr (zN nl cap mi tw mf em) σ H Q->Kq X.K (tI X.K xr mi) (tG X.K tw) (tT X.K yq mf) (tE X.K em) nl cap σ H Q:=by
 rintro σ H Q ⟨φ,A,ρ,S,re,h⟩
 refine ⟨φ,A,ρ,S,re,qv (zX.mp h) (λ j A1 h1 φ1 H1 J l1 S1 jr D hD hK=>?_) λ _ _ z=>z⟩
 have ln:Le X.K φ1 H1 φ1 (upd H1 D (.lst [])):=Le.new hD
 have h1':=zX.mp h1
 refine jk.read (jr.mono ⟨ln.ex,ln.tp,ln.fz⟩) (S1.lay hD) ((re.mono (l1.trans ln)).gq) jw (S1.notin hD hK) .nil ?_ (f:=j.len) (acc:=[])
 cases er:jk j tw mf em j.len 0 (Z4 nl cap ρ) [] A1 with
 | ok p A2=>
  rw [er] at h1'
  intro φ2 H2 σ2 zs l2 n2 S2 re2 d2 r2
  have l02:=l1.trans (Le.ofD hD l2)
  exact h1' φ2 H2 D zs l02 S2 (l1.st D hD) d2 n2 r2
 | exc x A2=>rw [er] at h1';exact h1'.elim
 | bad=>rw [er] at h1';exact h1'.elim
noncomputable def qg (q:jD):Ev:=λ ρ A=>(q ρ A).bind λ ws A1=>.ok (.ref A1.length) (A1++[.lst ws])
theorem qg.read {q:jD}{K:Frag}:∀σ H Q,tM K xr (qg q) σ H Q->tF K xr q σ H Q:=by
 rintro σ H Q ⟨φ,A,ρ,S,re,h⟩
 refine ⟨φ,A,ρ,S,re,qv (zX.mp h) (λ ws A1 h1 φ1 H1 D ys l1 S1 h0 hD nD r=>?_) λ _ _ z=>z⟩
 have ll:Le K φ H (φ1++[D]) H1:=l1.QP h0
 have lw:g9 K φ1 H1 (φ1++[D]) H1:=⟨λ n a h=>by
  have:=(List.getElem?_eq_some_iff.mp h).1
  rw [List.getElem?_append_left this];exact h,λ _ _ h=>h,λ _ _ _ h=>h⟩
 refine h1 _ _ _ ll (S1.QP (o:=.lst ws) hD nD ⟨ys,hD,r.monoW lw⟩) ⟨D,rfl,?_⟩
 rw [<- S1.len];simp
inductive MQ (K:Frag)(xr:XR)(mq:jD)(σ:St)(H:Hp)(Q:VK):Prop
 | mk (φ:List Addr) (A:Hx) (ρ:En) (S:zF K φ A H) (re:RE K φ H ρ σ) (h:(mq ρ A).post (λ ws A1=>∀φ1 H1 a ys,Le K φ H φ1 H1->zF K φ1 A1 H1->(qS K H1 a ys∨qp K H1 a ys)->zB K φ1 H1 ws ys->Q (.ref a) H1) (EB K φ H xr))
noncomputable def tQ (K:Frag)(xr:XR)(mq:jD):TE:=λ σ H Q=>MQ K xr mq σ H Q
noncomputable def SQ (X:Cx)(xr:XR)(e:Expr)(mq:jD):Prop:=PE X e (tQ X.K xr mq)
noncomputable def zU (w:W)(A:Hx):Option (List W):=match w with
 | .tup ws=>some ws
 | .ref n=>match A[n]? with
  | some (.lst ws)=>some ws
  | some (.ro ws)=>some ws
  | _=>none
 | _=>none
theorem Yq {K:Frag}{φ:List Addr}{A:Hx}{H:Hp}{w:W}{ws:List W}{v:V}(S:zF K φ A H)(q:RV K φ H w v)(e:zU w A=some ws):∃a ys,v=.ref a/\(qS K H a ys∨qp K H a ys)/\zB K φ H ws ys:=by
 unfold zU at e
 cases w with
 | tup xs=>cases e;obtain ⟨a,ys,e1,e2,e3⟩:=q;exact ⟨a,ys,e1,.inr e2,e3⟩
 | ref n=>
  obtain ⟨a,e1,e2⟩:=q
  dsimp only at e
  cases ea:A[n]? with
  | none=>rw [ea] at e;cases e
  | some o=>
   rw [ea] at e
   obtain ⟨a',e3,r⟩:=S.ob n o ea
   rw [e2] at e3;cases e3
   cases o with
   | lst xs=>cases e;obtain ⟨ys,h1,h2⟩:=r;exact ⟨a,ys,e1,.inl (qS.of h1),h2⟩
   | ro xs=>cases e;obtain ⟨ys,h1,h2⟩:=r;exact ⟨a,ys,e1,.inl h1.sq,h2⟩
   | dct xs=>cases e
   | tab _ _=>cases e
 | non=>cases e
 | bl _=>cases e
 | clo _ _ _=>cases e
 | xc _=>cases e
 | int _=>cases e
 | str _=>cases e
noncomputable def qa (m:Ev):jD:=λ ρ A=>(m ρ A).bind λ w A1=>match zU w A1 with
 | some ws=>.ok ws A1
 | none=>.bad
noncomputable def KC (w:W)(A:Hx):Option jq:=match zU w A with
 | some ws=>some ⟨λ A i=>(zU w A).map λ ws=>ws[i]?,ws.length⟩
 | none=>none
noncomputable def qj (m:Ev):Ei:=λ ρ A=>(m ρ A).bind λ w A1=>match KC w A1 with
 | some j=>.ok j A1
 | none=>.bad
noncomputable def CV (K:Frag)(tl:TE):TI:=λ σ H Rr=>tl σ H λ x H1=>∃a,x=.ref a/\(((∃xs,qS K H1 a xs)/\Rr (Pq K a) H1)∨((∃xs,qp K H1 a xs)/\Rr (Pr K a) H1))
theorem F8 {tg l:Expr}{tl:TE}(hl:PE X l tl):PI X tg l (CV X.K tl):=by
 intro pins s σ H Rr I h
 refine zS (hl pins s σ H _ I h) λ v s1 ⟨x,H1,I1,r1,q1⟩=>?_
 obtain ⟨a,e,q⟩:=q1
 subst e
 cases r1
 have fpo:∀b∈[s1.heap.objs.size],y0 X pins H1 b:=λ b hb=>by
  have e:b=s1.heap.objs.size:=by simpa using hb
  subst e
  exact I1.fpOk (Nat.le_refl _) (I1.hok.fresh (Nat.le_refl _))
 rcases q with ⟨⟨xs,hq⟩,q⟩ | ⟨⟨xs,hq⟩,q⟩
 ·obtain ⟨its,rv,p,hz⟩:=I1.list hq
  refine wpAny_pyIter_list p.isList ?_
  exact ⟨s1.heap.objs.size,[s1.heap.objs.size],_,_,H1,rfl,I1.kept (t':=s1.toks) λ b o e=>Heap.get?_push_of_some _ e,Mj a _,⟨_,Heap.get?_push_size _ rfl,rfl,rfl⟩,fpo,q⟩
 ·obtain ⟨its,rv,p,hz⟩:=I1.tuple hq
  refine wpAny_pyIter_tuple (show s1.heap.IsTuple a its.toArray from p) ?_
  exact ⟨s1.heap.objs.size,[s1.heap.objs.size],_,_,H1,rfl,I1.kept (t':=s1.toks) λ b o e=>Heap.get?_push_of_some _ e,Nt a _,⟨_,Heap.get?_push_size _ rfl,rfl,rfl⟩,fpo,q⟩
noncomputable def yU (lo:Int)(n:Nat):jq:=⟨λ _ i=>if i<n then some (some (.int (lo+i))) else some none,n⟩
theorem E3 {K:Frag}{φ:List Addr}{H:Hp}{lo:Int}{n:Nat}:ZG K φ H (yU lo n) (KZ lo n):=λ i φ' H' A' lw S'=>by
 unfold yU
 dsimp only
 by_cases hi:i<n
 ·rw [if_pos hi]
  refine ⟨λ w e=>?_,λ e=>by cases e⟩
  cases e
  exact ⟨hi,λ x H1 ⟨e1,e2⟩=>by subst e1;exact ⟨.refl,S',e2⟩⟩
 ·rw [if_neg hi]
  exact ⟨λ w e=>(by cases e),λ _=>Nat.le_of_not_lt hi⟩
noncomputable def jz (i:Int):Bool:=decide (-(2 ^ 62)<=i)&&decide (i<2 ^ 62)
theorem Qv {i:Int}(h:jz i=true):-(2 ^ 62)<=i/\i<2 ^ 62:=by
 unfold jz at h
 rw [Bool.and_eq_true,decide_eq_true_iff,decide_eq_true_iff] at h
 exact h
noncomputable def ji (m:Ev):Ei:=λ ρ A=>(m ρ A).bind λ w A1=>match w with
 | .int j=>if jz j then .ok (yU 0 j.toNat) A1 else .bad
 | _=>.bad
end
noncomputable abbrev Fn:=List W->Hx->R W
noncomputable def yj (K:Frag)(x:Str)(C:Value):Prop:=PySem.W.nsIn K mainGlobals x=some (some C)
noncomputable def XE (K:Frag)(E:XK)(x:Str)(H:Hp):Prop:=∀C d,yj K x C->E C d H
inductive JU (K:Frag)(n:Nat)(f:Fn)(vs:List V)(H:Hp)(Q:VK)(E:XK):Prop
 | mk (len:vs.length=n) (φ:List Addr) (A:Hx) (ws:List W) (S:zF K φ A H) (r:zB K φ H ws vs) (q:(f ws A).post (PB K φ H Q) (EB K φ H (XE K E)))
theorem JU.len {K:Frag}{n:Nat}{f:Fn}{vs:List V}{H:Hp}{Q:VK}{E:XK}(h:JU K n f vs H Q E):vs.length=n:=by cases h;assumption
inductive zE (P:Program)(w:World)(K:Frag)(mg:Str->Option Value)(base:Heap)(k:Nat)(x:Str)(n:Nat)(f:Fn):Prop
 | mk (fa:Addr) (fd:FuncData) (ps:List Str) (F:yc P w K mg base we k fa fd ps (JU K n f)) (at_:mg x=some (.ref fa)) (kp:PySem.W.keepIn K (.ref fa)=true) (bi:Binds K fd ps [])
noncomputable def zD (f:Fn)(a:Ea):Ev:=λ ρ A=>(a ρ A).bind λ ws A1=>f ws A1
section
variable {X:Cx}{xr:XR}{e a b c:Expr}{es:List Expr}{m ma mb mc:Ev}{m1 m2:Ex}{pos:Pos}
noncomputable def gk (m:Ea)(n:Nat):Prop:=∀ρ A ws A',m ρ A=.ok ws A'->ws.length=n
theorem zt:gk zj 0:=λ _ _ _ _ h=>by unfold zj at h;cases h;rfl
theorem zm {mr:Ea}{n:Nat}(h:gk mr n):gk (zc ma mr) (n+1):=λ ρ A ws A' e=>by
 unfold zc at e
 cases h1:ma ρ A with
 | ok x A1=>
  rw [h1,zJ] at e
  cases h2:mr ρ A1 with
  | ok xs A2=>rw [h2,zJ] at e;cases e;simp [h ρ A1 xs _ h2]
  | exc x A2=>rw [h2] at e;cases e
  | bad=>rw [h2] at e;cases e
 | exc x A1=>rw [h1] at e;cases e
 | bad=>rw [h1] at e;cases e
end
noncomputable def z9 (n:Nat)(m:Ex):Fn:=λ ws A=>(m (ws.map some++List.replicate (n - ws.length) none) A).nox.bind λ fl A1=>match fl with
 | .rt w=>.ok w A1
 | .nx _=>.ok .non A1
 | _=>.bad
theorem RE.start {K:Frag}{φ:List Addr}{H:Hp}{N:List Str}{ws:List W}{vs:List V}(h:zB K φ H ws vs):RE K φ H (ws.map some++List.replicate (N.length - ws.length) none) (L2.start N vs):=by
 unfold L2.start
 refine ⟨by simp [h.length],λ i w e=>?_⟩
 by_cases hi:i<ws.length
 ·rw [List.getElem?_append_left (by simpa using hi),List.getElem?_map] at e
  cases hw:ws[i]? with
  | none=>rw [hw] at e;cases e
  | some w'=>
   rw [hw] at e;cases e
   obtain ⟨v,h1,h2⟩:=h.get hw
   refine ⟨v,?_,h2⟩
   rw [List.getElem?_append_left (by rw [List.length_map,<- h.length];exact hi),List.getElem?_map,h1];rfl
 ·rw [List.getElem?_append_right (by simpa using hi),List.getElem?_replicate] at e
  split at e<;>cases e
section
variable {P:Program}{w:World}{K:Frag}{mg:Str->Option Value}{base:Heap}
theorem zE.mono {j k n:Nat}{x:Str}{f:Fn}(F:zE P w K mg base j x n f)(h:j<=k):zE P w K mg base k x n f:=by cases F with | mk fa fd ps F a b c=>exact ⟨fa,fd,ps,F.mono h,a,b,c⟩
theorem zE.imp {k n:Nat}{x:Str}{f g:Fn}(F:zE P w K mg base k x n f)(h:∀ws A,ws.length=n->g ws A=.bad∨f ws A=g ws A):zE P w K mg base k x n g:=by
 obtain ⟨fa,fd,ps,F,a,b,c⟩:=F
 refine ⟨fa,fd,ps,F.imp λ vs H Q E ⟨hl,φ,A,ws,S,r,q⟩=>⟨hl,φ,A,ws,S,r,?_⟩,a,b,c⟩
 rcases h ws A (by rw [r.length];exact hl) with e | e
 ·rw [e] at q;exact q.elim
 ·rw [e];exact q
end
section
variable {X:Cx}{K:Frag}
theorem jM {α:Type}{a:α}{A:Hx}:qz (R.ok a A):=λ _ _ h=>by cases h
theorem qJ {α:Type}:qz (R.bad:R α):=λ _ _ h=>by cases h
theorem wZ {α:Type}{c:Prop} [Decidable c] {a b:R α}(h1:qz a)(h2:qz b):qz (if c then a else b):=by split<;>assumption
noncomputable def wL (f:Int->Int->W):W->W->Hx->R W
 | .int i,.int j,A=>.ok (f i j) A
 | _,_,_=>.bad
theorem Zz {f:Int->Int->W}:∀x y A,qz (wL f x y A):=λ x y A=>by
 unfold wL;split
 ·exact jM
 ·exact qJ
noncomputable def Zb (c:Int->Int->Bool)(f:Int->Int->W):W->W->Hx->R W
 | .int i,.int j,A=>if c i j then .ok (f i j) A else .bad
 | _,_,_=>.bad
theorem VN {c:Int->Int->Bool}{f:Int->Int->W}:∀x y A,qz (Zb c f x y A):=λ x y A=>by
 unfold Zb;split
 ·exact wZ jM qJ
 ·exact qJ
theorem Zt {f:Int->Int->W}{g:Int->Int->V}(h:∀i j φ H,RV K φ H (f i j) (g i j)):jQ K (wJ g) (wL f):=λ φ A H x y u v Q S q1 q2 p=>by
 cases u with
 | int i=>cases v with
  | int j=>obtain rfl:=q1;obtain rfl:=q2;exact ⟨i,j,rfl,rfl,p φ H _ .refl S (h i j φ H)⟩
  | _=>exact p.elim
 | _=>exact p.elim
theorem XS {c:Int->Int->Bool}{C:Int->Int->Prop}{f:Int->Int->W}{g:Int->Int->V}(hc:∀i j,c i j=true->C i j)(h:∀i j φ H,RV K φ H (f i j) (g i j)):jQ K (rI C g) (Zb c f):=λ φ A H x y u v Q S q1 q2 p=>by
 cases u with
 | int i=>cases v with
  | int j=>
   obtain rfl:=q1;obtain rfl:=q2
   unfold Zb at p
   dsimp only at p
   by_cases hh:c i j=true
   ·rw [if_pos hh] at p;exact ⟨i,j,rfl,rfl,hc i j hh,p φ H _ .refl S (h i j φ H)⟩
   ·rw [if_neg hh] at p;exact p.elim
  | _=>exact p.elim
 | _=>exact p.elim
noncomputable def JH (i j:Int):Bool:=(decide (-(2 ^ 64)<i)&&decide (i<2 ^ 64)) || (decide (-(2 ^ 64)<j)&&decide (j<2 ^ 64))
noncomputable def KQ (_ j:Int):Bool:=decide (0<j)
theorem Hy (i j:Int)(h:JH i j=true):JO i j:=by
 unfold JH at h
 simp only [Bool.or_eq_true,Bool.and_eq_true,decide_eq_true_eq] at h
 exact h
theorem FA (i j:Int)(h:KQ i j=true):(λ _ j=>0<j) i j:=by
 unfold KQ at h
 simpa using h
noncomputable def yf:=wL λ i j=>.int (i - j)
noncomputable def yT:=Zb KQ λ i j=>.int (i % j)
noncomputable def VU:=wL λ i j=>.int (Builtin.bitXor i j)
noncomputable def Q2:=wL λ i j=>.bl (decide (i<j))
noncomputable def kB:=wL λ i j=>.bl (decide (i<=j))
noncomputable def Uo:=wL λ i j=>.bl (decide (j<i))
noncomputable def Uj:=wL λ i j=>.bl (decide (j<=i))
noncomputable def VX (i j:Int):Bool:=decide (0<=j)&&decide (j<=1000000)&&decide (i.natAbs<2 ^ 64)
theorem IM (i j:Int)(h:VX i j=true):R8 i j:=by
 unfold VX at h
 simp only [Bool.and_eq_true,decide_eq_true_eq] at h
 exact ⟨h.1.1,h.1.2,h.2⟩
noncomputable def QT:=Zb VX λ i j=>.int (i ^ j.toNat)
variable {xr:XR}{a b c:Expr}{ma mb mc:Ev}{pos:Pos}
noncomputable def QW:W->Hx->R W
 | .int i,A=>.ok (.int (-i)) A
 | _,_=>.bad
structure kE (X:Cx)(op:CmpOp)(g:W->W->Hx->R W):Prop where
 ex:∃r:R2,qA X (compareOp op) r/\(∀x y A,qz (g x y A))/\jQ X.K r g
 mks:∀b,op≠.In->op≠.NotIn->behindInMarks op b=false
theorem QM {op:CmpOp}{r:R2}{g:W->W->Hx->R W}(h1:qA X (compareOp op) r)(h2:∀x y A,qz (g x y A))(h3:jQ X.K r g):kE X op g:=⟨⟨r,h1,h2,h3⟩,λ b a1 a2=>LX b a1 a2⟩
theorem Pc:kE X .Lt Q2:=QM Cg Zz (Zt λ _ _ _ _=>rfl)
theorem VS:kE X .LtE kB:=QM D6 Zz (Zt λ _ _ _ _=>rfl)
theorem Cy:kE X .Gt Uo:=QM DW Zz (Zt λ _ _ _ _=>rfl)
theorem CW:kE X .GtE Uj:=QM DE Zz (Zt λ _ _ _ _=>rfl)
end
inductive Ty where
 | non | bl | int | str | tup | lst | dct
 deriving DecidableEq
noncomputable def Ty.nm:Ty->String
 | .non => "NoneType" | .bl => "bool" | .int => "int" | .str => "str" | .tup => "tuple" | .lst => "list" | .dct => "dict"
noncomputable def qW (w:W)(A:Hx):Option Ty:=match w with
 | .non=>some .non
 | .bl _=>some .bl
 | .int _=>some .int
 | .str _=>some .str
 | .tup _=>some .tup
 | .ref n=>match A[n]? with
  | some (.lst _)=>some .lst
  | some (.dct _)=>some .dct
  | _=>none
 | _=>none
noncomputable def ym (a b:Ty):Bool:=a==b || (a==.bl&&b==.int)
theorem Y4 {K:Frag}(a b:Ty):PySem.W.kitOne K (.type a.nm) (.type b.nm)=some (ym a b):=by
 cases a<;>cases b<;>rfl
section
variable {X:Cx}{xr:XR}{K:Frag}{e a b c:Expr}{es:List Expr}{m ma mb mc:Ev}{pos:Pos}
noncomputable def Ql (K:Frag)(H:Hp)(x:V)(t:Ty):Prop:=kI K H x (.type t.nm)∨∃a xs,x=.ref a/\qp K H a xs/\t=.tup
theorem T6 {φ:List Addr}{A:Hx}{H:Hp}{w:W}{v:V}{t:Ty}(S:zF K φ A H)(q:RV K φ H w v)(e:qW w A=some t):Ql K H v t:=by
 cases w with
 | non=>cases e;obtain rfl:=q;exact .inl .non
 | bl k=>cases e;obtain rfl:=q;exact .inl (.bl k)
 | clo _ _ _=>cases e
 | xc _=>cases e
 | int k=>cases e;obtain rfl:=q;exact .inl (.int k)
 | str k=>cases e;obtain rfl:=q;exact .inl (.str k)
 | tup ws=>cases e;obtain ⟨a,vs,rfl,h,_⟩:=q;exact .inr ⟨a,vs,rfl,h,rfl⟩
 | ref n=>
  obtain ⟨a,rfl,h1⟩:=q
  unfold qW at e
  dsimp only at e
  cases eo:A[n]? with
  | none=>rw [eo] at e;cases e
  | some o=>
   rw [eo] at e
   obtain ⟨a',h2,r⟩:=S.ob n o eo
   rw [h1] at h2;cases h2
   cases o with
   | lst ws=>cases e;obtain ⟨vs,z,_⟩:=r;exact .inl (.lst z)
   | dct ws=>cases e;obtain ⟨vs,z,_⟩:=r;exact .inl (.dK z)
   | tab _ _=>cases e
   | ro ws=>cases e
theorem Ql.kit {pins:List (Addr × Obj)}{σ:St}{H:Hp}{s:Shared}{x:V}{u:Value}{t:Ty}(I:Inv X pins σ H s)(r:RelV x u)(h:Ql X.K H x t):
  (∀{Q:Value->Shared->Prop} {E:Value->Shared->Prop} {A:Around} {c:Ty},(∀tk,Q (.bool (ym t c)) { s with toks:=tk })->wpAny (model X.prog X.w) A (call (.builtin "isinstance") [u,.type c.nm]) Q E s):=by
 intro Q E A c hq
 rcases h with h | ⟨a,xs,rfl,h,rfl⟩
 ·exact Tz I r h (Y4 t c) hq
 ·cases (show u=Value.ref a from r)
  obtain ⟨its,_,⟨o,h1,h2,_⟩,_⟩:=I.tuple h
  exact PySem.W.kia_one PySem.W.kitx_tuple I.kIn ⟨o,h1,h2⟩ (Y4 .tup c) (λ z=>nomatch z) hq
noncomputable def Bg (K:Frag):List V->Hp->VK->Prop:=λ xs H Q=>∃x t c,xs=[x,.ty (Ty.nm c)]/\Ql K H x t/\Q (.bl (ym t c)) H
theorem IF:jK X (.builtin "isinstance") (Bg X.K):=by
 intro pins s σ H xs us Q I r h
 obtain ⟨x,t,c,rfl,ht,q⟩:=h
 obtain ⟨u,u',rfl,ru,ru'⟩:=vals2 r
 cases (show u'=Value.type c.nm from ru')
 exact ht.kit I ru λ tk=>⟨.bl (ym t c),H,I.tok tk,rfl,q⟩
noncomputable def jW (t:Ty)(m:Ev):Ev:=λ ρ A=>(m ρ A).bind λ w A1=>match qW w A1 with
 | some t'=>.ok (.bl (ym t' t)) A1
 | none=>.bad
noncomputable def zG:W->W->Hx->R W:=λ x y A=>match zU x A,y with
 | some ws,.int i=>match kx ws i with
  | some w=>.ok w A
  | none=>.bad
 | _,_=>.bad
theorem DI:∀x y A,qz (zG x y A):=λ x y A=>by
 unfold zG;split
 ·split
  ·exact jM
  ·exact qJ
 ·exact qJ
theorem LR {φ:List Addr}{H:Hp}{ws:List W}{ys:List V}{i:Int}{w:W}(r:zB K φ H ws ys)(e:kx ws i=some w):∃y,kx ys i=some y/\RV K φ H w y:=by
 unfold kx at e ⊢
 rw [<- r.length]
 cases h:wq ws.length i with
 | none=>rw [h] at e;cases e
 | some j=>
  rw [h] at e
  obtain ⟨y,h1,h2⟩:=r.get (i:=j) e
  exact ⟨y,h1,h2⟩
theorem FI:jQ K (Ph K) zG:=λ φ A H x y u v Q S q1 q2 p=>by
 unfold zG at p
 cases es:zU u A with
 | none=>rw [es] at p;exact p.elim
 | some ws=>
  rw [es] at p
  cases v with
  | int i=>
   obtain rfl:=q2
   dsimp only at p
   cases ei:kx ws i with
   | none=>rw [ei] at p;exact p.elim
   | some w=>
    rw [ei] at p
    obtain ⟨a,ys,rfl,z,r⟩:=Yq S q1 es
    obtain ⟨y',h1,h2⟩:=LR r ei
    rcases z with z | z
    ·exact .inl ⟨a,ys,i,y',rfl,rfl,z,h1,p φ H _ .refl S h2⟩
    ·exact .inr (.inl ⟨a,ys,i,y',rfl,rfl,z,h1,p φ H _ .refl S h2⟩)
  | non=>exact p.elim
  | bl _=>exact p.elim
  | str _=>exact p.elim
  | tup _=>exact p.elim
  | ref _=>exact p.elim
  | clo _ _ _=>exact p.elim
  | xc _=>exact p.elim
noncomputable def Qj (K:Frag)(r:List V->Hp->VK->Prop)(g:List W->Hx->R W):Prop:=∀φ A H a ys ws Q,zF K φ A H->(qS K H a ys∨qp K H a ys)->zB K φ H ws ys->(g ws A).post (PB K φ H Q) wI->r [.ref a] H Q
noncomputable def mQ (g:List W->Hx->R W)(q:jD):Ev:=λ ρ A=>(q ρ A).bind λ ws A1=>g ws A1
theorem mQ.read {r:List V->Hp->VK->Prop}{g:List W->Hx->R W}{q:jD}(hn:∀ws A,qz (g ws A))(hq:Qj X.K r g):∀σ H Q,tM X.K xr (mQ g q) σ H Q->K4 r (Ku (tQ X.K xr q) VZ) σ H Q:=by
 rintro σ H Q ⟨φ,A,ρ,S,re,h⟩
 refine ⟨φ,A,ρ,S,re,qv (zX.mp h) (λ ws A1 h1 φ1 H1 a ys l1 S1 z r=>?_) λ _ _ z=>z⟩
 exact hq φ1 A1 H1 a ys ws Q S1 z r (qv (Qz (hn _ _) h1) (λ _ _ z=>z.mono l1) λ _ _ z=>z)
theorem Vm {id:String}{x:Str}{p:Pos}{r:List V->Hp->VK->Prop}{g:List W->Hx->R W}{q:jD}(hc:jK X (.builtin id) r)(hn:∀ws A,qz (g ws A))(hq:Qj X.K r g)(hm:X.mg x=none)(hv:bootBuiltins x=some (.builtin id))(ha:SQ X xr e q)(hg:Gl X x:=by rfl)
  (hn':x ≠ "__name__" := by decide)(hdb:(x==("__debug__" : Str))=false:=by decide)(he:starEach [e] X.env=(false,eval e X.env)::starEach [] X.env:=by rfl)(hpl:(backTo pos (starEach [] X.env)).any (·.1)=false:=by rfl):
  SE X xr (.Call (.Name x p) [e] [] pos) (mQ g q):=PE.imp (Zh hc hg hm hv (jn ha jY he) hn' hdb he hpl) (mQ.read hn hq)
theorem DM {id:String}{x:Str}{p:Pos}{r:List V->Hp->VK->Prop}{g:List W->Hx->R W}{q:jD}(hc:jK X (.type id) r)(hn:∀ws A,qz (g ws A))(hq:Qj X.K r g)(hm:X.mg x=none)(hv:bootBuiltins x=some (.type id))(ha:SQ X xr e q)(hg:Gl X x:=by rfl)
  (hn':x ≠ "__name__" := by decide)(hdb:(x==("__debug__" : Str))=false:=by decide)(he:starEach [e] X.env=(false,eval e X.env)::starEach [] X.env:=by rfl)(hpl:(backTo pos (starEach [] X.env)).any (·.1)=false:=by rfl):
  SE X xr (.Call (.Name x p) [e] [] pos) (mQ g q):=PE.imp (Qw hc hg hm hv (jn ha jY he) hn' hdb he hpl) (mQ.read hn hq)
noncomputable def qK:List W->Hx->R W:=λ ws A=>.ok (.int ws.length) A
theorem IY:Qj K (λ xs H Q=>∃p ys,xs=[.ref p]/\(qS K H p ys∨qp K H p ys)/\Q (.int ys.length) H) qK:=λ φ A H a ys ws Q S z r p=>
 ⟨a,ys,rfl,z,by rw [<- r.length];exact p φ H _ .refl S rfl⟩
noncomputable def j0:List W->Hx->R W:=λ ws A=>.ok (.tup ws) A
theorem Fe:Qj K (λ xs H Q=>∃p ys,xs=[.ref p]/\((qS K H p ys/\∀l,H l=none->Q (.ref l) (upd H l (.tup ys)))∨(qp K H p ys/\Q (.ref p) H))) j0:=λ φ A H a ys ws Q S z r p=>by
 refine ⟨a,ys,rfl,?_⟩
 rcases z with z | z
 ·refine .inl ⟨z,λ l hl=>?_⟩
  obtain ⟨a1,a2,a3⟩:=Z0 S hl r
  exact p _ _ _ a1 a2 a3
 ·exact .inr ⟨z,p φ H _ .refl S ⟨a,ys,rfl,z,r⟩⟩
end
section
variable {X:Cx}{xr:XR}{K:Frag}{e a b c:Expr}{es:List Expr}{m ma mb mc:Ev}{pos:Pos}
theorem T3 {pins:List (Addr × Obj)}{σ:St}{H:Hp}{s:Shared}{a:Addr}{ys:List V}(I:Inv X pins σ H s)(hc:X.calm=true)(z:qS X.K H a ys∨qp X.K H a ys){E:Value->Shared->Prop}{Q:Value->Shared->Prop}
  (h:∀(its:List Value) (I':Addr) (fp wr:List Addr) (St':Nat->Heap->Prop) (s2:Shared),Vals ys its->ys.length<=sizeLine->Walks X.prog X.w X.A.in1 I' fp wr its.length (λ i v=>its[i]? =some v) St'->St' 0 s2.heap->(∀b∈fp,b<s2.heap.objs.size)->
   (∀(h':Heap) (tk:Nat),(∀b o,b∉wr->s2.heap.get? b=some o->h'.get? b=some o)->Inv X pins σ H { s2 with heap:=h',toks:=tk })->Q (.ref I') s2):
  wpAny (model X.prog X.w) X.A.in1 (pyIter (.ref a)) Q E s:=by
 have hh:X.A.in1.handled=none:=I.ok.hd hc
 have keep:∀(o:Obj) (h':Heap) (tk:Nat),(∀b u,b∉[s.heap.objs.size]->(s.heap.push o).get? b=some u->h'.get? b=some u)->Inv X pins σ H { s with heap:=h',toks:=tk }:=λ o h' tk k=>I.kept λ b u e=>k b u (by
  intro hm
  have e1:b=s.heap.objs.size:=by simpa using hm
  exact absurd (e1 ▸ Heap.lt_size e) (Nat.lt_irrefl _)) (Heap.get?_push_of_some _ e)
 rcases z with z | z
 ·obtain ⟨its,rv,p,hz⟩:=I.list z
  have hlt:a<s.heap.objs.size:=by obtain ⟨o,n,e,_⟩:=p;exact Heap.lt_size e
  refine wpAny_pyIter_list p.isList ?_
  have W:=Walks.list (prog:=X.prog) (w:=X.w) hh s.heap.objs.size a (Nat.ne_of_lt hlt) its.toArray
  rw [List.size_toArray] at W
  simp only [List.getElem?_toArray] at W
  refine h its s.heap.objs.size _ _ _ _ rv hz W ⟨⟨_,Heap.get?_push_size _ rfl,rfl,rfl⟩,p.isList.at λ o e=>Heap.get?_push_of_some _ e⟩ (λ b hb=>?_) λ h' tk k=>keep _ h' tk k
  show b<(s.heap.push _).objs.size
  rw [Heap.size_push]
  rcases List.mem_cons.mp hb with e | hb
  ·rw [e];exact Nat.lt_succ_self _
  ·have e:b=a:=by simpa using hb
   rw [e];exact Nat.lt_succ_of_lt hlt
 ·obtain ⟨its,rv,p,hz⟩:=I.tuple z
  have hlt:a<s.heap.objs.size:=p.lt
  have p':s.heap.IsTuple a its.toArray:=p
  refine wpAny_pyIter_tuple p' ?_
  have W:=Walks.tuple (prog:=X.prog) (w:=X.w) hh s.heap.objs.size a (Nat.ne_of_lt hlt) its.toArray
  rw [List.size_toArray] at W
  simp only [List.getElem?_toArray] at W
  refine h its s.heap.objs.size _ _ _ _ rv hz W ⟨⟨_,Heap.get?_push_size _ rfl,rfl,rfl⟩,p'.at λ o e=>Heap.get?_push_of_some _ e⟩ (λ b hb=>?_) λ h' tk k=>keep _ h' tk k
  show b<(s.heap.push _).objs.size
  rw [Heap.size_push]
  rcases List.mem_cons.mp hb with e | hb
  ·rw [e];exact Nat.lt_succ_self _
  ·have e:b=a:=by simpa using hb
   rw [e];exact Nat.lt_succ_of_lt hlt
noncomputable def JF:V->Option Bool
 | .bl b=>some b
 | .int i=>some (i != 0)
 | .non=>some false
 | _=>none
noncomputable def JJ:W->Option Bool
 | .bl b=>some b
 | .int i=>some (i != 0)
 | .non=>some false
 | _=>none
theorem LQ {φ:List Addr}{H:Hp}{w:W}{v:V}{k:Bool}(q:RV K φ H w v)(e:JJ w=some k):JF v=some k:=by
 cases w<;>first
  | (cases e;done)
  | (obtain rfl:=q;exact e)
theorem Mf {A:Around}{v:V}{u:Value}{k:Bool}{s:Shared}{Q:Bool->Shared->Prop}{E:Value->Shared->Prop}(r:RelV v u)(e:JF v=some k)(h:Q k s):wpAny (model X.prog X.w) A (truthy u) Q E s:=by
 cases v with
 | bl b=>cases e;cases r;exact wpAny_truthy_bool h
 | int i=>
  cases e
  obtain ⟨t,rfl⟩:=r
  exact PySem.P.truthy_int h
 | non=>cases e;cases r;exact λ _ _ _=>h
 | _=>cases e
noncomputable def wA:List W->Option (List Bool)
 | []=>some []
 | w::ws=>match JJ w,wA ws with
  | some k,some ks=>some (k::ks)
  | _,_=>none
theorem UT {φ:List Addr}{H:Hp}:∀{ws:List W} {ys:List V} {ks:List Bool},zB K φ H ws ys->wA ws=some ks->∀(i:Nat) (y:V),ys[i]? =some y->∃k,ks[i]? =some k/\JF y=some k
 | [],_,_,r,e,i,y,h=>by cases r;simp at h
 | w::ws,_,ks,⟨v,r,e1,q,t⟩,e,i,y,h=>by
  subst e1
  unfold wA at e
  cases e2:JJ w with
  | none=>rw [e2] at e;cases e
  | some k=>
   cases e3:wA ws with
   | none=>rw [e2,e3] at e;cases e
   | some ks'=>
    rw [e2,e3] at e
    cases e
    cases i with
    | zero=>simp at h;subst h;exact ⟨k,by simp,LQ q e2⟩
    | succ i=>simp at h;obtain ⟨k',h1,h2⟩:=UT t e3 i y h;exact ⟨k',by simpa using h1,h2⟩
theorem U1:∀{ws:List W} {ks:List Bool},wA ws=some ks->ks.length=ws.length
 | [],_,e=>by cases e;rfl
 | w::ws,ks,e=>by
  unfold wA at e
  cases e2:JJ w with
  | none=>rw [e2] at e;cases e
  | some k=>
   cases e3:wA ws with
   | none=>rw [e2,e3] at e;cases e
   | some ks'=>rw [e2,e3] at e;cases e;simp [U1 e3]
theorem range_all (ks:List Bool):(List.range ks.length).all (λ i=>ks.getD i false)=ks.all id:=by
 rw [Bool.eq_iff_iff,List.all_eq_true,List.all_eq_true]
 constructor
 ·intro h x hx
  obtain ⟨i,hi,rfl⟩:=List.getElem_of_mem hx
  have:=h i (List.mem_range.mpr hi)
  rw [List.getD_eq_getElem?_getD,List.getElem?_eq_getElem hi] at this
  exact this
 ·intro h i hi
  have hi':=List.mem_range.mp hi
  rw [List.getD_eq_getElem?_getD,List.getElem?_eq_getElem hi']
  exact h _ (List.getElem_mem hi')
noncomputable def RY (K:Frag)(f:List Bool->Bool):List V->Hp->VK->Prop:=λ xs H Q=>∃a ys ks,xs=[.ref a]/\(qS K H a ys∨qp K H a ys)/\ks.length=ys.length/\(∀(i:Nat) (y:V),ys[i]? =some y->∃k,ks[i]? =some k/\JF y=some k)/\Q (.bl (f ks)) H
theorem Ig {ys:List V}{its:List Value}{ks:List Bool}{A:Around}(rv:Vals ys its)(hl:ks.length=ys.length)(ht:∀(i:Nat) (y:V),ys[i]? =some y->∃k,ks[i]? =some k/\JF y=some k):TruthOf X.prog X.w A (λ i v=>its[i]? =some v) λ i=>ks.getD i false:=by
 intro i v s Q E hP hQ
 have hi:i<its.length:=(List.getElem?_eq_some_iff.mp hP).1
 have hi':i<ys.length:=by rw [rv.length];exact hi
 obtain ⟨u,h1,h2⟩:=rv.get (i:=i) (x:=ys[i]) (by simp [hi'])
 rw [hP] at h1;cases h1
 obtain ⟨k,h3,h4⟩:=ht i ys[i] (by simp [hi'])
 dsimp only at hQ
 rw [List.getD_eq_getElem?_getD,h3] at hQ
 exact Mf h2 h4 hQ
theorem Lk (hc:X.calm=true):jK X (.builtin "all") (RY X.K λ ks=>ks.all id):=by
 intro pins s σ H xs us Q I r h
 obtain ⟨a,ys,ks,rfl,z,hl,ht,q⟩:=h
 obtain ⟨u,rfl,ru⟩:=vals1 r
 cases ru
 refine call_all_walk (T3 I hc z λ its I' fp wr St' s2 rv hz W st hfp back=>?_)
 refine ⟨I',fp,wr,_,_,St',λ i=>ks.getD i false,rfl,W,st,Ig rv hl ht,λ h' tk k=>?_⟩
 have e:its.length=ks.length:=by rw [hl,rv.length]
 rw [e,range_all]
 exact ⟨.bl _,H,back h' tk k,rfl,q⟩
noncomputable def gU (f:List Bool->Bool):List W->Hx->R W:=λ ws A=>match wA ws with
 | some ks=>.ok (.bl (f ks)) A
 | none=>.bad
theorem EZ {f:List Bool->Bool}:∀ws A,qz (gU f ws A):=λ ws A=>by
 unfold gU;split
 ·exact jM
 ·exact qJ
theorem Fi {f:List Bool->Bool}:Qj K (RY K f) (gU f):=λ φ A H a ys ws Q S z r p=>by
 unfold gU at p
 cases e:wA ws with
 | none=>rw [e] at p;exact p.elim
 | some ks=>
  rw [e] at p
  exact ⟨a,ys,ks,rfl,z,by rw [U1 e,r.length],UT r e,p φ H _ .refl S rfl⟩
noncomputable abbrev ZA:=gU λ ks=>ks.all id
end
noncomputable def R7 (outer sc:Scope):Bool:=sc.kind==.function&&decide ((sc.names.map (·.1)).Nodup)&&sc.names.all λ y=>y.2 != .free || (outer.names.lookup y.1==some .cell || outer.names.lookup y.1==some .free)
theorem cps {X:Cx}{sc:Scope}(h:R7 X.env.scope sc=true):gJ X sc:=by
 unfold R7 at h
 rw [Bool.and_eq_true,Bool.and_eq_true,decide_eq_true_iff,beq_iff_eq,List.all_eq_true] at h
 refine ⟨h.1.1,h.1.2,λ y hy e=>?_⟩
 have:=h.2 y hy
 rw [e] at this
 simp only [bne_self_eq_false,Bool.false_or,Bool.or_eq_true,beq_iff_eq] at this
 exact this
section
variable {X:Cx}{xr:XR}{K:Frag}{e a b c:Expr}{es:List Expr}{m ma mb mc:Ev}{pos:Pos}
theorem zF.lst {φ:List Addr}{A:Hx}{H:Hp}{n:Nat}{ws:List W}{v:V}(S:zF K φ A H)(q:RV K φ H (.ref n) v)(e:A[n]? =some (.lst ws)):∃p vs,v=.ref p/\φ[n]? =some p/\H p=some (.lst vs)/\zB K φ H ws vs:=by
 obtain ⟨p,rfl,h1⟩:=q
 obtain ⟨p',h2,vs,h3,h4⟩:=S.ob n _ e
 rw [h1] at h2;cases h2
 exact ⟨p,vs,rfl,h1,h3,h4⟩
theorem LV {prog:Program}{w:World}{A:Around}{E:Value->Shared->Prop}{s:Shared}{t b:Addr}{ws:List Value}{Q:Value->Shared->Prop}(ht:IsTup s.heap t ([]:List Value).toArray)(hb:IsTup s.heap b ws.toArray)(h0:Q (.ref b) s):
  wpAny (model prog w) A (binaryOp .Add (.ref t) (.ref b)) Q E s:=by
 obtain ⟨⟨cls,dd,data,sl⟩,ho,hc,n,hd⟩:=id ht
 obtain ⟨⟨cls2,dd2,data2,sl2⟩,ho2,hc2,n2,hd2⟩:=id hb
 simp only at hc hd hc2 hd2
 subst hc hd hc2 hd2
 exact concat_meets ⟨_,ho,rfl⟩ ⟨_,ho2,rfl⟩ noFill_tuple_add seq_tuple_add PySem.F.slot_tuple_add PySem.F.entry_tuple_add (PySem.F.args_tuple_add_2 _ _)
   (tuple_addW0 t b ([]:List Value).toArray ws.toArray n n2 dd dd2 sl sl2 (by simp)) ⟨ho,ho2,h0⟩
noncomputable def Rg (K:Frag):R2:=λ x y H Q=>∃a b ys,x=.ref a/\y=.ref b/\qp K H a []/\qp K H b ys/\Q (.ref b) H
theorem Iz:qA X (binaryOp .Add) (Rg X.K):=by
 intro pins s σ H x y v u Q I rx ry h
 obtain ⟨a,b,ys,rfl,rfl,ha,hb,q⟩:=h
 cases rx
 cases ry
 obtain ⟨its,r1,p1,_⟩:=I.tuple ha
 obtain ⟨its2,r2,p2,_⟩:=I.tuple hb
 cases r1
 exact LV p1 p2 ⟨.ref b,H,I,rfl,q⟩
noncomputable def z8:W->W->Hx->R W:=λ x y A=>match x,y with
 | .int i,.int j=>.ok (.int (i+j)) A
 | .tup xs,.tup ys=>if xs.length+ys.length<=zW then .ok (.tup (xs++ys)) A else .bad
 | .ref n,.ref k=>match A[n]?,A[k]? with
  | some (.lst xs),some (.lst ys)=>if xs.length+ys.length<=zW then .ok (.ref A.length) (A++[.lst (xs++ys)]) else .bad
  | _,_=>.bad
 | _,_=>.bad
theorem F3:∀x y A,qz (z8 x y A):=λ x y A=>by
 unfold z8
 split
 ·exact jM
 ·exact wZ jM qJ
 ·split
  ·exact wZ jM qJ
  ·exact qJ
 ·exact qJ
theorem gG {n:Nat}(h:n<=zW):n<=sizeLine:=by
 have:sizeLine=16777216:=sizeLine_eq
 unfold zW at h
 omega
theorem HA:jQ K (λ x y H Q=>wJ (λ i j=>.int (i+j)) x y H Q∨RS K x y H Q∨Rg K x y H Q∨R0 x y H Q) z8:=λ φ A H x y u v Q S q1 q2 p=>by
 cases u with
 | int i=>cases v with
  | int j=>obtain rfl:=q1;obtain rfl:=q2;exact .inl ⟨i,j,rfl,rfl,p φ H _ .refl S rfl⟩
  | _=>exact p.elim
 | tup xs=>cases v with
  | tup ys=>
   obtain ⟨a1,vs1,rfl,t1,r1⟩:=q1
   obtain ⟨a2,vs2,rfl,t2,r2⟩:=q2
   unfold z8 at p
   dsimp only at p
   by_cases hz:xs.length+ys.length<=zW
   ·rw [if_pos hz] at p
    by_cases hx:vs1=[]
    ·subst hx
     have e0:xs=[]:=by
      have:=r1.length
      simpa using this
     subst e0
     exact .inr (.inr (.inl ⟨a1,a2,vs2,rfl,rfl,t1,t2,p φ H _ .refl S ⟨a2,vs2,rfl,t2,r2⟩⟩))
    ·refine .inr (.inl ⟨a1,a2,vs1,vs2,rfl,rfl,t1,t2,hx,by rw [<- r1.length,<- r2.length];exact gG hz,λ e=>?_,λ ne l hl=>?_⟩)
     ·subst e
      have e0:ys=[]:=by
       have:=r2.length
       simpa using this
      subst e0
      rw [List.append_nil] at p
      exact p φ H _ .refl S ⟨a1,vs1,rfl,t1,r1⟩
     ·obtain ⟨b1,b2,b3⟩:=Z0 S hl (r1.append r2)
      exact p _ _ _ b1 b2 b3
   ·rw [if_neg hz] at p;exact p.elim
  | _=>exact p.elim
 | ref n=>cases v with
  | ref k=>
   unfold z8 at p
   dsimp only at p
   cases e1:A[n]? with
   | none=>rw [e1] at p;exact p.elim
   | some o1=>cases o1 with
    | lst xs=>
     cases e2:A[k]? with
     | none=>rw [e1,e2] at p;exact p.elim
     | some o2=>cases o2 with
      | lst ys=>
       rw [e1,e2] at p
       dsimp only at p
       obtain ⟨p1,v1,rfl,f1,g1,r1⟩:=S.lst q1 e1
       obtain ⟨p2,v2,rfl,f2,g2,r2⟩:=S.lst q2 e2
       by_cases hz:xs.length+ys.length<=zW
       ·rw [if_pos hz] at p
        refine .inr (.inr (.inr ⟨p1,p2,v1,v2,rfl,rfl,g1,g2,by rw [<- r1.length,<- r2.length];exact gG hz,λ l hl=>?_⟩))
        obtain ⟨b1,b2,b3⟩:=ZW S hl (r1.append r2)
        exact p _ _ _ b1 b2 b3
       ·rw [if_neg hz] at p;exact p.elim
      | _=>rw [e1,e2] at p;exact p.elim
    | _=>rw [e1] at p;exact p.elim
  | _=>exact p.elim
 | _=>cases v<;>exact p.elim
noncomputable def jf:W->W->Hx->R W:=λ x y A=>match x,y with
 | .int i,.int j=>if JH i j then .ok (.int (i * j)) A else .bad
 | .ref n,.int k=>match A[n]? with
  | some (.lst xs)=>if jz k&&decide (xs.length * k.toNat<=zW) then .ok (.ref A.length) (A++[.lst (List.replicate k.toNat xs).flatten]) else .bad
  | _=>.bad
 | _,_=>.bad
theorem Dh:∀x y A,qz (jf x y A):=λ x y A=>by
 unfold jf
 split
 ·exact wZ jM qJ
 ·split
  ·exact wZ jM qJ
  ·exact qJ
 ·exact qJ
theorem zB.rep {φ:List Addr}{H:Hp}{ws:List W}{vs:List V}(r:zB K φ H ws vs):∀n:Nat,zB K φ H (List.replicate n ws).flatten (List.replicate n vs).flatten
 | 0=>.nil
 | n+1=>by rw [List.replicate_succ,List.replicate_succ,List.flatten_cons,List.flatten_cons];exact r.append (zB.rep r n)
theorem HS:jQ K (λ x y H Q=>rI JO (λ i j=>.int (i * j)) x y H Q∨R5 x y H Q) jf:=λ φ A H x y u v Q S q1 q2 p=>by
 cases v with
 | int j=>cases u with
  | int i=>
   obtain rfl:=q1;obtain rfl:=q2
   unfold jf at p
   dsimp only at p
   by_cases hc:JH i j=true
   ·rw [if_pos hc] at p;exact .inl ⟨i,j,rfl,rfl,Hy i j hc,p φ H _ .refl S rfl⟩
   ·rw [if_neg hc] at p;exact p.elim
  | ref n=>
   obtain rfl:=q2
   unfold jf at p
   dsimp only at p
   cases e1:A[n]? with
   | none=>rw [e1] at p;exact p.elim
   | some o1=>cases o1 with
    | lst xs=>
     rw [e1] at p
     dsimp only at p
     obtain ⟨p1,v1,rfl,f1,g1,r1⟩:=S.lst q1 e1
     by_cases hz:(jz j&&decide (xs.length * j.toNat<=zW))=true
     ·rw [if_pos hz] at p
      rw [Bool.and_eq_true,decide_eq_true_iff] at hz
      obtain ⟨b1,b2⟩:=Qv hz.1
      refine .inr ⟨p1,j,v1,rfl,rfl,g1,by omega,by omega,by rw [<- r1.length];exact gG hz.2,λ l hl=>?_⟩
      obtain ⟨c1,c2,c3⟩:=ZW S hl (r1.rep j.toNat)
      exact p _ _ _ c1 c2 c3
     ·rw [if_neg hz] at p;exact p.elim
    | _=>rw [e1] at p;exact p.elim
  | _=>exact p.elim
 | _=>cases u<;>exact p.elim
noncomputable def wu:W->W->Hx->R W:=λ x y A=>match x with
 | .ref n=>match A[n]? with
  | some (.lst ws)=>if ws.length<zW then .ok .non (A.set n (.lst (ws++[y]))) else .bad
  | _=>.bad
 | _=>.bad
noncomputable def QY (x:W)(A:Hx):Bool:=match x with
 | .ref n=>match A[n]? with
  | some (.lst _)=>true
  | _=>false
 | _=>false
theorem MV {φ:List Addr}{A:Hx}{H:Hp}{w:W}{v:V}(S:zF K φ A H)(q:RV K φ H w v)(e:QY w A=true):Ul K "list" v H:=by
 unfold QY at e
 cases w with
 | ref n=>
  dsimp only at e
  cases e1:A[n]? with
  | none=>rw [e1] at e;cases e
  | some o=>cases o with
   | lst ws=>obtain ⟨p,vs,rfl,_,h,_⟩:=S.lst q e1;exact .inl ⟨rfl,_,qS.of h⟩
   | _=>rw [e1] at e;cases e
 | _=>cases e
noncomputable def yV (g:W->W->Hx->R W)(a b:Ev):Ev:=λ ρ A=>(a ρ A).bind λ x A1=>if QY x A1 then (b ρ A1).bind λ y A2=>g x y A2 else .bad
theorem VQ {nm:Str}{id:String}{r:V->List V->Hp->VK->Prop}{g:W->W->Hx->R W}{apos cpos:Pos}(slot:Slot "list" nm id)(hty:typeOf (.builtin id)=pure (.type "method_descriptor"))(hm:Pp X id r)(hn:∀x y A,qz (g x y A))
  (hg:∀φ A H x y u v Q,zF X.K φ A H->RV X.K φ H u x->RV X.K φ H v y->(g u v A).post (PB X.K φ H Q) wI->r x [y] H Q)(ho:SE X xr a ma)(he:SE X xr b mb)
  (hs:starEach [b] X.env=(false,eval b X.env)::starEach [] X.env)(hbase:attributeBase a nm X.env (eval a X.env)=eval a X.env)
  (hfew:((backTo cpos (starEach [b] X.env)).all (λ x=>!x.1)&&(backToKw cpos (keywordEach [] X.env)).all (λ x=>x.1.isSome)
   && decide ([b].length+([]:List Keyword).length+(if ([]:List Keyword).isEmpty then 0 else 1)<30))=true)(hline:(apos.endLine==cpos.line)=true):
  SE X xr (.Call (.Attribute a nm apos) [b] [] cpos) (yV g ma mb):=
 PE.imp (DD PySem.F.plainAttrs_list slot hty hm ho (jn he jY hs) hbase hfew hline hs (by rfl)) λ σ H Q ⟨φ,A,ρ,S,re,h⟩=>by
  refine tM.go S re (zX.mp h) λ w A1 φ1 H1 v h1 l1 S1 q1=>?_
  by_cases hl:QY w A1=true
  ·rw [if_pos hl] at h1
   refine ⟨MV S1 q1 hl,?_⟩
   refine tM.go S1 (re.mono l1) (qv (zX.mp h1) (λ _ _ z=>z) λ _ _ z=>z.mono l1) λ w2 A2 φ2 H2 v2 h2 l2 S2 q2=>?_
   exact hg φ2 A2 H2 v v2 w w2 Q S2 (q1.mono l2) q2 (qv (Qz (hn _ _ _) h2) (λ _ _ z=>z.mono (l1.trans l2)) λ _ _ z=>z)
  ·rw [if_neg hl] at h1;exact h1.elim
theorem Mc:∀x y A,qz (wu x y A):=λ x y A=>by
 unfold wu
 split
 ·split
  ·exact wZ jM qJ
  ·exact qJ
 ·exact qJ
noncomputable def w5:W->W->Hx->R W:=λ x y A=>match x,y with
 | .ref n,.int i=>match A[n]? with
  | some (.lst ws)=>match (if jz i then seqIndex? i ws.length else none) with
   | some k=>match ws[k]? with
    | some w=>.ok w (A.set n (.lst (ws.eraseIdx k)))
    | none=>.bad
   | none=>.bad
  | _=>.bad
 | _,_=>.bad
theorem IC:∀x y A,qz (w5 x y A):=λ x y A=>by
 unfold w5
 split
 ·split
  ·split
   ·split
    ·exact jM
    ·exact qJ
   ·exact qJ
  ·exact qJ
 ·exact qJ
noncomputable def yL:W->W->W->Hx->R Unit:=λ o i v A=>match o,i with
 | .ref n,.int k=>match A[n]? with
  | some (.lst ws)=>match wq ws.length k with
   | some j=>.ok () (A.set n (.lst (ws.set j v)))
   | none=>.bad
  | _=>.bad
 | _,_=>.bad
theorem F2:∀o i v A,qz (yL o i v A):=λ o i v A=>by
 unfold yL
 split
 ·split
  ·split
   ·exact jM
   ·exact qJ
  ·exact qJ
 ·exact qJ
theorem IP:RU K RQ yL:=λ φ A H o i v wo wi wv Q S q1 q2 q3 p=>by
 unfold yL at p
 cases wo with
 | ref n=>cases wi with
  | int k=>
   obtain rfl:=q2
   dsimp only at p
   cases e1:A[n]? with
   | none=>rw [e1] at p;exact p.elim
   | some o1=>cases o1 with
    | lst ws=>
     rw [e1] at p
     dsimp only at p
     cases e2:wq ws.length k with
     | none=>rw [e2] at p;exact p.elim
     | some j=>
      rw [e2] at p
      obtain ⟨l,vs,rfl,f1,g1,r1⟩:=S.lst q1 e1
      have ln:Le K φ H φ (upd H l (.lst (vs.set j v))):=Le.upd f1 (λ xs z=>by rw [g1] at z;cases z) (λ _ _ z=>by rw [g1] at z;cases z)
      obtain ⟨w1,w2⟩:=S.write (o:=.lst ws) (o':=.lst (ws.set j wv)) e1 rfl rfl f1 ⟨_,jw,(r1.mono ln).set (q3.mono ln) j⟩
      exact ⟨l,vs,k,j,rfl,rfl,g1,by rw [<- r1.length];exact e2,p _ _ w1 w2⟩
    | _=>rw [e1] at p;exact p.elim
  | _=>exact p.elim
 | _=>cases wi<;>exact p.elim
end
section
variable {X:Cx}{xr:XR}{K:Frag}{e a b c:Expr}{es:List Expr}{m ma mb mc:Ev}{pos:Pos}
theorem DS {id:String}{x:Str}{p:Pos}{r:List V->Hp->VK->Prop}{g:W->Hx->R W}(hc:jK X (.builtin id) r)(hn:∀w A,qz (g w A))(hg:K5 X.K (λ v=>r [v]) g)(hm:X.mg x=none)(hv:bootBuiltins x=some (.builtin id))(ha:SE X xr e m)(hgl:Gl X x:=by rfl)
  (hn':x ≠ "__name__" := by decide)(hdb:(x==("__debug__" : Str))=false:=by decide)(he:starEach [e] X.env=(false,eval e X.env)::starEach [] X.env:=by rfl)(hpl:(backTo pos (starEach [] X.env)).any (·.1)=false:=by rfl):
  SE X xr (.Call (.Name x p) [e] [] pos) (jV g m):=PE.imp (Zh hc hgl hm hv (jn ha jY he) hn' hdb he hpl) λ σ H Q h=>jV.read (r:=λ v=>r [v]) hn hg σ H Q h
theorem FZ {id:String}{x:Str}{p:Pos}{r:List V->Hp->VK->Prop}{g:W->Hx->R W}(hc:jK X (.type id) r)(hn:∀w A,qz (g w A))(hg:K5 X.K (λ v=>r [v]) g)(hm:X.mg x=none)(hv:bootBuiltins x=some (.type id))(ha:SE X xr e m)(hgl:Gl X x:=by rfl)
  (hn':x ≠ "__name__" := by decide)(hdb:(x==("__debug__" : Str))=false:=by decide)(he:starEach [e] X.env=(false,eval e X.env)::starEach [] X.env:=by rfl)(hpl:(backTo pos (starEach [] X.env)).any (·.1)=false:=by rfl):
  SE X xr (.Call (.Name x p) [e] [] pos) (jV g m):=PE.imp (Qw hc hgl hm hv (jn ha jY he) hn' hdb he hpl) λ σ H Q h=>jV.read (r:=λ v=>r [v]) hn hg σ H Q h
theorem Vv {id:String}{x:Str}{p:Pos}{r:List V->Hp->VK->Prop}{g:W->W->Hx->R W}(hc:jK X (.builtin id) r)(hn:∀w w' A,qz (g w w' A))(hg:jQ X.K (λ v v'=>r [v,v']) g)(hm:X.mg x=none)(hv:bootBuiltins x=some (.builtin id))(ha:SE X xr a ma)(hb:SE X xr b mb)(hgl:Gl X x)
  (hn':x ≠ "__name__")(hdb:(x==("__debug__" : Str))=false)(h1:starEach [a,b] X.env=(false,eval a X.env)::starEach [b] X.env)(h2:starEach [b] X.env=(false,eval b X.env)::starEach [] X.env)(hpl:(backTo pos (starEach [b] X.env)).any (·.1)=false):
  SE X xr (.Call (.Name x p) [a,b] [] pos) (zp g ma mb):=PE.imp (Zh hc hgl hm hv (jn ha (jn hb jY h2) h1) hn' hdb h1 hpl) λ σ H Q h=>zp.read (r:=λ v v'=>r [v,v']) hn hg σ H Q h
noncomputable def JG:W->Hx->R W
 | .int i,A=>.ok (.int (if i<0 then -i else i)) A
 | _,_=>.bad
noncomputable def Qg:W->Hx->R W
 | .int i,A=>.ok (.int i) A
 | .bl k,A=>.ok (.int (if k then 1 else 0)) A
 | _,_=>.bad
noncomputable def VO:=wL λ i j=>.int (if j > i then j else i)
noncomputable def Zx:=wL λ i j=>.int (if j<i then j else i)
noncomputable def k9:W->Bool
 | .tup _=>false
 | .ref _=>false
 | .clo _ _ _=>false
 | .xc _=>false
 | _=>true
noncomputable def RZ:W->W->Bool
 | .non,.non=>true
 | .bl a,.bl b=>a==b
 | .bl a,.int b=>(if a then 1 else 0)==b
 | .int a,.bl b=>a==(if b then 1 else 0)
 | .int a,.int b=>a==b
 | .str a,.str b=>a==b
 | _,_=>false
noncomputable def QZ (x:W)(xs:List W):Bool:=xs.any λ y=>RZ y x
theorem TJ {φ:List Addr}{H:Hp}{w:W}{v:V}(q:RV K φ H w v)(e:k9 w=true):w9 v=true:=by
 cases w<;>first
  | (cases e;done)
  | (obtain rfl:=q;rfl)
theorem N4 {φ:List Addr}{H:Hp}{w w':W}{v v':V}(q:RV K φ H w v)(q':RV K φ H w' v')(e:k9 w=true)(e':k9 w'=true):Za v v'=RZ w w':=by
 cases w<;>cases w'<;>first
  | (cases e;done)
  | (cases e';done)
  | (obtain rfl:=q;obtain rfl:=q';rfl)
theorem Sa {φ:List Addr}{H:Hp}{x:W}{v:V}(q:RV K φ H x v)(e:k9 x=true):∀{xs:List W} {vs:List V},zB K φ H xs vs->xs.all k9=true->vs.all w9=true/\Wb v vs=QZ x xs
 | [],_,r,_=>by cases r;exact ⟨rfl,rfl⟩
 | w::ws,_,⟨y,r,e1,h,t⟩,h2=>by
  subst e1
  rw [List.all_cons,Bool.and_eq_true] at h2
  obtain ⟨i1,i2⟩:=Sa q e t h2.2
  refine ⟨by rw [List.all_cons,TJ h h2.1,i1];rfl,?_⟩
  unfold Wb QZ at i2 ⊢
  rw [List.any_cons,List.any_cons,i2,N4 h q h2.1 e]
noncomputable def Qh (neg:Bool):W->W->Hx->R W:=λ x y A=>match zU y A with
 | some ws=>if k9 x&&ws.all k9 then .ok (.bl (if neg then !QZ x ws else QZ x ws)) A else .bad
 | none=>.bad
noncomputable abbrev K6:=Qh false
theorem FG {n:Bool}:∀x y A,qz (Qh n x y A):=λ x y A=>by
 unfold Qh
 split
 ·exact wZ jM qJ
 ·exact qJ
theorem FF {n:Bool}:jQ K (Pl K n) (Qh n):=λ φ A H x y u v Q S q1 q2 p=>by
 unfold Qh at p
 cases es:zU v A with
 | none=>rw [es] at p;exact p.elim
 | some ws=>
  rw [es] at p
  dsimp only at p
  by_cases hf:(k9 u&&ws.all k9)=true
  ·rw [if_pos hf] at p
   rw [Bool.and_eq_true] at hf
   obtain ⟨a,ys,rfl,z,r⟩:=Yq S q2 es
   obtain ⟨i1,i2⟩:=Sa q1 hf.1 r hf.2
   exact ⟨a,ys,rfl,z,TJ q1 hf.1,i1,by rw [i2];exact p φ H _ .refl S rfl⟩
  ·rw [if_neg hf] at p;exact p.elim
structure Ua (X:Cx)(op:CmpOp)(g:W->W->Hx->R W):Prop where
 ex:∃r:R2,qA X (compareOp op) r/\(∀x y A,qz (g x y A))/\jQ X.K r g
theorem R4:Ua X .In K6:=⟨_,MB,FG,FF⟩
end
noncomputable def j4 (f:W->Option PyData):List W->Option (List PyData)
 | []=>some []
 | w::ws=>match f w,j4 f ws with
  | some d,some ds=>some (d::ds)
  | _,_=>none
noncomputable def qd (A:Hx):Nat->W->Option PyData
 | _,.non=>some .none
 | _,.bl b=>some (.bool b)
 | _,.int i=>some (.int i)
 | _,.str x=>if PyData.strOk x then some (.str x) else none
 | _,.clo _ _ _=>none
 | _,.xc _=>none
 | 0,.tup _=>none
 | 0,.ref _=>none
 | n+1,.tup ws=>(j4 (qd A n) ws).map .tuple
 | n+1,.ref k=>match zU (.ref k) A with
  | some ws=>(j4 (qd A n) ws).map .list
  | none=>none
theorem La {K:Frag}{φ:List Addr}{A:Hx}{H:Hp}{n:Nat}{us:List W}{v:V}(S:zF K φ A H)(q:RV K φ H (.ref n) v)(es:zU (.ref n) A=some us):∃a ys,v=.ref a/\qS K H a ys/\zB K φ H us ys:=by
 obtain ⟨a,rfl,e2⟩:=q
 unfold zU at es
 dsimp only at es
 cases ec:A[n]? with
 | none=>rw [ec] at es;cases es
 | some o=>
  rw [ec] at es
  obtain ⟨a',e3,r⟩:=S.ob n o ec
  rw [e2] at e3;cases e3
  cases o with
  | lst xs=>cases es;obtain ⟨ys,h1,h2⟩:=r;exact ⟨a,ys,rfl,qS.of h1,h2⟩
  | ro xs=>cases es;obtain ⟨ys,h1,h2⟩:=r;exact ⟨a,ys,rfl,h1.sq,h2⟩
  | dct xs=>cases es
  | tab _ _=>cases es
section
variable {X:Cx}{xr:XR}{e a b c:Expr}{ma mb mc:Ev}{pos:Pos}
theorem GZ {K:Frag}{φ:List Addr}{H:Hp}{h:Heap}{f:W->Option PyData}(hf:∀w v u d,RV K φ H w v->RelV v u->f w=some d->∃as,Reads h u d as):
  ∀{ws:List W} {vs:List V} {us:List Value} {ds:List PyData},zB K φ H ws vs->Vals vs us->j4 f ws=some ds->∃as,ReadsAll h us ds as
 | [],_,_,_,r,rv,e=>by cases r;cases rv;cases e;exact ⟨[],.nil⟩
 | w::ws,_,_,ds,⟨v,r,e1,q,t⟩,rv,e=>by
  subst e1
  cases rv with
  | cons r1 r2=>
   unfold j4 at e
   cases e2:f w with
   | none=>rw [e2] at e;cases e
   | some d=>
    cases e3:j4 f ws with
    | none=>rw [e2,e3] at e;cases e
    | some ds'=>
     rw [e2,e3] at e
     cases e
     obtain ⟨as,h1⟩:=hf w v _ d q r1 e2
     obtain ⟨bs,h2⟩:=GZ hf t r2 e3
     exact ⟨_,.cons h1 h2⟩
theorem QB {pins:List (Addr × Obj)}{σ:St}{H:Hp}{s:Shared}{φ:List Addr}{A:Hx}(I:Inv X pins σ H s)(S:zF X.K φ A H):∀(n:Nat) (w:W) (v:V) (u:Value) (d:PyData),RV X.K φ H w v->RelV v u->qd A n w=some d->∃as,Reads s.heap u d as:=by
 intro n
 induction n with
 | zero=>
  intro w v u d q r e
  cases w with
  | non=>obtain rfl:=q;cases r;cases e;exact ⟨_,.none⟩
  | bl k=>obtain rfl:=q;cases r;cases e;exact ⟨_,.bool k⟩
  | int k=>obtain rfl:=q;obtain ⟨t,rfl⟩:=r;cases e;exact ⟨_,.int k t⟩
  | str k=>
   obtain rfl:=q
   obtain ⟨t,rfl⟩:=r
   unfold qd at e
   split at e
   ·cases e;exact ⟨_,.str k t⟩
   ·cases e
  | tup _=>cases e
  | ref _=>cases e
  | clo _ _ _=>unfold qd at e;cases e
  | xc _=>unfold qd at e;cases e
 | succ n ih=>
  intro w v u d q r e
  cases w with
  | non=>obtain rfl:=q;cases r;cases e;exact ⟨_,.none⟩
  | bl k=>obtain rfl:=q;cases r;cases e;exact ⟨_,.bool k⟩
  | clo _ _ _=>unfold qd at e;cases e
  | xc _=>unfold qd at e;cases e
  | int k=>obtain rfl:=q;obtain ⟨t,rfl⟩:=r;cases e;exact ⟨_,.int k t⟩
  | str k=>
   obtain rfl:=q
   obtain ⟨t,rfl⟩:=r
   unfold qd at e
   split at e
   ·cases e;exact ⟨_,.str k t⟩
   ·cases e
  | tup ws=>
   obtain ⟨a,vs,rfl,hs,hr⟩:=q
   cases r
   unfold qd at e
   cases e1:j4 (qd A n) ws with
   | none=>rw [e1] at e;cases e
   | some ds=>
    rw [e1] at e
    cases e
    obtain ⟨its,rv,⟨o,h1,h2,k,h3⟩,_⟩:=I.tuple hs
    obtain ⟨as,h4⟩:=GZ ih hr rv e1
    exact ⟨_,.tuple h1 h2 h3 (by simpa using h4)⟩
  | ref k=>
   unfold qd at e
   cases e1:zU (.ref k) A with
   | none=>rw [e1] at e;cases e
   | some ws=>
    rw [e1] at e
    dsimp only at e
    obtain ⟨a,ys,rfl,hs,hr⟩:=La S q e1
    cases r
    cases e2:j4 (qd A n) ws with
    | none=>rw [e2] at e;cases e
    | some ds=>
     rw [e2] at e
     cases e
     obtain ⟨its,rv,⟨o,k',h1,h2,_,h3⟩,_⟩:=I.list hs
     obtain ⟨as,h4⟩:=GZ ih hr rv e2
     exact ⟨_,.list h1 h2 h3 (by simpa using h4)⟩
theorem GV {A:Hx}:∀(n:Nat) (w:W) (d:PyData),qd A n w=some d->d.canLay0=true/\d.depth<=n:=by
 intro n
 have lst:∀{n:Nat},(∀(w:W) (d:PyData),qd A n w=some d->d.canLay0=true/\d.depth<=n)->∀(ws:List W) (ds:List PyData),j4 (qd A n) ws=some ds->PyData.canLayAll0 ds=true/\PyData.depthAll ds<=n:=by
  intro n ih ws
  induction ws with
  | nil=>intro ds e;cases e;exact ⟨by simp [PyData.canLayAll0],by simp [PyData.depthAll]⟩
  | cons w ws ihw=>
   intro ds e
   unfold j4 at e
   cases e2:qd A n w with
   | none=>rw [e2] at e;cases e
   | some d=>
    cases e3:j4 (qd A n) ws with
    | none=>rw [e2,e3] at e;cases e
    | some ds'=>
     rw [e2,e3] at e
     cases e
     obtain ⟨h1,h2⟩:=ih w d e2
     obtain ⟨h3,h4⟩:=ihw ds' e3
     refine ⟨by simp [PyData.canLayAll0,h1,h3],?_⟩
     simp only [PyData.depthAll]
     omega
 induction n with
 | zero=>
  intro w d e
  cases w with
  | tup _=>cases e
  | ref _=>cases e
  | clo _ _ _=>unfold qd at e;cases e
  | xc _=>unfold qd at e;cases e
  | str x=>
   unfold qd at e
   split at e
   ·rename_i hx;cases e;exact ⟨by simp [PyData.canLay0,hx],by simp [PyData.depth]⟩
   ·cases e
  | _=>cases e;exact ⟨by simp [PyData.canLay0],by simp [PyData.depth]⟩
 | succ n ih=>
  intro w d e
  cases w with
  | clo _ _ _=>unfold qd at e;cases e
  | xc _=>unfold qd at e;cases e
  | tup ws=>
   unfold qd at e
   cases e1:j4 (qd A n) ws with
   | none=>rw [e1] at e;cases e
   | some ds=>
    rw [e1] at e
    cases e
    obtain ⟨h1,h2⟩:=lst ih ws ds e1
    refine ⟨by simp [PyData.canLay0,h1],?_⟩
    simp only [PyData.depth]
    omega
  | ref k=>
   unfold qd at e
   cases e1:zU (.ref k) A with
   | none=>rw [e1] at e;cases e
   | some ws=>
    rw [e1] at e
    dsimp only at e
    cases e2:j4 (qd A n) ws with
    | none=>rw [e2] at e;cases e
    | some ds=>
     rw [e2] at e
     cases e
     obtain ⟨h1,h2⟩:=lst ih ws ds e2
     refine ⟨by simp [PyData.canLay0,h1],?_⟩
     simp only [PyData.depth]
     omega
  | str x=>
   unfold qd at e
   split at e
   ·rename_i hx;cases e;exact ⟨by simp [PyData.canLay0,hx],by simp [PyData.depth]⟩
   ·cases e
  | _=>cases e;exact ⟨by simp [PyData.canLay0],by simp [PyData.depth]⟩
noncomputable def gj (neg:Bool):W->W->Hx->R W:=λ x y A=>match qd A 8 x,qd A 8 y with
 | some d,some d'=>.ok (.bl (if neg then !PyData.eqv d d' else PyData.eqv d d')) A
 | _,_=>.bad
noncomputable abbrev jl:=gj false
noncomputable abbrev jg:=gj true
theorem RG {n:Bool}:∀x y A,qz (gj n x y A):=λ x y A=>by
 unfold gj
 split
 ·exact jM
 ·exact qJ
noncomputable def VY (K:Frag)(neg:Bool):R2:=λ x y H Q=>∃φ A u v d d',zF K φ A H/\RV K φ H u x/\RV K φ H v y/\qd A 8 u=some d/\qd A 8 v=some d'/\Q (.bl (if neg then !PyData.eqv d d' else PyData.eqv d d')) H
theorem Y1 {A:Hx}{w:W}{d:PyData}(h:qd A 8 w=some d):SeqAt.shaped d=true:=by
 obtain ⟨h1,h2⟩:=GV 8 w d h
 unfold SeqAt.shaped
 rw [h1,Bool.true_and,decide_eq_true_iff]
 omega
theorem EI (hu:X.A.units+64<cLine):qA X (compareOp .Eq) (VY X.K false):=by
 intro pins s σ H x y v u Q I rx ry h
 obtain ⟨φ,A,w1,w2,d,d',S,q1,q2,e1,e2,q⟩:=h
 obtain ⟨as,h1⟩:=QB I S 8 w1 x v d q1 rx e1
 obtain ⟨bs,h2⟩:=QB I S 8 w2 y u d' q2 ry e2
 exact eq_dataH h1 h2 (Y1 e1) (Y1 e2) hu ⟨.bl _,H,I,rfl,q⟩
theorem ES (hu:X.A.units+64<cLine):qA X (compareOp .NotEq) (VY X.K true):=by
 intro pins s σ H x y v u Q I rx ry h
 obtain ⟨φ,A,w1,w2,d,d',S,q1,q2,e1,e2,q⟩:=h
 obtain ⟨as,h1⟩:=QB I S 8 w1 x v d q1 rx e1
 obtain ⟨bs,h2⟩:=QB I S 8 w2 y u d' q2 ry e2
 exact ne_dataH h1 h2 (Y1 e1) (Y1 e2) hu ⟨.bl _,H,I,rfl,q⟩
theorem SU {K:Frag}{n:Bool}:jQ K (VY K n) (gj n):=λ φ A H x y u v Q S q1 q2 p=>by
 unfold gj at p
 cases e1:qd A 8 u with
 | none=>rw [e1] at p;exact p.elim
 | some d=>
  cases e2:qd A 8 v with
  | none=>rw [e1,e2] at p;exact p.elim
  | some d'=>
   rw [e1,e2] at p
   exact ⟨φ,A,u,v,d,d',S,q1,q2,e1,e2,p φ H _ .refl S rfl⟩
theorem yz {k:Nat}(hr:jv k X.A):kE X .Eq jl:=QM (EI hr.units) RG SU
theorem km {k:Nat}(hr:jv k X.A):kE X .NotEq jg:=QM (ES hr.units) RG SU
end
mutual
noncomputable def W.nr:W->Bool
 | .tup ws=>jt ws
 | .ref _=>false
 | .clo _ ws _=>jt ws
 | _=>true
noncomputable def jt:List W->Bool
 | []=>true
 | w::ws=>w.nr&&jt ws
end
noncomputable def iso (f:Fn):Fn:=λ us A=>if jt us then (match f us [] with
 | .ok w A1=>(match w with
  | .ref n=>(match A1[n]? with
   | some (.lst ws)=>if jt ws then .ok (.ref A.length) (A++[.lst ws]) else .bad
   | some (.dct kvs)=>if jt (kvs.map (·.2)) then .ok (.ref A.length) (A++[.dct kvs]) else .bad
   | _=>.bad)
  | w=>if w.nr then .ok w A else .bad)
 | _=>.bad) else .bad
noncomputable def ku (f:Fn):Fn:=λ us A=>match us with
 | .ref n::us=>(match A[n]? with
  | some (.lst ws)=>if jt ws&&jt us then (match f (.ref 0::us) [.lst ws] with
   | .ok w A1=>(match (List.head? A1:Option O) with
    | some (.lst ws2)=>if jt ws2&&w.nr then .ok w (A.set n (.lst ws2)) else .bad
    | _=>.bad)
   | _=>.bad) else .bad
  | _=>.bad)
 | _=>.bad
section
variable {K:Frag}{φ φ' φ1:List Addr}{H H' H1:Hp}{A A1:Hx}
mutual
theorem RV.nrm (tp:∀a vs,qp K H a vs->qp K H' a vs)(fz:∀a o u,H a=some (.frz o u)->H' a=some (.frz o u)):∀{w:W} {v:V},w.nr=true->RV K φ H w v->RV K φ' H' w v
 | .non,_,_,h=>h
 | .bl _,_,_,h=>h
 | .int _,_,_,h=>h
 | .str _,_,_,h=>h
 | .tup ws,_,n,⟨a,vs,e,t,r⟩=>⟨a,vs,e,tp _ _ t,zB.nrm tp fz n r⟩
 | .ref _,_,n,_=>nomatch n
 | .clo _ ws P,_,n,⟨a,ob,u,c,oc,uc,vs,e,h1,h2,h3,r⟩=>⟨a,ob,u,c,oc,uc,vs,e,fz _ _ _ h1,fz _ _ _ h2,h3,zB.nrm tp fz n r⟩
 | .xc _,_,_,⟨a,oe,u,C,e,h1,h2⟩=>⟨a,oe,u,C,e,fz _ _ _ h1,h2⟩
theorem zB.nrm (tp:∀a vs,qp K H a vs->qp K H' a vs)(fz:∀a o u,H a=some (.frz o u)->H' a=some (.frz o u)):∀{ws:List W} {vs:List V},jt ws=true->zB K φ H ws vs->zB K φ' H' ws vs
 | [],_,_,h=>h
 | w::ws,_,n,⟨v,r,e,h,t⟩=>by
  have n':(w.nr&&jt ws)=true:=n
  rw [Bool.and_eq_true] at n'
  exact ⟨v,r,e,RV.nrm tp fz n'.1 h,zB.nrm tp fz n'.2 t⟩
end
theorem zF.none:zF K [] [] H:=⟨rfl,λ i j a o o' _ _ h=>by simp at h,λ n o h=>by simp at h⟩
theorem zF.frame (S:zF K φ A H)(k:∀a o,H a=some o->H1 a=some o)(l:Le K φ H φ H1):zF K φ A H1:=
 ⟨S.len,S.inj,λ n o e=>let ⟨a,h1,q⟩:=S.ob n o e;⟨a,h1,q.keep l λ u hu=>k a u hu⟩⟩
theorem Le.apart (l:Le K [] H φ1 H1):Le K φ H φ H1/\∀a o,H a=some o->H1 a=some o:=
 have k:∀a o,H a=some o->H1 a=some o:=λ a o h=>l.fr a o h λ n e=>by simp at e
 ⟨⟨λ _ _ h=>h,l.tp,λ a o h _=>k a o h,λ _ _ h=>.inl h,l.st,l.fz⟩,k⟩
theorem zF.trackN {D:Addr}{u:HO}{o:O}(S:zF K φ A H)(hD:H D=some u)(n:∀(k:Nat) (q:O),φ[k]? =some D->A[k]? =some q->q.mut=false)(new:OR K (φ++[D]) H D o):zF K (φ++[D]) (A++[o]) H:=by
 have l:g9 K φ H (φ++[D]) H:=⟨λ n a h=>by
  have:=(List.getElem?_eq_some_iff.mp h).1
  rw [List.getElem?_append_left this];exact h,λ _ _ h=>h,λ _ _ _ h=>h⟩
 have old:∀(i:Nat) a,(φ++[D])[i]? =some a->i<A.length->φ[i]? =some a:=λ i a e hi=>by
  rw [List.getElem?_append_left (by rw [S.len];exact hi)] at e;exact e
 have last:∀a,(φ++[D])[A.length]? =some a->a=D:=λ a e=>by
  rw [List.getElem?_append_right (by rw [S.len];exact Nat.le_refl _),S.len] at e
  simpa using e.symm
 refine ⟨by simp [S.len],λ i j a o1 o2 h1 h2 h3 h4 m1 m2=>?_,λ k o' e=>?_⟩
 ·by_cases hi:i<A.length
  ·rw [List.getElem?_append_left hi] at h3
   by_cases hj:j<A.length
   ·rw [List.getElem?_append_left hj] at h4
    exact S.inj i j a o1 o2 (old i a h1 hi) (old j a h2 hj) h3 h4 m1 m2
   ·exfalso
    have hj':j=A.length:=by have:=(List.getElem?_eq_some_iff.mp h4).1;simp at this;omega
    subst hj'
    have z:=n i o1 (by rw [<- last a h2];exact old i a h1 hi) h3
    rw [m1] at z;cases z
  ·have hi':i=A.length:=by have:=(List.getElem?_eq_some_iff.mp h3).1;simp at this;omega
   by_cases hj:j<A.length
   ·exfalso
    rw [List.getElem?_append_left hj] at h4
    subst hi'
    have z:=n j o2 (by rw [<- last a h1];exact old j a h2 hj) h4
    rw [m2] at z;cases z
   ·have:=(List.getElem?_eq_some_iff.mp h4).1;simp at this;omega
 ·by_cases hn:k<A.length
  ·rw [List.getElem?_append_left hn] at e
   obtain ⟨a,e1,q⟩:=S.ob k o' e
   refine ⟨a,l.ex _ _ e1,?_⟩
   cases o' with
   | lst ws=>obtain ⟨vs,z,r⟩:=q;exact ⟨vs,z,r.monoW l⟩
   | dct ws=>obtain ⟨vs,z,z2,r⟩:=q;exact ⟨vs,z,z2,r.monoW l⟩
   | tab _ _=>exact q
   | ro ws=>obtain ⟨vs,z,r⟩:=q;exact ⟨vs,z,r.monoW l⟩
  ·have hn':k=A.length:=by have:=(List.getElem?_eq_some_iff.mp e).1;simp at this;omega
   subst hn'
   rw [List.getElem?_append_right (Nat.le_refl _)] at e
   simp at e
   subst e
   exact ⟨D,by rw [List.getElem?_append_right (by rw [S.len];exact Nat.le_refl _),S.len];simp,new⟩
theorem zF.adopt {n:Nat}{a:Addr}{o:O}(S:zF K φ A H)(l:Le K [] H φ1 H1)(h1:φ1[n]? =some a)(m:∃u,H1 a=some u)(new:OR K (φ++[a]) H1 a o):
  Le K φ H (φ++[a]) H1/\zF K (φ++[a]) (A++[o]) H1/\RV K (φ++[a]) H1 (.ref A.length) (.ref a):=by
 obtain ⟨la,k⟩:=l.apart (φ:=φ)
 have h0:H a=Option.none:=by
  rcases l.nw n a h1 with e | e
  ·simp at e
  ·exact e
 obtain ⟨u,hu⟩:=m
 have S1:=S.frame k la
 refine ⟨la.QP h0,S1.trackN hu (λ k q e1 e2=>?_) new,a,rfl,by rw [<- S.len];simp⟩
 cases hq:q.mut with
 | false=>rfl
 | true=>
  obtain ⟨a',e3,r⟩:=S.ob k q e2
  rw [e1] at e3;cases e3
  obtain ⟨z,hz,_⟩:=r.there hq
  rw [h0] at hz;cases hz
theorem OR.nrL {a:Addr}{ws:List W}(h:OR K φ H a (.lst ws))(n:jt ws=true):OR K φ' H a (.lst ws):=let ⟨vs,e,r⟩:=h;⟨vs,e,r.nrm (λ _ _ t=>t) (λ _ _ _ t=>t) n⟩
theorem OR.nrD {a:Addr}{kvs:List (Key × W)}(h:OR K φ H a (.dct kvs))(n:jt (kvs.map (·.2))=true):OR K φ' H a (.dct kvs):=let ⟨vs,e,e2,r⟩:=h;⟨vs,e,e2,r.nrm (λ _ _ t=>t) (λ _ _ _ t=>t) n⟩
variable {P:Program}{w:World}{mg:Str->Option Value}{base:Heap}
theorem zE.iso {k n:Nat}{x:Str}{f:Fn}(F:zE P w K mg base k x n f):zE P w K mg base k x n (iso f):=by
 obtain ⟨fa,fd,ps,F,a,b,c⟩:=F
 refine ⟨fa,fd,ps,F.imp λ vs H Q E ⟨hl,φ,A,ws,S,r,q⟩=>?_,a,b,c⟩
 unfold Mi.iso at q
 by_cases hn:jt ws=true
 ·rw [if_pos hn] at q
  refine ⟨hl,[],[],ws,zF.none,r.nrm (λ _ _ t=>t) (λ _ _ _ t=>t) hn,?_⟩
  cases hf:f ws [] with
  | ok w A1=>
   rw [hf] at q
   dsimp only at q
   intro φ1 H1 v l1 S1 q1
   cases w with
   | ref m=>
    dsimp only at q
    cases hm:A1[m]? with
    | none=>rw [hm] at q;exact q.elim
    | some o=>
     rw [hm] at q
     obtain ⟨a',ea,hr⟩:=S1.ob m o hm
     obtain ⟨a2,rfl,ea2⟩:=q1
     rw [ea] at ea2;cases ea2
     cases o with
     | lst us=>
      dsimp only at q
      by_cases hu:jt us=true
      ·rw [if_pos hu] at q
       obtain ⟨t,ht,_⟩:=hr.there rfl
       obtain ⟨b1,b2,b3⟩:=S.adopt l1 ea ⟨t,ht⟩ (o:=.lst us) (hr.nrL hu)
       exact q _ _ _ b1 b2 b3
      ·rw [if_neg hu] at q;exact q.elim
     | dct us=>
      dsimp only at q
      by_cases hu:jt (us.map (·.2))=true
      ·rw [if_pos hu] at q
       obtain ⟨t,ht,_⟩:=hr.there rfl
       obtain ⟨b1,b2,b3⟩:=S.adopt l1 ea ⟨t,ht⟩ (o:=.dct us) (hr.nrD hu)
       exact q _ _ _ b1 b2 b3
      ·rw [if_neg hu] at q;exact q.elim
     | ro us=>exact q.elim
     | tab _ _=>exact q.elim
   | _=>
    all_goals
     dsimp only at q
     obtain ⟨la,kk⟩:=l1.apart (φ:=φ)
     first
      | exact q φ H1 v la (S.frame kk la) q1
      | (
        split at q
        ·rename_i hw
         exact q φ H1 v la (S.frame kk la) (RV.nrm (λ _ _ t=>t) (λ _ _ _ t=>t) hw q1)
        ·exact q.elim)
  | exc y A1=>rw [hf] at q;exact q.elim
  | bad=>rw [hf] at q;exact q.elim
 ·rw [if_neg hn] at q;exact q.elim
theorem zE.ku {k n:Nat}{x:Str}{f:Fn}(F:zE P w K mg base k x n f):zE P w K mg base k x n (ku f):=by
 obtain ⟨fa,fd,ps,F,a,b,c⟩:=F
 refine ⟨fa,fd,ps,F.imp λ vs H Q E ⟨hl,φ,A,ws,S,r,q⟩=>?_,a,b,c⟩
 unfold Mi.ku at q
 cases ws with
 | nil=>exact q.elim
 | cons w0 us=>cases w0 with
  | ref n=>
   dsimp only at q
   cases hA:A[n]? with
   | none=>rw [hA] at q;exact q.elim
   | some o=>cases o with
    | lst xs=>
     rw [hA] at q
     dsimp only at q
     by_cases hn:(jt xs&&jt us)=true
     ·rw [if_pos hn] at q
      rw [Bool.and_eq_true] at hn
      obtain ⟨v0,vr,rfl,q0,qr⟩:=r
      obtain ⟨p,ys,rfl,f1,g1,r1⟩:=S.lst q0 hA
      have S0:zF K [p] [.lst xs] H:=by
       refine ⟨rfl,λ i j a o o' h1 h2 h3 h4 _ _=>?_,λ m o e=>?_⟩
       ·have:=(List.getElem?_eq_some_iff.mp h1).1
        have:=(List.getElem?_eq_some_iff.mp h2).1
        simp at *
        omega
       ·have:m=0:=by have:=(List.getElem?_eq_some_iff.mp e).1;simp at this;omega
        subst this
        simp at e
        subst e
        exact ⟨p,rfl,ys,g1,r1.nrm (λ _ _ t=>t) (λ _ _ _ t=>t) hn.1⟩
      refine ⟨hl,[p],[.lst xs],.ref 0::us,S0,.cons ⟨p,rfl,rfl⟩ (qr.nrm (λ _ _ t=>t) (λ _ _ _ t=>t) hn.2),?_⟩
      cases hf:f (.ref 0::us) [.lst xs] with
      | ok w A1=>
       rw [hf] at q
       dsimp only at q
       intro φ1 H1 v l1 S1 q1
       cases h0:List.head? A1 with
       | none=>rw [h0] at q;exact q.elim
       | some o=>cases o with
        | lst zs=>
         rw [h0] at q
         dsimp only at q
         by_cases hw:(jt zs&&w.nr)=true
         ·rw [if_pos hw] at q
          rw [Bool.and_eq_true] at hw
          have apart:∀a o,a≠p->H a=some o->H1 a=some o:=λ a o ne h=>l1.fr a o h λ m e=>by
           have:m=0:=by have:=(List.getElem?_eq_some_iff.mp e).1;simp at this;omega
           subst this
           simp at e
           exact ne e.symm
          have lf:Le K φ H φ H1:=⟨λ _ _ h=>h,l1.tp,λ a o h nn=>apart a o (λ e=>nn n (by rw [e];exact f1)) h,λ _ _ h=>.inl h,l1.st,l1.fz⟩
          have hp:φ1[0]? =some p:=l1.ex 0 p rfl
          obtain ⟨p',e1,us',e2,r2⟩:=S1.ob 0 _ (by rw [<- List.head?_eq_getElem?];exact h0)
          rw [hp] at e1;cases e1
          refine q φ H1 v lf ?_ (RV.nrm (λ _ _ t=>t) (λ _ _ _ t=>t) hw.2 q1)
          have mt:∀(i:Nat) (w:O),(A.set n (.lst zs))[i]? =some w->w.mut=true->∃w',A[i]? =some w'/\w'.mut=true:=λ i w e mw=>by
           by_cases hi:i=n
           ·subst hi;exact ⟨_,hA,rfl⟩
           ·rw [List.getElem?_set_ne (Ne.symm hi)] at e;exact ⟨w,e,mw⟩
          refine ⟨by simp [S.len],λ i j a o1 o2 h1 h2 h3 h4 m1 m2=>?_,λ i w e=>?_⟩
          ·obtain ⟨w1,e1,k1⟩:=mt i o1 h3 m1
           obtain ⟨w2,e2,k2⟩:=mt j o2 h4 m2
           exact S.inj i j a w1 w2 h1 h2 e1 e2 k1 k2
          ·by_cases hi:i=n
           ·subst hi
            have:i<A.length:=(List.getElem?_eq_some_iff.mp hA).1
            rw [List.getElem?_set_self this] at e;cases e
            exact ⟨p,f1,us',e2,r2.nrm (λ _ _ t=>t) (λ _ _ _ t=>t) hw.1⟩
           ·rw [List.getElem?_set_ne (Ne.symm hi)] at e
            obtain ⟨a,e1,rr⟩:=S.ob i w e
            refine ⟨a,e1,?_⟩
            by_cases hm:w.mut=true
            ·have ne:a≠p:=λ z=>hi (S.inj i n a w _ e1 (by rw [z];exact f1) e hA hm rfl)
             exact rr.keep lf λ z hz=>apart a z ne hz
            ·cases w with
             | lst _=>exact absurd rfl hm
             | dct _=>exact absurd rfl hm
             | tab _ _=>exact absurd rfl hm
             | ro ws=>
              obtain ⟨vs,r1,r2⟩:=rr
              refine ⟨vs,?_,r2.mono lf⟩
              rcases r1 with ⟨ob,r1⟩ | r1
              ·refine .inl ⟨ob,apart a _ ?_ r1⟩
               intro z;subst z;rw [g1] at r1;cases r1
              ·exact .inr r1
         ·rw [if_neg hw] at q;exact q.elim
        | _=>rw [h0] at q;exact q.elim
      | exc y A1=>rw [hf] at q;exact q.elim
      | bad=>rw [hf] at q;exact q.elim
     ·rw [if_neg hn] at q;exact q.elim
    | _=>rw [hA] at q;exact q.elim
  | _=>exact q.elim
end
section
variable {X:Cx}{xr:XR}{K:Frag}{e a b c:Expr}{es:List Expr}{m ma mb mc:Ev}{pos:Pos}{st:Stmt}
noncomputable def intsOf:List W->Option (List Int)
 | []=>some []
 | w::ws=>match w with
  | .int i=>match intsOf ws with
   | some is=>some (i::is)
   | none=>none
  | _=>none
theorem G0:∀{ws:List W} {ns:List Int},intsOf ws=some ns->ws=ns.map W.int
 | [],_,e=>by cases e;rfl
 | w::ws,ns,e=>by
  unfold intsOf at e
  cases w with
  | int i=>
   dsimp only at e
   cases e2:intsOf ws with
   | none=>rw [e2] at e;cases e
   | some is=>rw [e2] at e;cases e;rw [G0 e2];rfl
  | _=>cases e
noncomputable def jF:List Int->Int->Int
 | [],m=>m
 | i::is,m=>jF is (if i > m then i else m)
theorem Md (ns:List Int):∀(k:Nat) (hk:k<ns.length),jF (ns.drop (k+1)) (ns.getD (argBest (λ i j=>decide (ns.getD i 0 > ns.getD j 0)) k) 0)=jF ns.tail (ns.getD 0 0):=by
 intro k
 induction k with
 | zero=>intro _;rw [show argBest _ 0=0 from rfl,List.drop_one]
 | succ k ih=>
  intro hk
  have hk':k<ns.length:=by omega
  rw [<- ih hk']
  have e:ns.drop (k+1)=ns[k+1]::ns.drop (k+1+1):=List.drop_eq_getElem_cons hk
  rw [e]
  have e3:ns.getD (k+1) 0=ns[k+1]:=by rw [List.getD_eq_getElem?_getD,List.getElem?_eq_getElem hk];rfl
  show jF _ (ns.getD (if decide (ns.getD (k+1) 0 > ns.getD (argBest _ k) 0)=true then k+1 else argBest _ k) 0)=jF _ (if ns[k+1] > ns.getD (argBest _ k) 0 then ns[k+1] else ns.getD (argBest _ k) 0)
  rw [e3]
  by_cases h:ns[k+1] > ns.getD (argBest (λ i j=>decide (ns.getD i 0 > ns.getD j 0)) k) 0
  ·rw [if_pos (by rw [decide_eq_true_iff];exact h),if_pos h,e3]
  ·rw [if_neg (by rw [decide_eq_true_iff];exact h),if_neg h]
noncomputable def RK (K:Frag)(C:List Int->Prop)(f:List Int->Int):List V->Hp->VK->Prop:=λ xs H Q=>∃a ns,xs=[.ref a]/\(qS K H a (ns.map V.int)∨qp K H a (ns.map V.int))/\C ns/\Q (.int (f ns)) H
theorem Xw {ns:List Int}{its:List Value}(rv:Vals (ns.map V.int) its){i:Nat}{v:Value}(h:its[i]? =some v):∃t,v=.int (ns.getD i 0) t:=by
 have hi:i<its.length:=(List.getElem?_eq_some_iff.mp h).1
 have hi':i<ns.length:=by have:=rv.length;rw [List.length_map] at this;omega
 obtain ⟨u,h1,h2⟩:=rv.get (i:=i) (x:=V.int ns[i]) (by simp [hi'])
 rw [h] at h1;cases h1
 obtain ⟨t,rfl⟩:=h2
 exact ⟨t,by rw [List.getD_eq_getElem?_getD,List.getElem?_eq_getElem hi'];rfl⟩
theorem Mv (hc:X.calm=true):jK X (.builtin "max") (RK X.K (λ ns=>ns≠[]) λ ns=>jF ns.tail (ns.getD 0 0)):=by
 intro pins s σ H xs us Q I r h
 obtain ⟨a,ns,rfl,z,hne,q⟩:=h
 obtain ⟨u,rfl,ru⟩:=vals1 r
 cases ru
 have hp:0<ns.length:=List.length_pos_iff.mpr hne
 refine call_max_walk (T3 I hc z λ its I' fp wr St' s2 rv hz W st hfp back=>?_)
 have e:its.length=ns.length:=by have:=rv.length;rw [List.length_map] at this;omega
 refine ⟨I',fp,wr,_,_,St',λ i j=>decide (ns.getD i 0 > ns.getD j 0),rfl,W,st,hfp,by omega,?_,λ v h' tk hv k=>?_⟩
 ·intro i j vi vj s' Q' E' h1 h2 hQ
  obtain ⟨t1,rfl⟩:=Xw rv h1
  obtain ⟨t2,rfl⟩:=Xw rv h2
  exact (PyProof.Rows.gt_int hQ:wpAny (model X.prog X.w) X.A.in1 (compareOp .Gt (.int (ns.getD i 0) t1) (.int (ns.getD j 0) t2)) Q' E' s')
 ·obtain ⟨t,rfl⟩:=Xw rv hv
  rw [e]
  have b:=Md ns (ns.length - 1) (by omega)
  rw [show ns.length - 1+1=ns.length by omega,List.drop_length] at b
  have b':ns.getD (argBest (λ i j=>decide (ns.getD i 0 > ns.getD j 0)) (ns.length - 1)) 0=jF ns.tail (ns.getD 0 0):=b
  rw [b']
  exact ⟨.int _,H,back h' tk k,⟨_,rfl⟩,q⟩
noncomputable def jU:List W->Hx->R W:=λ ws A=>match intsOf ws with
 | some (i::is)=>.ok (.int (jF is i)) A
 | _=>.bad
theorem FC:∀ws A,qz (jU ws A):=λ ws A=>by
 unfold jU;split
 ·exact jM
 ·exact qJ
theorem Mh {φ:List Addr}{H:Hp}{ws:List W}{ys:List V}{ns:List Int}{a:Addr}(z:qS K H a ys∨qp K H a ys)(r:zB K φ H ws ys)(e:intsOf ws=some ns):qS K H a (ns.map V.int)∨qp K H a (ns.map V.int):=by
 rw [G0 e] at r
 rw [<- zB.ints.mp r];exact z
theorem Fh:Qj K (RK K (λ ns=>ns≠[]) λ ns=>jF ns.tail (ns.getD 0 0)) jU:=λ φ A H a ys ws Q S z r p=>by
 unfold jU at p
 cases e:intsOf ws with
 | none=>rw [e] at p;exact p.elim
 | some ns=>cases ns with
  | nil=>rw [e] at p;exact p.elim
  | cons i is=>rw [e] at p;exact ⟨a,i::is,rfl,Mh z r e,(by intro z;cases z),p φ H _ .refl S rfl⟩
end
section
variable {X:Cx}{xr:XR}{K:Frag}{e a b c:Expr}{es:List Expr}{m ma mb mc:Ev}{pos:Pos}{st:Stmt}
noncomputable def Bd (lo d:Int)(n:Nat):It:=⟨λ i _=>i<n,λ i H x H'=>H'=H/\x=.int (lo+i * d),λ i _=>n<=i⟩
noncomputable def Bl (ta:TA):TI:=λ σ H R=>ta σ H λ vs H1=>∃i j:Int,vs=[.int i,.int j,.int (-1)]/\(-(2 ^ 62)<=i/\i<2 ^ 62/\-(2 ^ 62)<=j/\j<2 ^ 62)/\R (Bd i (-1) (i - j).toNat) H1
noncomputable def C0 (hi:Int)(n:Nat):jq:=⟨λ _ i=>if i<n then some (some (.int (hi - i))) else some none,n⟩
noncomputable def Bk (m m':Ev):Ei:=λ ρ A=>(m ρ A).bind λ w A1=>(m' ρ A1).bind λ w' A2=>match w,w' with
 | .int i,.int j=>if jz i&&jz j then .ok (C0 i (i - j).toNat) A2 else .bad
 | _,_=>.bad
noncomputable def D8 (ta:TA):TE:=λ σ H Q=>ta σ H λ vs H1=>∃j:Int,vs=[.int j]/\∀p,H1 p=none->Q (.ref p) (upd H1 p (.rng 0 j))
theorem H9 {ta:TA}{p:Pos}(hg:Gl X "range")(hm:X.mg "range" = none)(ha:PA X [a] ta)(hs:starEach [a] X.env=[(false,eval a X.env)]):PE X (.Call (.Name "range" p) [a] [] pos) (D8 ta):=by
 intro pins s σ H Q I h
 refine Call_ (Zs I hg hm boot_range (PyProof.Rows.callWith_type1 (zS (ha pos pins s σ H _ I h) λ us s1 ⟨vs,H1,I1,r1,q1⟩=>?_) hs rfl))
 obtain ⟨j,rfl,q⟩:=q1
 obtain ⟨u,rfl,⟨t,rfl⟩⟩:=r1.one
 refine call_range_1 ⟨.ref _,_,I1.laid (o:=.rng 0 j) (λ b o eo=>Heap.get?_push_of_some _ eo) (Nat.le_refl _) ?_,rfl,q _ (I1.hok.fresh (Nat.le_refl _))⟩
 exact ⟨_,_,_,Heap.get?_push_size _ rfl⟩
noncomputable def Qf (n:Nat):List V:=(List.range n).map λ (i:Nat)=>V.int i
theorem Nj (hc:X.calm=true):jK X (.type "list") (λ xs H Q=>∃(r:Addr) (j:Int),xs=[.ref r]/\H r=some (.rng 0 j)/\(-(2 ^ 62)<=j/\j<2 ^ 62)/\j.toNat<=sizeLine/\∀l,H l=none->Q (.ref l) (upd H l (.lst (Qf j.toNat)))):=by
 intro pins s σ H xs us Q I r h
 obtain ⟨p,j,rfl,hp,⟨b1,b2⟩,hz,q⟩:=h
 obtain ⟨u,rfl,ru⟩:=vals1 r
 cases ru
 obtain ⟨t1,t2,t3,ho⟩:=I.hok p _ hp
 have hl:sizeLine=16777216:=sizeLine_eq
 refine PySem.call_list_range (n:=j.toNat) (I.ok.hd hc) (show IsRange s.heap p 0 j 1 t1 t2 t3 from ho) (small_one (by omega) (by omega) b1 b2) (by rw [rangeSize_one];split<;>omega) (by omega) λ h' tk acc c' kk hS ⟨hn,hat⟩=>?_
 refine ⟨.ref s.heap.objs.size,_,I.laid (t':=tk) (o:=.lst (Qf j.toNat)) kk (Nat.le_refl _) ?_,rfl,q _ (I.hok.fresh (Nat.le_refl _))⟩
 refine ⟨by unfold Qf;simpa using hz,acc.toList,c',?_,by simpa using hS⟩
 have hv:∀(l:List Value) (k:Nat),(∀(i:Nat) v,l[i]? =some v->∃t,v=.int ((k+i:Nat):Int) t)->Vals ((List.range' k l.length).map λ (i:Nat)=>V.int i) l:=by
  intro l
  induction l with
  | nil=>intro k _;exact .nil
  | cons v l ih=>
   intro k hk
   rw [List.length_cons,List.range'_succ,List.map_cons]
   refine .cons ?_ (ih (k+1) λ i v' hv=>?_)
   ·obtain ⟨t,rfl⟩:=hk 0 v rfl
    exact ⟨t,rfl⟩
   ·obtain ⟨t,rfl⟩:=hk (i+1) v' (by simpa using hv)
    exact ⟨t,by congr 1;omega⟩
 have hl':acc.toList.length=j.toNat:=by simpa using hn
 have:=hv acc.toList 0 λ i v hiv=>by
  obtain ⟨t,rfl⟩:=hat i v (by simpa using hiv)
  exact ⟨t,by congr 1;omega⟩
 rw [hl'] at this
 unfold Qf
 rw [List.range_eq_range']
 exact this
noncomputable def Jo (m:Ev):Ev:=λ ρ A=>(m ρ A).bind λ w A1=>match w with
 | .int j=>if jz j&&decide (j.toNat<=zW) then .ok (.ref A1.length) (A1++[.lst ((List.range j.toNat).map λ (i:Nat)=>W.int i)]) else .bad
 | _=>.bad
end
noncomputable def jj (k:Bool)(h:Heap)(it a:Addr)(i:Nat):Prop:=if k=true then h.IsListIter it a i else h.IsTupleIter it a i
noncomputable def jG (k:Bool)(h:Heap)(a:Addr)(items:Array Value):Prop:=if k=true then h.IsList a items else h.IsTuple a items
noncomputable def yD (k:Bool)(K:Frag)(H:Hp)(a:Addr)(xs:List V):Prop:=if k=true then qS K H a xs else qp K H a xs
noncomputable def Z9 (k:Bool):String:=if k then "list_iterator" else "tuple_iterator"
theorem jj.ob {k:Bool}{h:Heap}{it a:Addr}{i:Nat}(x:jj k h it a i):∃o,h.get? it=some o/\o.cls=.type (Z9 k)/\o.data=.fields #[.ref a,.int i 0]:=by
 cases k<;>exact x
theorem jj.mk {k:Bool}{h:Heap}{it a:Addr}{i:Nat}(x:∃o,h.get? it=some o/\o.cls=.type (Z9 k)/\o.data=.fields #[.ref a,.int i 0]):jj k h it a i:=by
 cases k<;>exact x
theorem jj.to {k:Bool}{h h':Heap}{it a:Addr}{i:Nat}(x:jj k h it a i)(e:∀o,h.get? it=some o->h'.get? it=some o):jj k h' it a i:=let ⟨o,h1,r⟩:=x.ob;.mk ⟨o,e o h1,r⟩
theorem jG.ob {k:Bool}{h:Heap}{a:Addr}{items:Array Value}(x:jG k h a items):∃o,h.get? a=some o/\o.cls=.type (if k then "list" else "tuple")/\∃n,o.data=.seq items n:=by
 cases k<;>exact x
theorem jG.to {k:Bool}{h h':Heap}{a:Addr}{items:Array Value}(x:jG k h a items)(e:∀o,h.get? a=some o->h'.get? a=some o):jG k h' a items:=by
 cases k with
 | false=>exact let ⟨o,h1,r⟩:=x.ob;⟨o,e o h1,r⟩
 | true=>exact let ⟨o,h1,r⟩:=x.ob;⟨o,e o h1,r⟩
section
variable {prog:Program}{w:World}{A:Around}{E:Value->Shared->Prop}{s:Shared}{k:Bool}{it a:Addr}{i:Nat}{items:Array Value}
theorem Sr {Q:Value->Shared->Prop}(hl:jG k s.heap a items)(hQ:Q (.ref s.heap.objs.size) { s with heap:=s.heap.push { cls:=.type (Z9 k),data:=.fields #[.ref a,.int 0 0] } }):wpAny (model prog w) A (pyIter (.ref a)) Q E s:=by
 cases k with
 | true=>exact wpAny_pyIter_list hl hQ
 | false=>exact wpAny_pyIter_tuple hl hQ
theorem Y0 {x:Value}{Q:Value->Shared->Prop}(hit:jj k s.heap it a i)(hl:jG k s.heap a items)(hx:items[i]? =some x)
  (hQ:∀h',jj k h' it a (i+1)->Heap.SameBut it s.heap h'->Q x { s with heap:=h' }):wpAny (model prog w) A (Builtin.SmallTypes.nextOf (.ref it)) Q E s:=by
 cases k with
 | true=>exact wpAny_nextOf_list_item hit hl hx hQ
 | false=>
  have hit':s.heap.IsTupleIter it a i:=hit
  obtain ⟨oi,hoi,hci,hdi⟩:=id hit'
  obtain ⟨oa,hoa,_,na,hda⟩:s.heap.IsTuple a items:=hl
  unfold Builtin.SmallTypes.nextOf
  refine wpAny_bind (wpAny_callSpecial?_slot (name:=Str.ofString "__next__") hit'.typeIs F.slot_tuple_iterator_next (wpAny_call_entry F.slot_tuple_iterator_next hit'.typeIs F.entry_tuple_iterator_next ?_ (F.args_tuple_iterator_next_1 _)))
  show wpAny _ _ (field (.ref it) 0 >>= _) _ _ s;refine wpAny_bind (wpAny_field hoi hdi (x:=.ref a) rfl ?_)
  show wpAny _ _ (if (Value.ref a==Value.none)=true then _ else _) _ _ s;rw [if_neg (show ¬((Value.ref a==Value.none)=true) from Bool.false_ne_true)]
  show wpAny _ _ (field (.ref it) 1 >>= _) _ _ s;refine wpAny_bind (wpAny_field hoi hdi (x:=.int i 0) rfl ?_)
  show wpAny _ _ (seqItems? (.ref a) >>= _) _ _ s;refine wpAny_bind (wpAny_seqItems hoa hda ?_)
  simp only [Int.toNat_natCast,hx]
  refine wpAny_bind (wpAny_setField hoi hdi (by simp) (wpAny_pure ⟨x,rfl,wpAny_pure (hQ _ (.mk ?_) (Heap.SameBut.update ..))⟩))
  exact ⟨_,Heap.get?_update_self _ hoi (Obj.isFreed_of_fields (Obj.data_mapFields hdi _)),(Obj.cls_mapFields ..).trans hci,by rw [Obj.data_mapFields hdi];simp [rawInt]⟩
theorem X3 {Q:Value->Shared->Prop}(hh:A.handled=none)(hit:jj k s.heap it a i)(hl:jG k s.heap a items)(hx:items[i]? =none)
  (hE:∀h' e,Heap.ExtBut it s.heap h'->(∃o,h'.get? e=some o/\o.cls=.type "StopIteration")->E (.ref e) { s with heap:=h' }):wpAny (model prog w) A (Builtin.SmallTypes.nextOf (.ref it)) Q E s:=by
 cases k with
 | true=>exact wpAny_nextOf_list_end hh hit hl hx hE
 | false=>
  have hit':s.heap.IsTupleIter it a i:=hit
  obtain ⟨oi,hoi,hci,hdi⟩:=id hit'
  obtain ⟨oa,hoa,_,na,hda⟩:s.heap.IsTuple a items:=hl
  unfold Builtin.SmallTypes.nextOf
  refine wpAny_bind (wpAny_callSpecial?_slot (name:=Str.ofString "__next__") hit'.typeIs F.slot_tuple_iterator_next (wpAny_call_entry F.slot_tuple_iterator_next hit'.typeIs F.entry_tuple_iterator_next ?_ (F.args_tuple_iterator_next_1 _)))
  show wpAny _ _ (field (.ref it) 0 >>= _) _ _ s;refine wpAny_bind (wpAny_field hoi hdi (x:=.ref a) rfl ?_)
  show wpAny _ _ (if (Value.ref a==Value.none)=true then _ else _) _ _ s;rw [if_neg (show ¬((Value.ref a==Value.none)=true) from Bool.false_ne_true)]
  show wpAny _ _ (field (.ref it) 1 >>= _) _ _ s;refine wpAny_bind (wpAny_field hoi hdi (x:=.int i 0) rfl ?_)
  show wpAny _ _ (seqItems? (.ref a) >>= _) _ _ s;refine wpAny_bind (wpAny_seqItems hoa hda ?_)
  simp only [Int.toNat_natCast,hx]
  refine wpAny_bind (wpAny_rule (wpAny_bind (wpAny_setField hoi hdi (by simp) ?_)))
  show wpAny _ _ (newExc (.type "StopIteration") [] >>= _) _ _ _;refine wpAny_bind ?_;simp only [newExc,newTuple]
  refine wpAny_bind (wpAny_newObj_type ?_ (by size_fits))
  refine wpAny_bind (m:=firstArgMember _ _) (wpAny_of_eq (a:=Value.none) (by first | rfl | (simp only [firstArgMember];rfl)) ?_);refine wpAny_newObj_type ?_ (by size_fits)
  simp only [raiseNew];refine wpAny_bind (wpAny_handled ?_)
  first | rw [show A.in1.handled=none from hh] | rw [hh]
  refine wpAny_bind (wpAny_pure (wpAny_throw ?_));exact hE _ _ (((Heap.SameBut.update ..).extBut.push _).push _) ⟨_,Heap.get?_push_size _ rfl,rfl⟩
theorem Se (hh:A.handled=none)(hne:a≠it):Draws prog w A it [it,a] items.size (λ i v=>items[i]? =some v) (λ i h=>jj k h it a i/\jG k h a items) where
 live:=λ _ _ st=>let ⟨o,ho,_⟩:=st.1.ob;⟨o,ho⟩
 frame:=λ _ _ _ st hk=>⟨st.1.to λ o e=>hk it (by simp) o e,st.2.to λ o e=>hk a (by simp) o e⟩
 item:=λ i s Q E hi st hQ=>Y0 st.1 st.2 (x:=items[i]) (by simp [hi]) λ h' hit' hs'=>hQ _ h' s.toks (by simp [hi]) ⟨hit',st.2.to λ o e=>hs'.extBut a o hne e⟩ hs'
 done:=λ s Q E st hE=>X3 hh st.1 st.2 (by simp) hE
end
section
variable {X:Cx}{pins:List (Addr × Obj)}{σ:St}{H:Hp}{s:Shared}{h':Heap}{t':Nat}{fp:List Addr}
theorem _root_.L2.Inv.spun {T:Addr}{o:HO}(I:Inv X pins σ H s)(k:∀b u,b∉fp->s.heap.get? b=some u->h'.get? b=some u)(hf:∀b∈fp,y0 X pins H b)(hT:s.heap.objs.size<=T)
  (new:qY X.prog X.w (upd H T o) h' T o):Inv X pins σ (upd H T o) { s with heap:=h',toks:=t' }:=by
 have hn:H T=none:=I.hok.fresh hT
 have lt:∀b u,s.heap.get? b=some u->b≠T:=λ b u e=>Nat.ne_of_lt (Nat.lt_of_lt_of_le (Heap.lt_size e) hT)
 have nf:∀b u,H b=some u->b∉fp:=λ b u e z=>by rw [(hf b z).1] at e;cases e
 refine I.step (g':=s.gens) (d':=s.drawn) (ch:=fp) (λ b hb=>let ⟨_,f1,_,f3,f4,f5⟩:=hf b hb;⟨f3,f1,f4,f5⟩) (λ b o _ _ hc e _=>k b o hc e) (λ b o _ _ hc e _=>⟨o.slots,k b o hc e⟩)
  (λ b o _ e n=>by rw [qc (lt b o e)];exact n) (λ b o hc e=>⟨o,k b o hc e⟩) (λ b xs e=>by rw [qc (yN e hn)];exact e) (λ b u xs e=>by rw [qc (yN e hn)];exact e)
  (λ b ps e=>⟨#[],by rw [qc (yN e hn),e];simp⟩) (λ m hm=>?_) (λ b u e=>?_) I.bare
 ·obtain ⟨o,es,ep,ho,r⟩:=hm
  exact ⟨o,es,ep,k _ o (λ z=>(hf _ z).2.1 rfl) ho,r⟩
 ·by_cases hb:b=T
  ·subst hb;rw [jw] at e;cases e;exact new
  ·rw [qc hb] at e
   refine (I.hok b u e).stay (λ c v hc q=>k c v ?_ q) (λ c q=>by rw [qc (yN q hn)];exact q) λ c xs q=>by rw [qc (yN q hn)];exact q
   rcases hc with z | z
   ·rw [z];exact nf b u e
   ·exact nf c _ z
theorem _root_.L2.Inv.spun0 (I:Inv X pins σ H s)(k:∀b u,b∉fp->s.heap.get? b=some u->h'.get? b=some u)(hf:∀b∈fp,y0 X pins H b):Inv X pins σ H { s with heap:=h',toks:=t' }:=by
 have nf:∀b u,H b=some u->b∉fp:=λ b u e z=>by rw [(hf b z).1] at e;cases e
 refine I.step (g':=s.gens) (d':=s.drawn) (ch:=fp) (λ b hb=>let ⟨_,f1,_,f3,f4,f5⟩:=hf b hb;⟨f3,f1,f4,f5⟩) (λ b o _ _ hc e _=>k b o hc e) (λ b o _ _ hc e _=>⟨o.slots,k b o hc e⟩)
  (λ b o _ e n=>n) (λ b o hc e=>⟨o,k b o hc e⟩) (λ b xs e=>e) (λ b u xs e=>e) (λ b ps e=>⟨#[],by rw [e];simp⟩) (λ m hm=>?_) (λ b u e=>?_) I.bare
 ·obtain ⟨o,es,ep,ho,r⟩:=hm
  exact ⟨o,es,ep,k _ o (λ z=>(hf _ z).2.1 rfl) ho,r⟩
 ·refine (I.hok b u e).stay (λ c v hc q=>k c v ?_ q) (λ c q=>q) λ c xs q=>q
  rcases hc with z | z
  ·rw [z];exact nf b u e
  ·exact nf c _ z
theorem _root_.L2.Inv.sq {k:Bool}{a:Addr}{xs:List V}(I:Inv X pins σ H s)(h:yD k X.K H a xs):∃its:List Value,Vals xs its/\jG k s.heap a its.toArray/\xs.length<=sizeLine:=by
 cases k with
 | true=>obtain ⟨its,r,p,z⟩:=I.list h;exact ⟨its,r,p.isList,z⟩
 | false=>obtain ⟨its,r,p,z⟩:=I.tuple h;exact ⟨its,r,(show s.heap.IsTuple a its.toArray from p),z⟩
theorem _root_.L2.Inv.sq_inj {k:Bool}{a:Addr}{xs ys:List V}(I:Inv X pins σ H s)(h:yD k X.K H a xs)(h':yD k X.K H a ys):xs=ys:=by
 cases k with
 | true=>exact I.list_inj h h'
 | false=>exact I.tuple_inj h h'
end
noncomputable def Ue (k:Bool)(K:Frag)(a:Addr):It:=
 ⟨λ i H=>∃xs x,yD k K H a xs/\xs[i]? =some x,λ i H x H'=>∃p y,(∀xs,yD k K H a xs->xs[i]? =some y)/\H p=none/\x=.ref p/\H'=upd H p (.tup [.int i,y]),λ i H=>∃xs,yD k K H a xs/\xs.length=i⟩
theorem NU {P:Program}{w:World}{K:Frag}{elts:List Expr}{kk:Nat}{tpos:Pos}(k:Bool)(a en it:Addr):Turn P w K (.Tuple elts kk tpos) (Ue k K a) [en,it] en (λ i h=>(∃old,IsEnum h en it i old)/\jj k h it a i/\en≠it) where
 mem:=by simp
 obj:=λ i h st b hb=>by
  obtain ⟨⟨old,he⟩,hi,_⟩:=st
  rcases List.mem_cons.mp hb with rfl | hb
  ·exact ⟨_,he,λ v z=>nomatch z⟩
  ·rw [List.mem_singleton.mp hb]
   obtain ⟨o,ho,_,hd⟩:=hi.ob
   exact ⟨o,ho,λ v z=>by rw [hd] at z;cases z⟩
 keep:=λ i h h' ⟨⟨old,he⟩,hi,ne⟩ kp=>⟨⟨old,kp en (by simp) _ he⟩,hi.to λ o eo=>kp it (by simp) o eo,ne⟩
 item:=by
  intro X hP hw hK hc i pins s σ H E I hf st hg;subst hP hw hK
  obtain ⟨⟨old,he⟩,hi,ne⟩:=st
  obtain ⟨xs,x,hq,hx⟩:=hg
  obtain ⟨its,rv,hs,hz⟩:=I.sq hq
  obtain ⟨u,hu,ru⟩:=rv.get hx
  have hlt:i<its.toArray.size:=by simpa using (List.getElem?_eq_some_iff.mp hu).1
  obtain ⟨oa,hoa,hca,na,hda⟩:=hs.ob
  have ani:a≠it:=λ z=>by
   obtain ⟨oi,hoi,hci,hdi⟩:=hi.ob
   rw [<- z,hoa] at hoi;cases hoi;rw [hdi] at hda;cases hda
  have ane:en≠a:=λ z=>by
   have he':s.heap.get? a=_:=z ▸ he
   rw [hoa] at he';cases he';cases hda
  refine wpAny_pyNext_enum_itemD (Se (k:=k) (items:=its.toArray) (I.ok.hd hc) ani) he ⟨hi,hs⟩ hlt ne (by simp [ne,ane]) λ y h1 tk hy ho hst hT hsz hk=>?_
  have ey:y=u:=by
   have:its[i]? =some y:=by simpa using hy
   rw [hu] at this;exact (Option.some.inj this).symm
  subst ey
  refine ⟨_,rfl,wpAny_letOwnedTupleGo_enum ho λ h2 he2 hs2=>?_⟩
  have ltE:en<s.heap.objs.size:=Heap.lt_size he
  have hT2:h2.get? s.heap.objs.size=some { cls:=.type "tuple",data:=.seq #[.int i tk,y] }:=hs2.extBut _ _ (Nat.ne_of_gt ltE) hT
  refine ⟨.ref s.heap.objs.size,upd H s.heap.objs.size (.tup [.int i,x]),?_,rfl,⟨s.heap.objs.size,x,λ ys hy=>by rw [I.sq_inj hy hq];exact hx,I.hok.fresh (Nat.le_refl _),rfl,rfl⟩,⟨⟨_,by simpa using he2⟩,?_,ne⟩,λ b hb=>?_⟩
  ·refine I.spun (fp:=[en,it]) (t':=tk+1) (λ b o hb eo=>?_) hf (Nat.le_refl _) ?_
   ·exact hs2.extBut _ _ (λ z=>hb (by simp [z])) (hk b o (λ z=>hb (by simp [z])) (λ z=>hb (by simp [z])) eo)
   ·exact ⟨by show 2<=sizeLine;decide,[.int i tk,y],.cons ⟨tk,rfl⟩ (.cons ru .nil),_,hT2,⟨rfl,rfl⟩,0,rfl⟩
  ·exact hst.1.to λ o eo=>hs2.extBut _ _ (λ z=>ne z.symm) eo
  ·have bn:b≠s.heap.objs.size:=λ z=>by
    rcases List.mem_cons.mp hb with q | q
    ·exact absurd ltE (by rw [<- q,z];exact Nat.lt_irrefl _)
    ·obtain ⟨oi,hoi,_⟩:=hi.ob
     exact absurd (Heap.lt_size hoi) (by rw [<- List.mem_singleton.mp q,z];exact Nat.lt_irrefl _)
   show upd H s.heap.objs.size _ b=none
   rw [qc bn];exact (hf b hb).1
 done:=by
  intro X hP hw hK hc i pins s σ H E I hf st hg;subst hP hw hK
  obtain ⟨⟨old,he⟩,hi,ne⟩:=st
  obtain ⟨xs,hq,hx⟩:=hg
  obtain ⟨its,rv,hs,hz⟩:=I.sq hq
  have en':its.toArray.size=i:=by rw [List.size_toArray,<- rv.length];exact hx
  obtain ⟨oa,hoa,hca,na,hda⟩:=hs.ob
  have ani:a≠it:=λ z=>by
   obtain ⟨oi,hoi,hci,hdi⟩:=hi.ob
   rw [<- z,hoa] at hoi;cases hoi;rw [hdi] at hda;cases hda
  refine wpAny_pyNext_enum_endD (Se (k:=k) (items:=its.toArray) (I.ok.hd hc) ani) he ⟨by rw [en'];exact hi,hs⟩ λ h1 hx1=>⟨rfl,?_⟩
  exact I.spun0 (fp:=[en,it]) (t':=s.toks) (λ b o hb eo=>hx1 b o (λ z=>hb (by simp [z])) eo) hf
 self:=λ _ _ _ _ _ ⟨⟨_,he⟩,_⟩ h=>wpAny_pyIter_enum he h
open AutoSeq1 (wpAny_loadPart')
noncomputable abbrev KR (h:Heap)(k:Bool)(a:Addr):Heap:=h.push { cls:=.type (Z9 k),data:=.fields #[.ref a,.int 0 0] }
noncomputable abbrev RX (h:Heap)(k:Bool)(a:Addr):Heap:=(KR h k a).push { cls:=.type "enumerate",data:=.fields #[.none,.bool false,.ref h.objs.size,rawInt 0,.none,.none] }
theorem O9 (a:Addr)(items:Array Value)(n:Nat)(dd:Option Addr)(sl:Array (Option Value)):
  Meets (Builtin.«enumerate.__new__» ⟨[.type "enumerate",.ref a],[]⟩) (λ _ R s=>s.heap.get? a=some { cls:=.type "tuple",dict:=dd,data:=.seq items n,slots:=sl }/\R (.ok (.ret (.ref (KR s.heap false a).objs.size))) { s with heap:=RX s.heap false a }):=
 .of_wp λ prog w A R s h=>by
  obtain ⟨hp,g,d,tk,os⟩:=s;obtain ⟨ha,h⟩:=h;have hsub:=sub_enumerate
  have hT:Heap.IsTuple (Shared.heap ⟨hp,g,d,tk,os⟩) a items:=⟨_,ha,rfl,n,rfl⟩
  wp_walk using wpAny_loadPart' ha
  refine wpAny_stack_any λ st=>wpAny_pure ?_;split
  ·rename_i c _ _ _ _ _
   cases (c==Value.type "enumerate")<;>(wp_walk using wpAny_loadPart' ha,wpAny_pyIter_tuple hT;exact ⟨_,rfl,h⟩)
  ·wp_walk using wpAny_loadPart' ha,wpAny_pyIter_tuple hT
   exact ⟨_,rfl,h⟩
section
variable {prog:Program}{w:World}{A:Around}{E:Value->Shared->Prop}{s:Shared}
theorem Mr {k:Bool}{a:Addr}{items:Array Value}{Q:Value->Shared->Prop}(hl:jG k s.heap a items)
  (h:∀h',IsEnum h' (s.heap.objs.size+1) s.heap.objs.size 0 .none->jj k h' s.heap.objs.size a 0->(∀b o,s.heap.get? b=some o->h'.get? b=some o)->Q (.ref (s.heap.objs.size+1)) { s with heap:=h' }):
  wpAny (model prog w) A (call (.type "enumerate") [.ref a]) Q E s:=by
 cases k with
 | true=>exact call_enumerate_list hl λ h' e1 e2 _ e4=>h h' e1 e2 e4
 | false=>
  obtain ⟨⟨c,dd,dt,sl⟩,ha,hc,n,hd⟩:=(show s.heap.IsTuple a items from hl)
  replace hc:c=.type "tuple" := hc
  replace hd:dt=.seq items n:=hd
  subst hc hd
  refine callType_new F.called_enumerate (by decide) (F.typeCall_enumerate_1 _) (F.newCall_enumerate_1 _) (λ obj=>F.args_object_init_2 obj _) F.entry_enumerate_new (O9 a items n dd sl) ⟨ha,?_⟩
  have hz:(KR s.heap false a).objs.size=s.heap.objs.size+1:=Heap.size_push ..
  have he:IsEnum (RX s.heap false a) (KR s.heap false a).objs.size s.heap.objs.size 0 .none:=Heap.get?_push_size _ rfl
  show _/\_
  rw [hz] at he ⊢
  exact ⟨⟨_,he,rfl⟩,h _ he (.mk ⟨_,Heap.get?_push_of_some _ (Heap.get?_push_size _ rfl),rfl,rfl⟩) λ b o x=>Heap.get?_push_of_some _ (Heap.get?_push_of_some _ x)⟩
end
section
variable {X:Cx}{xr:XR}{e a b:Expr}{m ma mb:Ev}{pos:Pos}
noncomputable def Ci (K:Frag)(ta:TA):TI:=λ σ H R=>ta σ H λ vs H1=>∃p k xs,vs=[.ref p]/\yD k K H1 p xs/\R (Ue k K p) H1
theorem boot_enumerate:bootBuiltins "enumerate" = some (.type "enumerate"):=by rfl
theorem boot_zip:bootBuiltins "zip" = some (.type "zip"):=by rfl
theorem HD {elts:List Expr}{kk:Nat}{tpos p:Pos}{ta:TA}(hg:Gl X "enumerate")(hm:X.mg "enumerate" = none)(ha:PA X [a] ta)(hs:starEach [a] X.env=[(false,eval a X.env)]):
  PI X (.Tuple elts kk tpos) (.Call (.Name "enumerate" p) [a] [] pos) (Ci X.K ta):=by
 intro pins s σ H R I h
 refine Call_ (Zs I hg hm boot_enumerate (PyProof.Rows.callWith_type1 (zS (ha pos pins s σ H _ I h) λ us s1 ⟨vs,H1,I1,r1,q1⟩=>?_) hs rfl))
 obtain ⟨p,k,xs,rfl,hq,q⟩:=q1
 obtain ⟨u,rfl,ru⟩:=r1.one
 cases ru
 obtain ⟨its,rv,sq,hz⟩:=I1.sq hq
 refine Mr sq λ h' e1 e2 e3=>wpAny_pyIter_enum e1 ?_
 refine ⟨s1.heap.objs.size+1,[s1.heap.objs.size+1,s1.heap.objs.size],_,_,H1,rfl,I1.kept (t':=s1.toks) e3,NU k p _ _,⟨⟨_,by simpa using e1⟩,e2,Nat.succ_ne_self _⟩,λ b hb=>?_,q⟩
 have hb':s1.heap.objs.size<=b:=by
  rcases List.mem_cons.mp hb with z | z
  ·rw [z];exact Nat.le_succ _
  ·rw [List.mem_singleton.mp z];exact Nat.le_refl _
 exact I1.fpOk hb' (I1.hok.fresh hb')
noncomputable def atEnd (ws:List W)(i:Nat)(f:W->W):Option (Option W):=match ws[i]? with
 | some x=>some (some (f x))
 | none=>if ws.length=i then some none else none
noncomputable def wd (w:W)(n:Nat):jq:=⟨λ A i=>match zU w A with
 | some ws=>atEnd ws i λ x=>.tup [.int i,x]
 | none=>none,n⟩
noncomputable def Zy (w:W):Bool:=match w with
 | .tup _=>false
 | _=>true
theorem YD {K:Frag}{φ:List Addr}{A:Hx}{H:Hp}{w:W}{ws:List W}{v:V}(S:zF K φ A H)(q:RV K φ H w v)(e:zU w A=some ws):∃p ys,v=.ref p/\yD (Zy w) K H p ys/\zB K φ H ws ys:=by
 cases w with
 | tup us=>cases e;obtain ⟨a,vs,ea,t,r⟩:=q;exact ⟨a,vs,ea,t,r⟩
 | ref n=>
  obtain ⟨a,ea,f⟩:=q
  unfold zU at e
  dsimp only at e
  cases ec:A[n]? with
  | none=>rw [ec] at e;cases e
  | some o=>
   rw [ec] at e
   obtain ⟨a',e3,r⟩:=S.ob n o ec
   rw [f] at e3;cases e3
   cases o with
   | lst xs=>cases e;obtain ⟨ys',h1,h2⟩:=r;exact ⟨a,ys',ea,qS.of h1,h2⟩
   | ro xs=>cases e;obtain ⟨ys',h1,h2⟩:=r;exact ⟨a,ys',ea,h1.sq,h2⟩
   | dct xs=>cases e
   | tab _ _=>cases e
 | non=>cases e
 | bl _=>cases e
 | clo _ _ _=>cases e
 | xc _=>cases e
 | int _=>cases e
 | str _=>cases e
theorem GH {K:Frag}{φ φ':List Addr}{A':Hx}{H H':Hp}{w:W}{ws':List W}{p:Addr}(q:RV K φ H w (.ref p))(lw:g9 K φ H φ' H')(S':zF K φ' A' H')(e':zU w A'=some ws'):∃ys',yD (Zy w) K H' p ys'/\zB K φ' H' ws' ys':=by
 obtain ⟨p',ys,ep,h1,h2⟩:=YD S' (RV.monoW lw q) e'
 cases ep
 exact ⟨ys,h1,h2⟩
theorem DV {K:Frag}{φ:List Addr}{H:Hp}{w:W}{p:Addr}{n:Nat}(q:RV K φ H w (.ref p)):ZG K φ H (wd w n) (Ue (Zy w) K p):=λ i φ' H' A' lw S'=>by
 unfold wd
 dsimp only
 cases es:zU w A' with
 | none=>exact ⟨λ _ z=>(by cases z),λ z=>(by cases z)⟩
 | some ws=>
  dsimp only
  obtain ⟨ys,h1,h2⟩:=GH q lw S' es
  unfold atEnd
  cases ei:ws[i]? with
  | none=>
   dsimp only
   by_cases hl:ws.length=i
   ·rw [if_pos hl]
    exact ⟨λ _ z=>(by cases z),λ _=>⟨ys,h1,by rw [<- h2.length];exact hl⟩⟩
   ·rw [if_neg hl]
    exact ⟨λ _ z=>(by cases z),λ z=>(by cases z)⟩
  | some x=>
   dsimp only
   refine ⟨λ u z=>?_,λ z=>(by cases z)⟩
   cases z
   obtain ⟨y,e1,e2⟩:=h2.get ei
   refine ⟨⟨ys,y,h1,e1⟩,λ xv H1 ⟨t,y',hy,ht,ex,eH⟩=>?_⟩
   subst ex eH
   have:=hy ys h1
   rw [e1] at this;cases this
   obtain ⟨a1,a2,a3⟩:=Z0 S' ht (.cons (w:=.int i) (v:=.int i) rfl (.one e2))
   exact ⟨a1,a2,a3⟩
noncomputable def QN (m:Ev):Ei:=λ ρ A=>(m ρ A).bind λ w A1=>match zU w A1 with
 | some ws=>.ok (wd w ws.length) A1
 | none=>.bad
end
section
variable {prog:Program}{w:World}{A:Around}{E:Value->Shared->Prop}{s:Shared}{z TI TO i1 i2 l1 l2:Addr}{n1 n2:Nat}{c1 c2:Bool}{xs ys:Array Value}{x y a b:Value}
theorem Hm {Q:Value->Shared->Prop}(D:ZipApart z TI TO i1 i2 l1 l2)(hz:IsZip s.heap z TI TO .none)(hTI:IsPair s.heap TI (.ref i1) (.ref i2))(hTO:IsPair s.heap TO a b)
  (g1:jj c1 s.heap i1 l1 n1)(g2:jj c2 s.heap i2 l2 n2)(s1:jG c1 s.heap l1 xs)(s2:jG c2 s.heap l2 ys)(hx:xs[n1]? =some x)(hy:ys[n2]? =some y)
  (hQ:∀h',IsZip h' z TI TO (rawInt s.heap.objs.size)->IsPair h' TI (.ref i1) (.ref i2)->IsPair h' TO x y->jj c1 h' i1 l1 (n1+1)->jj c2 h' i2 l2 (n2+1)->IsPair h' s.heap.objs.size x y->
   (∀c o,c≠z->c≠TO->c≠i1->c≠i2->s.heap.get? c=some o->h'.get? c=some o)->Q (.ref s.heap.objs.size) { s with heap:=h' }):
  wpAny (model prog w) A (Builtin.«zip.__next__» ⟨[.ref z],[]⟩) (λ fin s'=>∃v,fin=.done (.ret v)/\Q v s') E s:=by
 show wpAny _ _ (field (.ref z) 2 >>= _) _ _ _;refine wpAny_bind (wpAny_field hz rfl (x:=.bool false) rfl ?_)
 show wpAny _ _ (field (.ref z) 3 >>= _) _ _ _;refine wpAny_bind (wpAny_field hz rfl (x:=.ref TI) rfl (wpAny_bind (wpAny_seqItems hTI rfl ?_)))
 show wpAny _ _ (Builtin.SmallTypes.ownedTupleIsFree (.ref z) >>= _) _ _ _;refine wpAny_bind ?_;unfold Builtin.SmallTypes.ownedTupleIsFree
 refine wpAny_bind (wpAny_field hz rfl (x:=.none) rfl (wpAny_pure ?_));simp only [if_true];refine wpAny_bind (wpAny_rule (wpAny_bind (wpAny_field hz rfl (x:=.ref TO) rfl ?_)))
 refine wpAny_bind (wpAny_setField_rec hz (by simp) λ ha za sa=>?_);replace za:IsZip ha z TI TO .ellipsis:=za
 refine wpAny_bind ?_;simp only [List.zipIdx_cons,List.zipIdx_nil,List.forIn_cons,List.forIn_nil]
 refine wpAny_bind (wpAny_bind (wpAny_onRaise ?_));show wpAny _ _ (Builtin.SmallTypes.nextOf (.ref i1) >>= _) _ _ _
 refine wpAny_bind (Y0 (g1.to λ o e=>sa.extBut _ _ D.i1z e) (s1.to λ o e=>sa.extBut _ _ D.l1z e) hx λ hb gb sb=>wpAny_pure ?_)
 have tb:IsPair hb TO a b:=sb.extBut _ _ D.TOi1 (sa.extBut _ _ D.TOz hTO)
 refine wpAny_bind (wpAny_seqItems tb rfl (wpAny_bind (wpAny_updateSeq_pair tb λ hc tc sc=>wpAny_bind (wpAny_letGo (wpAny_pure ?_)))));replace tc:IsPair hc TO x b:=tc
 refine wpAny_bind (wpAny_bind (wpAny_onRaise ?_));show wpAny _ _ (Builtin.SmallTypes.nextOf (.ref i2) >>= _) _ _ _
 have up:∀c o,c≠z->c≠i1->c≠TO->s.heap.get? c=some o->hc.get? c=some o:=λ c o q1 q2 q3 e=>sc.extBut _ _ q3 (sb.extBut _ _ q2 (sa.extBut _ _ q1 e))
 refine wpAny_bind (Y0 (g2.to λ o e=>up _ o D.i2z D.i12.symm D.TOi2.symm e) (s2.to λ o e=>up _ o D.l2z D.l2i1 D.l2TO e) hy λ hd gd sd=>wpAny_pure ?_)
 have td:IsPair hd TO x b:=sd.extBut _ _ D.TOi2 tc
 refine wpAny_bind (wpAny_seqItems td rfl (wpAny_bind (wpAny_updateSeq_pair td λ he te se=>wpAny_bind (wpAny_letGo (wpAny_pure (wpAny_pure ?_))))));replace te:IsPair he TO x y:=te
 refine wpAny_bind (wpAny_seqItems te rfl (wpAny_bind (wpAny_newTuple ?_)))
 have hsz:he.objs.size=s.heap.objs.size:=by rw [se.1,sd.1,sc.1,sb.1,sa.1]
 have ze:IsZip he z TI TO .ellipsis:=se.extBut _ _ D.TOz.symm (sd.extBut _ _ D.i2z.symm (sc.extBut _ _ D.TOz.symm (sb.extBut _ _ D.i1z.symm za)))
 have ke:∀c o,c≠z->c≠TO->c≠i1->c≠i2->s.heap.get? c=some o->he.get? c=some o:=λ c o q1 q2 q3 q4 e=>se.extBut _ _ q2 (sd.extBut _ _ q4 (up c o q1 q3 q2 e))
 have ge1:jj c1 he i1 l1 (n1+1):=((gb.to λ o e=>sc.extBut _ _ D.TOi1.symm e).to λ o e=>sd.extBut _ _ D.i12 e).to λ o e=>se.extBut _ _ D.TOi1.symm e
 have ge2:jj c2 he i2 l2 (n2+1):=gd.to λ o e=>se.extBut _ _ D.TOi2.symm e
 have zlt:z<he.objs.size:=Heap.lt_size ze
 show wpAny _ _ (Builtin.SmallTypes.ownedTupleHandOut (.ref z) (.ref he.objs.size) >>= _) _ _ _;refine wpAny_bind ?_;unfold Builtin.SmallTypes.ownedTupleHandOut
 have zf:IsZip (he.push { cls:=.type "tuple",data:=.seq #[x,y] }) z TI TO .ellipsis:=Heap.get?_push_of_some _ ze
 refine wpAny_bind (wpAny_setField_rec zf (by simp) λ hg zg sg=>?_);replace zg:IsZip hg z TI TO (rawInt he.objs.size):=zg
 refine wpAny_setField_rec zg (by simp) λ hk zk sk=>?_;replace zk:IsZip hk z TI TO (rawInt he.objs.size):=zk
 have fin:∀c o,c≠z->he.get? c=some o->hk.get? c=some o:=λ c o q e=>sk.extBut _ _ q (sg.extBut _ _ q (Heap.get?_push_of_some _ e))
 have tk:IsPair hk he.objs.size x y:=sk.extBut _ _ (Nat.ne_of_gt zlt) (sg.extBut _ _ (Nat.ne_of_gt zlt) (Heap.get?_push_size _ rfl))
 rw [hsz] at zk tk
 refine wpAny_pure ⟨_,rfl,?_⟩
 show Q (.ref he.objs.size) _;rw [hsz]
 exact hQ hk zk (fin _ _ D.TIz (ke _ _ D.TIz D.TITO D.TIi1 D.TIi2 hTI)) (fin _ _ D.TOz te) (ge1.to λ o e=>fin _ o D.i1z e) (ge2.to λ o e=>fin _ o D.i2z e) tk λ c o q1 q2 q3 q4 e=>fin c o q1 (ke c o q1 q2 q3 q4 e)
theorem F4 {Q:Fin->Shared->Prop}(hh:A.handled=none)(D:ZipApart z TI TO i1 i2 l1 l2)(hz:IsZip s.heap z TI TO .none)(hTI:IsPair s.heap TI (.ref i1) (.ref i2))(hTO:IsPair s.heap TO a b)
  (g1:jj c1 s.heap i1 l1 n1)(g2:jj c2 s.heap i2 l2 n2)(s1:jG c1 s.heap l1 xs)(s2:jG c2 s.heap l2 ys)(hend:xs[n1]? =none∨ys[n2]? =none)
  (hE:∀h' e,(∀c o,c≠z->c≠TO->c≠i1->c≠i2->s.heap.get? c=some o->h'.get? c=some o)->(∃o,h'.get? e=some o/\o.cls=.type "StopIteration")->E (.ref e) { s with heap:=h' }):
  wpAny (model prog w) A (Builtin.«zip.__next__» ⟨[.ref z],[]⟩) Q E s:=by
 show wpAny _ _ (field (.ref z) 2 >>= _) _ _ _;refine wpAny_bind (wpAny_field hz rfl (x:=.bool false) rfl ?_)
 show wpAny _ _ (field (.ref z) 3 >>= _) _ _ _;refine wpAny_bind (wpAny_field hz rfl (x:=.ref TI) rfl (wpAny_bind (wpAny_seqItems hTI rfl ?_)))
 show wpAny _ _ (Builtin.SmallTypes.ownedTupleIsFree (.ref z) >>= _) _ _ _;refine wpAny_bind ?_;unfold Builtin.SmallTypes.ownedTupleIsFree
 refine wpAny_bind (wpAny_field hz rfl (x:=.none) rfl (wpAny_pure ?_));simp only [if_true];refine wpAny_bind (wpAny_rule (wpAny_bind (wpAny_field hz rfl (x:=.ref TO) rfl ?_)))
 refine wpAny_bind (wpAny_setField_rec hz (by simp) λ ha za sa=>?_);replace za:IsZip ha z TI TO .ellipsis:=za
 refine wpAny_bind ?_;simp only [List.zipIdx_cons,List.zipIdx_nil,List.forIn_cons,List.forIn_nil]
 refine wpAny_bind (wpAny_bind (wpAny_onRaise ?_));show wpAny _ _ (Builtin.SmallTypes.nextOf (.ref i1) >>= _) _ _ _
 have ga:=g1.to (h':=ha) λ o e=>sa.extBut _ _ D.i1z e
 have ya:=s1.to (h':=ha) λ o e=>sa.extBut _ _ D.l1z e
 cases hx:xs[n1]? with
 | none=>
  refine wpAny_bind (X3 hh ga ya hx λ hb e sb he=>?_)
  obtain ⟨oe,hoe,hce⟩:=he
  have zb:IsZip hb z TI TO .ellipsis:=sb _ _ D.i1z.symm za
  have hez:e≠z:=λ q=>by subst q;rw [zb] at hoe;cases hoe;simp at hce
  exact wpAny_setField_rec zb (by simp) λ hc _ sc=>hE hc e (λ c o q1 _ q3 _ q=>sc.extBut _ _ q1 (sb _ _ q3 (sa.extBut _ _ q1 q))) ⟨oe,sc.extBut _ _ hez hoe,hce⟩
 | some x=>
  have hy:ys[n2]? =none:=by
   rcases hend with q | q
   ·rw [hx] at q;cases q
   ·exact q
  refine wpAny_bind (Y0 ga ya hx λ hb gb sb=>wpAny_pure ?_)
  have tb:IsPair hb TO a b:=sb.extBut _ _ D.TOi1 (sa.extBut _ _ D.TOz hTO)
  refine wpAny_bind (wpAny_seqItems tb rfl (wpAny_bind (wpAny_updateSeq_pair tb λ hc tc sc=>wpAny_bind (wpAny_letGo (wpAny_pure ?_)))))
  refine wpAny_bind (wpAny_bind (wpAny_onRaise ?_));show wpAny _ _ (Builtin.SmallTypes.nextOf (.ref i2) >>= _) _ _ _
  have up:∀c o,c≠z->c≠i1->c≠TO->s.heap.get? c=some o->hc.get? c=some o:=λ c o q1 q2 q3 e=>sc.extBut _ _ q3 (sb.extBut _ _ q2 (sa.extBut _ _ q1 e))
  refine wpAny_bind (X3 hh (g2.to λ o e=>up _ o D.i2z D.i12.symm D.TOi2.symm e) (s2.to λ o e=>up _ o D.l2z D.l2i1 D.l2TO e) hy λ hd e sd he=>?_)
  obtain ⟨oe,hoe,hce⟩:=he
  have zd:IsZip hd z TI TO .ellipsis:=sd _ _ D.i2z.symm (sc.extBut _ _ D.TOz.symm (sb.extBut _ _ D.i1z.symm za))
  have hez:e≠z:=λ q=>by subst q;rw [zd] at hoe;cases hoe;simp at hce
  exact wpAny_setField_rec zd (by simp) λ hf _ sf=>hE hf e (λ c o q1 q2 q3 q4 q=>sf.extBut _ _ q1 (sd _ _ q4 (up c o q1 q3 q2 q))) ⟨oe,sf.extBut _ _ hez hoe,hce⟩
theorem Hg {Q:Option Value->Shared->Prop}(D:ZipApart z TI TO i1 i2 l1 l2)(hz:IsZip s.heap z TI TO .none)(hTI:IsPair s.heap TI (.ref i1) (.ref i2))(hTO:IsPair s.heap TO a b)
  (g1:jj c1 s.heap i1 l1 n1)(g2:jj c2 s.heap i2 l2 n2)(s1:jG c1 s.heap l1 xs)(s2:jG c2 s.heap l2 ys)(hx:xs[n1]? =some x)(hy:ys[n2]? =some y)
  (hQ:∀h',IsZip h' z TI TO (rawInt s.heap.objs.size)->IsPair h' TI (.ref i1) (.ref i2)->IsPair h' TO x y->jj c1 h' i1 l1 (n1+1)->jj c2 h' i2 l2 (n2+1)->IsPair h' s.heap.objs.size x y->
   (∀c o,c≠z->c≠TO->c≠i1->c≠i2->s.heap.get? c=some o->h'.get? c=some o)->Q (some (.ref s.heap.objs.size)) { s with heap:=h' }):wpAny (model prog w) A (pyNext (.ref z)) Q E s:=by
 have hT:s.TypeIs (.ref z) "zip" := ⟨_,hz,rfl⟩
 unfold pyNext
 exact wpAny_bind (wpAny_attempt (wpAny_callSpecial?_slot (name:=Str.ofString "__next__") hT F.slot_zip_next (wpAny_call_entry F.slot_zip_next hT F.entry_zip_next
  (Hm D hz hTI hTO g1 g2 s1 s2 hx hy λ h' q1 q2 q3 q4 q5 q6 q7=>wpAny_pure (hQ h' q1 q2 q3 q4 q5 q6 q7)) (F.args_zip_next_1 _))))
theorem IK {Q:Option Value->Shared->Prop}(hh:A.handled=none)(D:ZipApart z TI TO i1 i2 l1 l2)(hz:IsZip s.heap z TI TO .none)(hTI:IsPair s.heap TI (.ref i1) (.ref i2))(hTO:IsPair s.heap TO a b)
  (g1:jj c1 s.heap i1 l1 n1)(g2:jj c2 s.heap i2 l2 n2)(s1:jG c1 s.heap l1 xs)(s2:jG c2 s.heap l2 ys)(hend:xs[n1]? =none∨ys[n2]? =none)
  (hQ:∀h',(∀c o,c≠z->c≠TO->c≠i1->c≠i2->s.heap.get? c=some o->h'.get? c=some o)->Q none { s with heap:=h' }):wpAny (model prog w) A (pyNext (.ref z)) Q E s:=by
 have hT:s.TypeIs (.ref z) "zip" := ⟨_,hz,rfl⟩
 unfold pyNext
 refine wpAny_bind (wpAny_attempt (wpAny_callSpecial?_slot (name:=Str.ofString "__next__") hT F.slot_zip_next (wpAny_call_entry F.slot_zip_next hT F.entry_zip_next (F4 hh D hz hTI hTO g1 g2 s1 s2 hend λ h' e hk he=>?_) (F.args_zip_next_1 _))))
 obtain ⟨o,ho,hc⟩:=he
 exact wpAny_bind (wpAny_isInstance (T := "StopIteration") (b:=true) ⟨o,ho,hc⟩ isSubtype_stop (wpAny_pure (hQ _ hk)))
end
noncomputable abbrev KS (h:Heap)(c1:Bool)(l1:Addr):Heap:=h.push { cls:=.type (Z9 c1),data:=.fields #[.ref l1,.int 0 0] }
noncomputable abbrev KI (h:Heap)(c1 c2:Bool)(l1 l2:Addr):Heap:=(KS h c1 l1).push { cls:=.type (Z9 c2),data:=.fields #[.ref l2,.int 0 0] }
noncomputable abbrev KJ (h:Heap)(c1 c2:Bool)(l1 l2:Addr):Heap:=(KI h c1 c2 l1 l2).push { cls:=.type "tuple",data:=.seq #[.ref h.objs.size,.ref (KS h c1 l1).objs.size] }
noncomputable abbrev KA (h:Heap)(c1 c2:Bool)(l1 l2:Addr):Heap:=(KJ h c1 c2 l1 l2).push { cls:=.type "tuple",data:=.seq #[.none,.none] }
noncomputable abbrev QV (h:Heap)(c1 c2:Bool)(l1 l2:Addr):Heap:=(KA h c1 c2 l1 l2).push { cls:=.type "zip",data:=.fields #[.none,.bool false,.bool false,.ref (KI h c1 c2 l1 l2).objs.size,.ref (KJ h c1 c2 l1 l2).objs.size] }
theorem Mp (c1 c2:Bool)(l1 l2:Addr)(xs ys:Array Value):
  Meets (Builtin.«zip.__new__» ⟨[.type "zip",.ref l1,.ref l2],[]⟩) (λ _ R s=>jG c1 s.heap l1 xs/\jG c2 s.heap l2 ys/\R (.ok (.ret (.ref (KA s.heap c1 c2 l1 l2).objs.size))) { s with heap:=QV s.heap c1 c2 l1 l2 }):=
 .of_wp λ prog w A R s h=>by
  obtain ⟨hp,g,d,tk,os⟩:=s;obtain ⟨q1,q2,h⟩:=h;have hsub:=sub_zip
  have k1:jG c1 (Shared.heap ⟨hp,g,d,tk,os⟩) l1 xs:=q1
  have k2:jG c2 (Shared.heap ⟨hp.push { cls:=.type (Z9 c1),data:=.fields #[.ref l1,.int 0 0] },g,d,tk,os⟩) l2 ys:=q2.to λ o e=>Heap.get?_push_of_some _ e
  wp_walk using Sr k1,Sr k2
  exact ⟨_,rfl,h⟩
section
variable {prog:Program}{w:World}{A:Around}{E:Value->Shared->Prop}{s:Shared}{c1 c2:Bool}{l1 l2:Addr}{xs ys:Array Value}
theorem M3 {Q:Value->Shared->Prop}(s1:jG c1 s.heap l1 xs)(s2:jG c2 s.heap l2 ys)
  (h:∀h' n,n=s.heap.objs.size->IsZip h' (n+4) (n+2) (n+3) .none->IsPair h' (n+2) (.ref n) (.ref (n+1))->IsPair h' (n+3) .none .none->jj c1 h' n l1 0->jj c2 h' (n+1) l2 0->
   (∀c o,s.heap.get? c=some o->h'.get? c=some o)->Q (.ref (n+4)) { s with heap:=h' }):wpAny (model prog w) A (call (.type "zip") [.ref l1,.ref l2]) Q E s:=by
 refine callType_new F.called_zip (by decide) (F.typeCall_zip_2 _ _) (F.newCall_zip_2 _ _) (λ obj=>F.args_object_init_3 obj _ _) F.entry_zip_new (Mp c1 c2 l1 l2 xs ys) ⟨s1,s2,?_⟩
 have z1:(KS s.heap c1 l1).objs.size=s.heap.objs.size+1:=Heap.size_push ..
 have z2:(KI s.heap c1 c2 l1 l2).objs.size=s.heap.objs.size+2:=by rw [Heap.size_push,z1]
 have z3:(KJ s.heap c1 c2 l1 l2).objs.size=s.heap.objs.size+3:=by rw [Heap.size_push,z2]
 have z4:(KA s.heap c1 c2 l1 l2).objs.size=s.heap.objs.size+4:=by rw [Heap.size_push,z3]
 have y5:(QV s.heap c1 c2 l1 l2).get? (KA s.heap c1 c2 l1 l2).objs.size=some _:=Heap.get?_push_size _ rfl
 have y4:(QV s.heap c1 c2 l1 l2).get? (KJ s.heap c1 c2 l1 l2).objs.size=some _:=Heap.get?_push_of_some _ (Heap.get?_push_size _ rfl)
 have y3:(QV s.heap c1 c2 l1 l2).get? (KI s.heap c1 c2 l1 l2).objs.size=some _:=Heap.get?_push_of_some _ (Heap.get?_push_of_some _ (Heap.get?_push_size _ rfl))
 have y2:(QV s.heap c1 c2 l1 l2).get? (KS s.heap c1 l1).objs.size=some _:=Heap.get?_push_of_some _ (Heap.get?_push_of_some _ (Heap.get?_push_of_some _ (Heap.get?_push_size _ rfl)))
 have y1:(QV s.heap c1 c2 l1 l2).get? s.heap.objs.size=some _:=Heap.get?_push_of_some _ (Heap.get?_push_of_some _ (Heap.get?_push_of_some _ (Heap.get?_push_of_some _ (Heap.get?_push_size _ rfl))))
 show _/\_
 rw [z2,z3,z4] at y5
 rw [z1,z2] at y3
 rw [z3] at y4
 rw [z1] at y2
 rw [z4]
 exact ⟨⟨_,y5,rfl⟩,h _ _ rfl y5 y3 y4 (.mk ⟨_,y1,rfl,rfl⟩) (.mk ⟨_,y2,rfl,rfl⟩) λ c o q=>
  Heap.get?_push_of_some _ (Heap.get?_push_of_some _ (Heap.get?_push_of_some _ (Heap.get?_push_of_some _ (Heap.get?_push_of_some _ q))))⟩
end
noncomputable def Ui (c1 c2:Bool)(K:Frag)(p q:Addr):It:=
 ⟨λ i H=>∃xs ys x y,yD c1 K H p xs/\yD c2 K H q ys/\xs[i]? =some x/\ys[i]? =some y,
  λ i H v H'=>∃t x y,(∀xs,yD c1 K H p xs->xs[i]? =some x)/\(∀ys,yD c2 K H q ys->ys[i]? =some y)/\H t=none/\v=.ref t/\H'=upd H t (.tup [x,y]),
  λ i H=>∃xs ys,yD c1 K H p xs/\yD c2 K H q ys/\(xs[i]? =none∨ys[i]? =none)⟩
theorem Ld {P:Program}{w:World}{K:Frag}{elts:List Expr}{kk:Nat}{tpos:Pos}(c1 c2:Bool)(p q z TI TO i1 i2:Addr)(D:ZipApart z TI TO i1 i2 p q):
  Turn P w K (.Tuple elts kk tpos) (Ui c1 c2 K p q) [z,TI,TO,i1,i2] z (λ i h=>IsZip h z TI TO .none/\IsPair h TI (.ref i1) (.ref i2)/\(∃a b,IsPair h TO a b)/\jj c1 h i1 p i/\jj c2 h i2 q i) where
 mem:=by simp
 obj:=λ i h st b hb=>by
  obtain ⟨hz,hTI,⟨a',b',hTO⟩,g1,g2⟩:=st
  simp only [List.mem_cons,List.not_mem_nil,or_false] at hb
  rcases hb with rfl | rfl | rfl | rfl | rfl
  ·exact ⟨_,hz,λ v e=>nomatch e⟩
  ·exact ⟨_,hTI,λ v e=>nomatch e⟩
  ·exact ⟨_,hTO,λ v e=>nomatch e⟩
  ·obtain ⟨o,ho,_,hd⟩:=g1.ob;exact ⟨o,ho,λ v e=>by rw [hd] at e;cases e⟩
  ·obtain ⟨o,ho,_,hd⟩:=g2.ob;exact ⟨o,ho,λ v e=>by rw [hd] at e;cases e⟩
 keep:=λ i h h' ⟨hz,hTI,⟨a',b',hTO⟩,g1,g2⟩ k=>⟨k z (by simp) _ hz,k TI (by simp) _ hTI,⟨a',b',k TO (by simp) _ hTO⟩,g1.to λ o e=>k i1 (by simp) o e,g2.to λ o e=>k i2 (by simp) o e⟩
 item:=by
  intro X hP hw hK hc i pins s σ H E I hf st hg;subst hP hw hK
  obtain ⟨hz,hTI,⟨a',b',hTO⟩,g1,g2⟩:=st
  obtain ⟨xs,ys,x,y,h1,h2,ex,ey⟩:=hg
  obtain ⟨its1,r1,sq1,_⟩:=I.sq h1
  obtain ⟨its2,r2,sq2,_⟩:=I.sq h2
  obtain ⟨u1,eu1,ru1⟩:=r1.get ex
  obtain ⟨u2,eu2,ru2⟩:=r2.get ey
  refine Hg D hz hTI hTO g1 g2 sq1 sq2 (x:=u1) (y:=u2) (by simpa using eu1) (by simpa using eu2) λ hh z1 z2 z3 z4 z5 z6 kp=>?_
  refine ⟨_,rfl,wpAny_letOwnedTupleGo_zip z1 λ hk zk sk=>?_⟩
  have lt:∀{c o},s.heap.get? c=some o->c≠s.heap.objs.size:=λ e=>Nat.ne_of_lt (Heap.lt_size e)
  have T2:IsPair hk s.heap.objs.size u1 u2:=sk.extBut _ _ (lt hz).symm z6
  have fre:∀b∈[z,TI,TO,i1,i2],b≠s.heap.objs.size:=λ b hb=>by
   simp only [List.mem_cons,List.not_mem_nil,or_false] at hb
   rcases hb with rfl | rfl | rfl | rfl | rfl
   ·exact lt hz
   ·exact lt hTI
   ·exact lt hTO
   ·obtain ⟨o,ho,_⟩:=g1.ob;exact lt ho
   ·obtain ⟨o,ho,_⟩:=g2.ob;exact lt ho
  refine ⟨.ref s.heap.objs.size,upd H s.heap.objs.size (.tup [x,y]),?_,rfl,⟨s.heap.objs.size,x,y,λ zs hzs=>by rw [I.sq_inj hzs h1];exact ex,λ zs hzs=>by rw [I.sq_inj hzs h2];exact ey,I.hok.fresh (Nat.le_refl _),rfl,rfl⟩,
   ⟨zk,sk.extBut _ _ D.TIz z2,⟨_,_,sk.extBut _ _ D.TOz z3⟩,z4.to λ o e=>sk.extBut _ _ D.i1z e,z5.to λ o e=>sk.extBut _ _ D.i2z e⟩,λ b hb=>?_⟩
  ·refine I.spun (fp:=[z,TI,TO,i1,i2]) (t':=s.toks) (λ b o hb eo=>?_) hf (Nat.le_refl _) ?_
   ·exact sk.extBut _ _ (λ e=>hb (by simp [e])) (kp b o (λ e=>hb (by simp [e])) (λ e=>hb (by simp [e])) (λ e=>hb (by simp [e])) (λ e=>hb (by simp [e])) eo)
   ·exact ⟨by show 2<=sizeLine;decide,[u1,u2],.cons ru1 (.cons ru2 .nil),_,T2,⟨rfl,rfl⟩,0,rfl⟩
  ·show upd H s.heap.objs.size _ b=none
   rw [qc (fre b hb)];exact (hf b hb).1
 done:=by
  intro X hP hw hK hc i pins s σ H E I hf st hg;subst hP hw hK
  obtain ⟨hz,hTI,⟨a',b',hTO⟩,g1,g2⟩:=st
  obtain ⟨xs,ys,h1,h2,hend⟩:=hg
  obtain ⟨its1,r1,sq1,_⟩:=I.sq h1
  obtain ⟨its2,r2,sq2,_⟩:=I.sq h2
  have hend':its1.toArray[i]? =none∨its2.toArray[i]? =none:=by
   rcases hend with e | e
   ·exact .inl (by simpa using r1.none_of e)
   ·exact .inr (by simpa using r2.none_of e)
  exact IK (I.ok.hd hc) D hz hTI hTO g1 g2 sq1 sq2 hend' λ hh kp=>⟨rfl,I.spun0 (fp:=[z,TI,TO,i1,i2]) (t':=s.toks) (λ b o hb eo=>kp b o (λ e=>hb (by simp [e])) (λ e=>hb (by simp [e])) (λ e=>hb (by simp [e])) (λ e=>hb (by simp [e])) eo) hf⟩
 self:=λ _ _ _ _ _ st h=>wpAny_pyIter_zip st.1 h
section
variable {X:Cx}{xr:XR}{e a b:Expr}{m ma mb:Ev}{pos:Pos}
noncomputable def CP (K:Frag)(ta:TA):TI:=λ σ H R=>ta σ H λ vs H1=>∃p q c1 c2 xs ys,vs=[.ref p,.ref q]/\yD c1 K H1 p xs/\yD c2 K H1 q ys/\R (Ui c1 c2 K p q) H1
theorem FV {elts:List Expr}{kk:Nat}{tpos p:Pos}{ta:TA}(hg:Gl X "zip")(hm:X.mg "zip" = none)(ha:PA X [a,b] ta)(hs:starEach [a,b] X.env=(false,eval a X.env)::starEach [b] X.env)(hp:(backTo pos (starEach [b] X.env)).any (·.1)=false):
  PI X (.Tuple elts kk tpos) (.Call (.Name "zip" p) [a,b] [] pos) (CP X.K ta):=by
 intro pins s σ H R I h
 refine Call_ (Zs I hg hm boot_zip (PyProof.Rows.callWith_type1 (zS (ha pos pins s σ H _ I h) λ us s1 ⟨vs,H1,I1,r1,q1⟩=>?_) hs hp))
 obtain ⟨p,q,c1,c2,xs,ys,rfl,h1,h2,hR⟩:=q1
 obtain ⟨u1,u2,rfl,ru1,ru2⟩:=r1.two
 cases ru1;cases ru2
 obtain ⟨its1,rv1,sq1,_⟩:=I1.sq h1
 obtain ⟨its2,rv2,sq2,_⟩:=I1.sq h2
 obtain ⟨op,hop,_⟩:=sq1.ob
 obtain ⟨oq,hoq,_⟩:=sq2.ob
 have lp:p<s1.heap.objs.size:=Heap.lt_size hop
 have lq:q<s1.heap.objs.size:=Heap.lt_size hoq
 refine M3 sq1 sq2 λ h' n en z1 z2 z3 z4 z5 kp=>wpAny_pyIter_zip z1 ?_
 rw [<- en] at lp lq
 have ne1:∀(i j:Nat),i≠j->n+i≠n+j:=λ i j h e=>h (Nat.add_left_cancel e)
 have ne2:∀(c:Nat) (i:Nat),c<n->c≠n+i:=λ c i h e=>absurd h (by rw [e];exact Nat.not_lt.mpr (Nat.le_add_right n i))
 have D:ZipApart (n+4) (n+2) (n+3) (n+0) (n+1) p q:=⟨ne1 2 4 (by decide),ne1 3 4 (by decide),ne1 0 4 (by decide),ne1 1 4 (by decide),ne1 2 3 (by decide),ne1 2 0 (by decide),ne1 2 1 (by decide),ne1 3 0 (by decide),ne1 3 1 (by decide),ne1 0 1 (by decide),
  ne2 p 4 lp,ne2 p 3 lp,ne2 p 0 lp,ne2 p 1 lp,ne2 q 4 lq,ne2 q 3 lq,ne2 q 0 lq,ne2 q 1 lq⟩
 refine ⟨n+4,[n+4,n+2,n+3,n,n+1],_,_,H1,rfl,I1.kept (t':=s1.toks) kp,Ld c1 c2 p q _ _ _ _ _ D,⟨z1,z2,⟨_,_,z3⟩,z4,z5⟩,λ c hc=>?_,hR⟩
 have hc':s1.heap.objs.size<=c:=by
  rw [<- en]
  simp only [List.mem_cons,List.not_mem_nil,or_false] at hc
  rcases hc with rfl | rfl | rfl | rfl | rfl
  ·exact Nat.le_add_right _ _
  ·exact Nat.le_add_right _ _
  ·exact Nat.le_add_right _ _
  ·exact Nat.le_refl _
  ·exact Nat.le_add_right _ _
 exact I1.fpOk hc' (I1.hok.fresh hc')
noncomputable def zip2:Option W->Option W->Option W
 | some x,some y=>some (.tup [x,y])
 | _,_=>none
noncomputable def KH (w w':W)(n:Nat):jq:=⟨λ A i=>match zU w A,zU w' A with
 | some us,some vs=>some (zip2 us[i]? vs[i]?)
 | _,_=>none,n⟩
theorem Ck {K:Frag}{φ:List Addr}{H:Hp}{w w':W}{p p':Addr}{n:Nat}(q:RV K φ H w (.ref p))(q':RV K φ H w' (.ref p')):ZG K φ H (KH w w' n) (Ui (Zy w) (Zy w') K p p'):=λ i φ' H' A' lw S'=>by
 unfold KH
 dsimp only
 cases es:zU w A' with
 | none=>exact ⟨λ _ z=>(by cases z),λ z=>(by cases z)⟩
 | some us=>
  cases es':zU w' A' with
  | none=>exact ⟨λ _ z=>(by cases z),λ z=>(by cases z)⟩
  | some vs=>
   dsimp only
   obtain ⟨xs,h1,h2⟩:=GH q lw S' es
   obtain ⟨ys,h3,h4⟩:=GH q' lw S' es'
   have non:∀{us:List W} {xs:List V},zB K φ' H' us xs->us[i]? =none->xs[i]? =none:=λ r e=>by
    rw [List.getElem?_eq_none_iff] at e ⊢;rw [<- r.length];exact e
   cases e1:us[i]? with
   | none=>exact ⟨λ _ z=>(by cases z),λ _=>⟨xs,ys,h1,h3,.inl (non h2 e1)⟩⟩
   | some x=>
    cases e2:vs[i]? with
    | none=>exact ⟨λ _ z=>(by cases z),λ _=>⟨xs,ys,h1,h3,.inr (non h4 e2)⟩⟩
    | some y=>
     refine ⟨λ u z=>?_,λ z=>(by cases z)⟩
     cases z
     obtain ⟨vx,f1,f2⟩:=h2.get e1
     obtain ⟨vy,f3,f4⟩:=h4.get e2
     refine ⟨⟨xs,ys,vx,vy,h1,h3,f1,f3⟩,λ xv H1 ⟨t,x',y',hx,hy,ht,ex,eH⟩=>?_⟩
     subst ex eH
     have g1:=hx xs h1
     have g2:=hy ys h3
     rw [f1] at g1;cases g1
     rw [f3] at g2;cases g2
     obtain ⟨a1,a2,a3⟩:=Z0 S' ht (.cons f2 (.one f4))
     exact ⟨a1,a2,a3⟩
noncomputable def KO (m m':Ev):Ei:=λ ρ A=>(m ρ A).bind λ w A1=>(m' ρ A1).bind λ w' A2=>match zU w A2,zU w' A2 with
 | some us,some _=>.ok (KH w w' us.length) A2
 | _,_=>.bad
end
section
variable {X:Cx}{xr:XR}{K:Frag}{e a b c:Expr}{m ma mb mc:Ev}{pos:Pos}
noncomputable def ZE:Ev:=λ _ A=>.ok (.ref A.length) (A++[.dct []])
end
section
variable {X:Cx}{pins:List (Addr × Obj)}{σ:St}{H:Hp}{s:Shared}
end
section
variable {X:Cx}{xr:XR}{e a b:Expr}{m ma mb:Ev}{pos:Pos}
end
mutual
noncomputable def W.beq:W->W->Bool
 | .non,.non=>true
 | .bl a,.bl b=>a==b
 | .int a,.int b=>decide (a=b)
 | .str a,.str b=>decide (a=b)
 | .tup a,.tup b=>JL a b
 | _,_=>false
noncomputable def JL:List W->List W->Bool
 | [],[]=>true
 | a::as,b::bs=>a.beq b&&JL as bs
 | _,_=>false
end
mutual
theorem W.eq_of:∀{a b:W},a.beq b=true->a=b
 | .non,.non,_=>rfl
 | .bl a,.bl b,h=>by have h':(a==b)=true:=h;rw [beq_iff_eq] at h';rw [h']
 | .int a,.int b,h=>by have h':decide (a=b)=true:=h;rw [decide_eq_true_iff] at h';rw [h']
 | .str a,.str b,h=>by have h':decide (a=b)=true:=h;rw [decide_eq_true_iff] at h';rw [h']
 | .tup a,.tup b,h=>by have h':JL a b=true:=h;rw [Ry h']
 | .non,.bl _,h=>nomatch h | .non,.int _,h=>nomatch h | .non,.str _,h=>nomatch h | .non,.tup _,h=>nomatch h | .non,.ref _,h=>nomatch h
 | .bl _,.non,h=>nomatch h | .bl _,.int _,h=>nomatch h | .bl _,.str _,h=>nomatch h | .bl _,.tup _,h=>nomatch h | .bl _,.ref _,h=>nomatch h
 | .int _,.non,h=>nomatch h | .int _,.bl _,h=>nomatch h | .int _,.str _,h=>nomatch h | .int _,.tup _,h=>nomatch h | .int _,.ref _,h=>nomatch h
 | .str _,.non,h=>nomatch h | .str _,.bl _,h=>nomatch h | .str _,.int _,h=>nomatch h | .str _,.tup _,h=>nomatch h | .str _,.ref _,h=>nomatch h
 | .tup _,.non,h=>nomatch h | .tup _,.bl _,h=>nomatch h | .tup _,.int _,h=>nomatch h | .tup _,.str _,h=>nomatch h | .tup _,.ref _,h=>nomatch h
 | .ref _,.non,h=>nomatch h | .ref _,.bl _,h=>nomatch h | .ref _,.int _,h=>nomatch h | .ref _,.str _,h=>nomatch h | .ref _,.tup _,h=>nomatch h | .ref _,.ref _,h=>nomatch h
theorem Ry:∀{a b:List W},JL a b=true->a=b
 | [],[],_=>rfl
 | a::as,b::bs,h=>by
  have h':(a.beq b&&JL as bs)=true:=h
  rw [Bool.and_eq_true] at h'
  rw [W.eq_of h'.1,Ry h'.2]
 | [],_::_,h=>nomatch h
 | _::_,[],h=>nomatch h
end
section
variable {P:Program}{w:World}{K:Frag}{mg:Str->Option Value}{base:Heap}
noncomputable def FD (K:Frag)(x:Str)(st:Stmt):Prop:=∃f fd,qH K x x st f fd/\PySem.W.nsIn K mainGlobals x=some (some (.ref f))
theorem jo {x:Str}{st:Stmt}{f:Addr}{oc:Value}{od an:Option Addr}{osl:Array (Option Value)}{kV doc pm cdv ct:Value}(a:PySem.W.nsIn K mainGlobals x=some (some (.ref f)))
  (l:K.lookup f=some ⟨oc,od,.func (PySem.W.fnOf x x (Zn st) (yP st) (qh st) .none kV doc pm an cdv ct),osl⟩)(c:PySem.W.codeIn K cdv x=true)(k:PySem.W.keepIn K (.ref f)=true):FD K x st:=⟨f,_,Er l c k,a⟩
noncomputable def CD (K:Frag)(x:Str)(i:Int):Prop:=∃t,PySem.W.nsIn K mainGlobals x=some (some (.int i t))
theorem DT {x:Str}{i:Int}{t:Tok}(a:PySem.W.nsIn K mainGlobals x=some (some (.int i t))):CD K x i:=⟨t,a⟩
theorem yX {us:List Value}(h:us.length=1):∃a,us=[a]:=List.length_eq_one_iff.mp h
theorem yK {us:List Value}(h:us.length=2):∃a b,us=[a,b]:=by
 obtain ⟨a,t,rfl⟩:=List.exists_cons_of_length_eq_add_one h
 exact (yX (Nat.succ.inj h)).elim λ b e=>⟨a,b,by rw [e]⟩
theorem Cr {us:List Value}(h:us.length=3):∃a b c,us=[a,b,c]:=by
 obtain ⟨a,t,rfl⟩:=List.exists_cons_of_length_eq_add_one h
 obtain ⟨b,c,rfl⟩:=yK (Nat.succ.inj h)
 exact ⟨a,b,c,rfl⟩
end
end Mi
namespace Y
open PySem PySem.Spec PyProof.Rows L2 Mi
@[irreducible] noncomputable def YE (X:Cx)(xr:XR)(e:Expr)(m:Ev):Prop:=Mi.SE X xr e m
theorem Kw:@YE=@Mi.SE:=by
 funext X xr e m
 unfold YE
 rfl
@[irreducible] noncomputable def YA (X:Cx)(xr:XR)(es:List Expr)(m:Ea):Prop:=Mi.SA X xr es m
theorem Vn:@YA=@Mi.SA:=by
 funext X xr es m
 unfold YA
 rfl
@[irreducible] noncomputable def YT (X:Cx)(xr:XR)(e:Expr)(m:Ev):Prop:=Mi.ST X xr e m
theorem Vh:@YT=@Mi.ST:=by
 funext X xr e m
 unfold YT
 rfl
@[irreducible] noncomputable def YW (X:Cx)(xr:XR)(e:Expr)(m:Ev):Prop:=Mi.SW X xr e m
theorem Vi:@YW=@Mi.SW:=by
 funext X xr e m
 unfold YW
 rfl
@[irreducible] noncomputable def YS (X:Cx)(xr:XR)(st:Stmt)(m:Ex):Prop:=Mi.SS X xr st m
theorem VG:@YS=@Mi.SS:=by
 funext X xr st m
 unfold YS
 rfl
@[irreducible] noncomputable def yF (X:Cx)(xr:XR)(st:List Stmt)(m:Ex):Prop:=Mi.JV X xr st m
theorem X7:@yF=@Mi.JV:=by
 funext X xr st m
 unfold yF
 rfl
@[irreducible] noncomputable def YI (X:Cx)(xr:XR)(tg e:Expr)(m:Ei):Prop:=Mi.SI X xr tg e m
theorem Vt:@YI=@Mi.SI:=by
 funext X xr tg e m
 unfold YI
 rfl
@[irreducible] noncomputable def YG (X:Cx)(tg:Expr)(m:Tg):Prop:=Mi.SG X tg m
theorem X9:@YG=@Mi.SG:=by
 funext X tg m
 unfold YG
 rfl
@[irreducible] noncomputable def YF (X:Cx)(xr:XR)(e:Expr)(m:jD):Prop:=Mi.SF X xr e m
theorem Vc:@YF=@Mi.SF:=by
 funext X xr e m
 unfold YF
 rfl
@[irreducible] noncomputable def YQ (X:Cx)(xr:XR)(e:Expr)(m:jD):Prop:=Mi.SQ X xr e m
theorem Vw:@YQ=@Mi.SQ:=by
 funext X xr e m
 unfold YQ
 rfl
@[irreducible] noncomputable def gv (X:Cx)(es:List Expr)(m:Ev):Prop:=Mi.JW X es m
theorem X8:@gv=@Mi.JW:=by
 funext X es m
 unfold gv
 rfl
@[irreducible] noncomputable def YM (X:Cx)(elt:Expr)(gens:List Comprehension)(sc:Scope)(cpos:Pos)(d:Nat)(em:Em):Prop:=Mi.SM X elt gens sc cpos d em
theorem Vf:@YM=@Mi.SM:=by
 funext X elt gens sc cpos d em
 unfold YM
 rfl
section
variable {X:Cx}{xr:XR}{K:Frag}{e a b c:Expr}{es:List Expr}{m ma mb mc:Ev}{m1 m2:Ex}{pos:Pos}{st:Stmt}{rest:List Stmt}
theorem zP:@YE=@Mi.SE/\@YA=@Mi.SA/\@YT=@Mi.ST/\@YW=@Mi.SW/\@YS=@Mi.SS/\@yF=@Mi.JV/\@YI=@Mi.SI/\@YG=@Mi.SG/\@YF=@Mi.SF/\@YQ=@Mi.SQ/\@gv=@Mi.JW/\@YM=@Mi.SM:=⟨Kw,Vn,Vh,Vi,VG,X7,Vt,X9,Vc,Vw,X8,Vf⟩
theorem zl {mr:Ea}(ha:YE X xr e ma)(hr:YA X xr es mr)(hs:starEach (e::es) X.env=(false,eval e X.env)::starEach es X.env:=by rfl):YA X xr (e::es) (zc ma mr):=by
 (try simp only [zP] at *)
 exact PA.imp (jn ha hr hs) λ σ H Q ⟨φ,A,ρ,S,re,h⟩=>by
   refine tM.go S re (zX.mp h) λ w A1 φ1 H1 v h1 l1 S1 q1=>?_
   refine K3.go S1 (re.mono l1) (qv (zX.mp h1) (λ _ _ z=>z) λ _ _ z=>z.mono l1) λ w2 A2 φ2 H2 v2 h2 l2 S2 q2=>?_
   exact h2 φ2 H2 _ (l1.trans l2) S2 (.cons (q1.mono l2) q2)
theorem zu:YA X xr [] zj:=by
 (try simp only [zP] at *)
 exact PA.imp jY λ σ H Q ⟨φ,A,ρ,S,re,h⟩=>h φ H [] .refl S .nil
theorem jA (ha:YE X xr a ma)(hb:YE X xr b mb):YE X xr (.BinOp a .Add b pos) (zp z8 ma mb):=by
 (try simp only [zP] at *)
 exact Zu (Dc.or (Ff.or (Iz.or Ed))) F3 HA ha hb
theorem Jv {p:Pos}{q:jD}(hc:X.calm=true)(hm:X.mg "all" = none)(ha:YQ X xr e q)(hg:Gl X "all" := by rfl)(he:starEach [e] X.env=(false,eval e X.env)::starEach [] X.env:=by rfl):
  YE X xr (.Call (.Name "all" p) [e] [] pos) (mQ ZA q):=by
 (try simp only [zP] at *)
 exact Vm (Lk hc) EZ Fi hm (by rfl) ha hg (by decide) (by decide) he (by rfl)
theorem ZV {rest:List Expr}(ha:YE X xr a ma)(hb:YE X xr (.BoolOp .And (b::rest) pos) mb):YE X xr (.BoolOp .And (a::b::rest) pos) (yk ma mb):=by
 (try simp only [zP] at *)
 exact PE.imp (EC ha hb) λ σ H Q ⟨φ,A,ρ,S,re,h⟩=>by
   refine tM.go S re (zX.mp h) λ w A1 φ1 H1 v h1 l1 S1 q1=>?_
   cases w with
   | bl k=>
    refine ⟨k,q1,?_⟩
    cases k with
    | true=>rw [if_pos rfl];exact ⟨φ1,A1,ρ,S1,re.mono l1,qv h1 (λ _ _ z=>z.mono l1) λ _ _ z=>z.mono l1⟩
    | false=>rw [if_neg Bool.false_ne_true];exact h1 φ1 H1 _ l1 S1 rfl
   | non=>cases h1
   | int _=>cases h1
   | str _=>cases h1
   | tup _=>cases h1
   | ref _=>cases h1
   | clo _ _ _=>cases h1
   | xc _=>cases h1
theorem yb {i j}:YE X xr (.Constant (.bool i) j pos) (zi (.bl i)):=by
 (try simp only [zP] at *)
 exact PE.imp Cb λ σ H Q ⟨φ,A,ρ,S,r,h⟩=>h φ H _ .refl S rfl
theorem wD {op:CmpOp}{g:W->W->Hx->R W}(h:kE X op g)(ha:YE X xr a ma)(hb:YE X xr b mb)(h1:op≠.In:=by decide)(h2:op≠.NotIn:=by decide):YE X xr (.Compare a [op] [b] pos) (zp g ma mb):=by
 (try simp only [zP] at *)
 exact let ⟨r,a1,a2,a3⟩:=h.ex;Rp a1 a2 a3 ha hb (h.mks b h1 h2)
theorem DH {op op':CmpOp}{g g':W->W->Hx->R W}(h:kE X op g)(h':kE X op' g')(ha:YE X xr a ma)(hb:YE X xr b mb)(hc:YE X xr c mc)(hm:lastMarks [op,op'] [b,c]=false:=by with_unfolding_all rfl):
  YE X xr (.Compare a [op,op'] [b,c] pos) (yu g g' ma mb mc):=by
 (try simp only [zP] at *)
 exact let ⟨r,a1,a2,a3⟩:=h.ex;let ⟨r',b1,b2,b3⟩:=h'.ex;LD a1 a2 a3 b1 b2 b3 ha hb hc hm
theorem qf {k n:Nat}{x:Str}{p:Pos}{f:Fn}{mr:Ea}(F:zE X.prog X.w X.K X.mg X.base k x n f)(hr:jv k X.A)(ha:YA X yq (e::es) mr)(hl:gk mr n)(hg:Gl X x:=by rfl)
  (hdb:(x==("__debug__" : Str))=false:=by decide)(he:starEach (e::es) X.env=(false,eval e X.env)::starEach es X.env:=by rfl)(hpl:(backTo pos (starEach es X.env)).any (·.1)=false:=by rfl):
  YE X yq (.Call (.Name x p) (e::es) [] pos) (zD f mr):=by
 (try simp only [zP] at *)
 obtain ⟨fa,fd,ps,F,hm,hk,hb⟩:=F
 refine PE.imp (Sl F hr hg hm hk hb .nil DK ha hdb he hpl) λ σ H Q ⟨φ,A,ρ,S,re,h⟩=>?_
 have h':=zX.mp h
 refine ⟨φ,A,ρ,S,re,?_⟩
 cases er:mr ρ A with
 | ok ws A1=>
  rw [er] at h'
  intro φ1 H1 vs l1 S1 q1
  have hv:vs.length=n:=by rw [<- q1.length];exact hl ρ A ws A1 er
  rw [List.append_nil]
  exact ⟨hv,φ1,A1,ws,S1,q1,qv h' (λ _ _ z=>z.mono l1) λ x A2 z φ2 H2 l2 S2=>(z φ2 H2 (l1.trans l2) S2).elim⟩
 | exc x A1=>rw [er] at h';exact h'
 | bad=>rw [er] at h';exact h'
theorem DB {op:CmpOp}{g:W->W->Hx->R W}(h:Ua X op g)(ha:YE X xr a ma)(hb:YE X xr b mb)(hm:behindInMarks op b=false:=by rfl):YE X xr (.Compare a [op] [b] pos) (zp g ma mb):=by
 (try simp only [zP] at *)
 exact let ⟨r,a1,a2,a3⟩:=h.ex;Rp a1 a2 a3 ha hb hm
theorem Rc:YE X xr (.Dict [] [] pos) ZE:=by
 (try simp only [zP] at *)
 exact PE.imp LA λ σ H Q ⟨φ,A,ρ,S,re,h⟩ p hp=>by
  obtain ⟨l,S'⟩:=S.alloc (o:=.dct []) hp (u:=.dK []) ⟨[],jw,rfl,.nil⟩
  exact h _ _ _ l S' ⟨p,rfl,by rw [<- S.len];simp⟩
theorem IQ {x:Str}{i:Int}{t:Tok}(hg:Gl X x)(hm:X.mg x=some (.int i t))(hd:(x==("__debug__" : Str))=false:=by decide):YE X xr (.Name x pos) (zi (.int i)):=by
 (try simp only [zP] at *)
 exact PE.imp (Hk hg hm (v:=.int i) ⟨t,rfl⟩ hd) λ σ H Q ⟨φ,A,ρ,S,r,h⟩=>h φ H _ .refl S rfl
theorem DA {c:Expr}(hc:YT X xr c mc)(ha:YE X xr a ma)(hb:YE X xr b mb):YE X xr (.IfExp c a b pos) (Pg mc ma mb):=by
 (try simp only [zP] at *)
 exact PE.imp (Ik hc ha hb) λ σ H Q ⟨φ,A,ρ,S,re,h⟩=>by
   refine tT.go S re (zX.mp h) λ w A1 h1=>?_
   cases w with
   | bl k=>
    refine ⟨k,rfl,λ φ1 H1 l1 S1=>?_⟩
    cases k with
    | true=>rw [if_pos rfl];exact ⟨φ1,A1,ρ,S1,re.mono l1,qv h1 (λ _ _ z=>z.mono l1) λ _ _ z=>z.mono l1⟩
    | false=>rw [if_neg Bool.false_ne_true];exact ⟨φ1,A1,ρ,S1,re.mono l1,qv h1 (λ _ _ z=>z.mono l1) λ _ _ z=>z.mono l1⟩
   | non=>cases h1
   | int _=>cases h1
   | str _=>cases h1
   | tup _=>cases h1
   | ref _=>cases h1
   | clo _ _ _=>cases h1
   | xc _=>cases h1
theorem zq {i j}:YE X xr (.Constant (.int i) j pos) (zi (.int i)):=by
 (try simp only [zP] at *)
 exact PE.imp Ef λ σ H Q ⟨φ,A,ρ,S,r,h⟩=>h φ H _ .refl S rfl
theorem kD (t:Ty){x:Str}{p p':Pos}(hm:X.mg "isinstance" = none)(hm':X.mg x=none)(hx:bootBuiltins x=some (.type t.nm))(ha:YE X xr e m)(hg:Gl X "isinstance" := by rfl)(hg':Gl X x:=by rfl)
  (hn:x ≠ "__name__" := by decide)(hd:(x==("__debug__" : Str))=false:=by decide)
  (h1:starEach [e,.Name x p'] X.env=(false,eval e X.env)::starEach [.Name x p'] X.env:=by rfl)(h2:(backTo pos (starEach [.Name x p'] X.env)).any (·.1)=false:=by rfl):
  YE X xr (.Call (.Name "isinstance" p) [e,.Name x p'] [] pos) (jW t m):=by
 (try simp only [zP] at *)
 exact PE.imp (Zh IF hg hm (by rfl) (jn ha (jn (Y5 hg' hm' hx (v:=.ty t.nm) rfl hn hd) jY) h1) (by decide) (by decide) h1 h2) λ σ H Q ⟨φ,A,ρ,S,re,h⟩=>by
   refine tM.go S re (zX.mp h) λ w A1 φ1 H1 v h1 l1 S1 q1=>?_
   cases et:qW w A1 with
   | none=>rw [et] at h1;exact h1.elim
   | some t'=>
    rw [et] at h1
    exact ⟨v,t',t,rfl,T6 S1 q1 et,h1 φ1 H1 _ l1 S1 rfl⟩
theorem qG (ha:YE X xr a ma)(hb:YE X xr b mb)(hs:SD b:=by intro _ _;rfl):YE X xr (.Subscript a b pos) (zp zG ma mb):=by
 (try simp only [zP] at *)
 exact PE.imp (D7 FU ha hb hs) (zp.read DI FI)
theorem kf {p:Pos}{q:jD}(hm:X.mg "len" = none)(ha:YQ X xr e q)(hg:Gl X "len" := by rfl)(he:starEach [e] X.env=(false,eval e X.env)::starEach [] X.env:=by rfl):
  YE X xr (.Call (.Name "len" p) [e] [] pos) (mQ qK q):=by
 (try simp only [zP] at *)
 exact Vm OD (λ _ _=>jM) IY hm (by rfl) ha hg (by decide) (by decide) he (by rfl)
theorem jS {q:jD}(h:YF X xr e q):YE X xr e (qg q):=by
 (try simp only [zP] at *)
 exact PE.imp h qg.read
theorem N8 {p p' pos':Pos}(hc:X.calm=true)(hm:X.mg "list" = none)(hm':X.mg "range" = none)(ha:YE X xr a ma)(hg:Gl X "list" := by rfl)(hg':Gl X "range" := by rfl)(hs:starEach [a] X.env=[(false,eval a X.env)]:=by rfl)
  (hs':starEach [.Call (.Name "range" p') [a] [] pos'] X.env=(false,eval (.Call (.Name "range" p') [a] [] pos') X.env)::starEach [] X.env:=by rfl):
  YE X xr (.Call (.Name "list" p) [.Call (.Name "range" p') [a] [] pos'] [] pos) (Jo ma):=by
 (try simp only [zP] at *)
 exact PE.imp (Qw (Nj hc) hg hm (by rfl) (jn (H9 hg' hm' (jn ha jY (by rw [hs];rfl)) hs) jY hs') (by decide) (by decide) hs' (by rfl)) λ σ H Q ⟨φ,A,ρ,S,re,h⟩=>by
   refine tM.go S re (zX.mp h) λ w A1 φ1 H1 v h1 l1 S1 q1=>?_
   cases w with
   | int j=>
    obtain rfl:=q1
    dsimp only at h1
    by_cases hj:(jz j&&decide (j.toNat<=zW))=true
    ·rw [if_pos hj] at h1
     rw [Bool.and_eq_true,decide_eq_true_iff] at hj
     refine ⟨j,rfl,λ p hp=>⟨p,j,rfl,jw,Qv hj.1,gG hj.2,λ l hl=>?_⟩⟩
     have ln:Le X.K φ1 H1 φ1 (upd H1 p (.rng 0 j)):=Le.new hp
     have rr:zB X.K φ1 (upd H1 p (.rng 0 j)) ((List.range j.toNat).map λ (i:Nat)=>W.int i) (Qf j.toNat):=by
      have:=(zB.ints (K:=X.K) (φ:=φ1) (H:=upd H1 p (.rng 0 j)) (ns:=(List.range j.toNat).map λ (i:Nat)=>(i:Int)) (vs:=Qf j.toNat)).mpr (by unfold Qf;simp)
      rw [List.map_map] at this
      exact this
     obtain ⟨b1,b2,b3⟩:=ZW (S1.lay hp) hl rr
     exact h1 _ _ _ ((l1.trans ln).trans b1) b2 b3
    ·rw [if_neg hj] at h1;exact h1.elim
   | _=>exact h1.elim
theorem qQ {mr:Ea}{n:Nat}(h:YA X xr es mr)(hl:gk mr n)(hn:n<=zW:=by decide):YE X xr (.List es pos) (zR mr):=by
 (try simp only [zP] at *)
 exact EA h λ ρ A ws A' e=>by rw [hl ρ A ws A' e];exact gG hn
theorem ZU {p:Pos}{q:jD}(hc:X.calm=true)(hm:X.mg "max" = none)(ha:YQ X xr e q)(hg:Gl X "max" := by rfl)(he:starEach [e] X.env=(false,eval e X.env)::starEach [] X.env:=by rfl):
  YE X xr (.Call (.Name "max" p) [e] [] pos) (mQ jU q):=by
 (try simp only [zP] at *)
 exact Vm (Mv hc) FC Fh hm (by rfl) ha hg (by decide) (by decide) he (by rfl)
theorem Xz {p:Pos}(hc:X.calm=true)(hm:X.mg "min" = none)(ha:YE X xr a ma)(hb:YE X xr b mb)(hgl:Gl X "min" := by rfl)(h1:starEach [a,b] X.env=(false,eval a X.env)::starEach [b] X.env:=by rfl)(h2:starEach [b] X.env=(false,eval b X.env)::starEach [] X.env:=by rfl)(hpl:(backTo pos (starEach [b] X.env)).any (·.1)=false:=by rfl):
  YE X xr (.Call (.Name "min" p) [a,b] [] pos) (zp Zx ma mb):=by
 (try simp only [zP] at *)
 exact Vv (MN hc) Zz (λ φ A H x y u v Q S q1 q2 p=>by
   obtain ⟨i,j,e1,e2,q⟩:=Zt (K:=X.K) (f:=λ i j=>.int (if j<i then j else i)) (g:=λ i j=>.int (if j<i then j else i)) (λ _ _ _ _=>rfl) φ A H x y u v Q S q1 q2 p
   subst e1;subst e2
   exact ⟨i,j,rfl,q⟩) hm (by rfl) ha hb hgl (by decide) (by decide) h1 h2 hpl
theorem Zq (ha:YE X xr a ma)(hb:YE X xr b mb):YE X xr (.BinOp a .Mod b pos) (zp yT ma mb):=by
 (try simp only [zP] at *)
 exact Zu EK VN (XS FA λ _ _ _ _=>rfl) ha hb
theorem kY (ha:YE X xr a ma)(hb:YE X xr b mb):YE X xr (.BinOp a .Mult b pos) (zp jf ma mb):=by
 (try simp only [zP] at *)
 exact Zu (Eg.or EF) Dh HS ha hb
theorem Rf (ha:YE X xr a ma):YE X xr (.UnaryOp .USub a pos) (jV QW ma):=by
 (try simp only [zP] at *)
 exact D4 De (λ x A=>by unfold QW;split;exact jM;exact qJ) (λ φ A H x u Q S q p=>by
  cases u with
  | int i=>obtain rfl:=q;exact ⟨i,rfl,p φ H _ .refl S rfl⟩
  | _=>exact p.elim) ha
theorem QI {j}:YE X xr (.Constant .none j pos) (zi .non):=by
 (try simp only [zP] at *)
 exact PE.imp El λ σ H Q ⟨φ,A,ρ,S,r,h⟩=>h φ H _ .refl S rfl
theorem Rl (ha:YE X xr a ma):YE X xr (.UnaryOp .Not a pos) (jd ma):=by
 (try simp only [zP] at *)
 exact PE.imp (Di ha) λ σ H Q ⟨φ,A,ρ,S,re,h⟩=>by
   refine tM.go S re (zX.mp h) λ w A1 φ1 H1 v h1 l1 S1 q1=>?_
   cases w with
   | bl k=>exact ⟨k,q1,h1 φ1 H1 _ l1 S1 rfl⟩
   | non=>cases h1
   | int _=>cases h1
   | str _=>cases h1
   | tup _=>cases h1
   | ref _=>cases h1
   | clo _ _ _=>cases h1
   | xc _=>cases h1
theorem QJ {op}(h:YE X xr a ma):YE X xr (.BoolOp op [a] pos) ma:=by
 (try simp only [zP] at *)
 exact EX h
theorem wW (ha:YE X xr a ma)(hb:YE X xr b mb):YE X xr (.BinOp a .Sub b pos) (zp yf ma mb):=by
 (try simp only [zP] at *)
 exact Zu Dt Zz (Zt λ _ _ _ _=>rfl) ha hb
theorem zY {x1}{mr:Ea}{n:Nat}(h:YA X xr es mr)(hl:gk mr n)(hn:n<=zW:=by decide):YE X xr (.Tuple es x1 pos) (zz mr):=by
 (try simp only [zP] at *)
 exact PE.imp (Rt h) λ σ H Q ⟨φ,A,ρ,S,re,h⟩=>by
   have h':=zX.mp h
   cases e:mr ρ A with
   | ok ws A'=>
    rw [e] at h'
    refine ⟨φ,A,ρ,S,re,?_⟩
    rw [e]
    intro φ1 H1 vs l1 S1 q1
    refine ⟨by rw [<- q1.length,hl ρ A ws A' e];exact gG hn,λ p hp=>?_⟩
    obtain ⟨a1,a2,a3⟩:=Z0 S1 hp q1
    exact h' _ _ _ (l1.trans a1) a2 a3
   | exc x A'=>rw [e] at h';refine ⟨φ,A,ρ,S,re,?_⟩;rw [e];exact h'
   | bad=>rw [e] at h';exact h'.elim
theorem gH {p:Pos}{q:jD}(hm:X.mg "tuple" = none)(ha:YQ X xr e q)(hg:Gl X "tuple" := by rfl)(he:starEach [e] X.env=(false,eval e X.env)::starEach [] X.env:=by rfl):
  YE X xr (.Call (.Name "tuple" p) [e] [] pos) (mQ j0 q):=by
 (try simp only [zP] at *)
 exact DM Oq (λ _ _=>jM) Fe hm (by rfl) ha hg (by decide) (by decide) he (by rfl)
theorem zo (i:Nat){x:Str}(hN:X.N[i]? =some x:=by rfl)(hv:KU X.env.scope x:=by first | exact Or.inl rfl | exact Or.inr (Or.inl rfl) | exact Or.inr (Or.inr rfl))(hd:(x==("__debug__" : Str))=false:=by decide)
  (hcd:(x==("__classdict__" : Str))=false:=by decide):YE X xr (.Name x pos) (zh i):=by
 (try simp only [zP] at *)
 exact PE.imp (EY hN hv hd hcd) λ σ H Q ⟨φ,A,ρ,S,r,h⟩=>by
  unfold zh at h
  cases e:ρ[i]? with
  | none=>rw [e] at h;cases h
  | some o=>cases o with
   | none=>rw [e] at h;cases h
   | some w=>
    rw [e] at h
    obtain ⟨v,h1,h2⟩:=r.get i w e
    exact ⟨v,h1,h φ H v .refl S h2⟩
theorem qI {elt tg iter:Expr}{ifs:List Expr}{gs:List Comprehension}{sc:Scope}{mi:Ei}{tw:Tg}{mf:Ev}{em:Em}{N:List Str}(nl:Nat)(cap:List Nat)(hc:X.calm=true)(S:gJ X sc)(hcap:Qb X.N N sc nl cap=true)(hw:YI X xr tg iter mi)
  (hin:∀s H fp,YG (jO X N sc s H fp yB) tg tw/\gv (jO X N sc s H fp yB) ifs mf/\YM (jO X N sc s H fp yB) elt (⟨tg,iter,ifs,0⟩::gs) sc pos 0 em)
  (ha:∀g',gs[0]? =some g'->g'.is_async=0:=by intro _ h;cases h<;>rfl)
  (hs:∀x,foldedSetIterable iter X.env x=pure x:=by intro _;rfl):YF X xr (.ListComp elt (⟨tg,iter,ifs,0⟩::gs) sc pos) (zN nl cap mi tw mf em):=by
 (try simp only [zP] at *)
 exact PE.imp (Fp (g:=tG X.K tw) (ti:=tT X.K yq mf) (tm:=tE X.K em) hc S hcap ha hw hin hs) zN.read
theorem YY (i j:Nat){x y:Str}{p q:Pos}{k:Nat}(hc:X.calm=true)(hN:X.N.Nodup)(hi:X.N[i]? =some x:=by rfl)(hx:Loc X.env.scope x:=by first | exact Or.inl rfl | exact Or.inr rfl)(hf:X.fn x=true∨X.env.scope.names.lookup x=some .local:=by first | exact .inl rfl | exact .inr rfl)
  (hj:X.N[j]? =some y:=by rfl)(hy:Loc X.env.scope y:=by first | exact Or.inl rfl | exact Or.inr rfl)(hg:X.fn y=true∨X.env.scope.names.lookup y=some .local:=by first | exact .inl rfl | exact .inr rfl):YG X (.Tuple [.Name x p,.Name y q] k pos) (wa i j):=by
 (try simp only [zP] at *)
 exact PG.imp (Ew hc (Sb (Xq hN hi hx hf) (Sb (Xq hN hj hy hg) IL))) λ v σ H Q ⟨φ,A,ρ,w,ρ',S,re,qq,e,kk⟩=>by
   unfold wa at e
   split at e
   ·rename_i x1 y1
    have e':=Option.some.inj e
    subst e'
    obtain ⟨a,vs,rfl,hs,rs⟩:=qq
    obtain ⟨v1,r1,rfl,h1,v2,r2,rfl,h2,rfl⟩:=rs
    exact ⟨a,[v1,v2],rfl,hs,rfl,v1,[v2],rfl,v2,[],rfl,rfl,kk _ ((re.set h1).set h2)⟩
   ·cases e
theorem qx (i:Nat){x:Str}(hN:X.N.Nodup)(hi:X.N[i]? =some x:=by rfl)(hx:Loc X.env.scope x:=by first | exact Or.inl rfl | exact Or.inr rfl)(hf:X.fn x=true∨X.env.scope.names.lookup x=some .local:=by first | exact .inl rfl | exact .inr rfl):YG X (.Name x pos) (zI i):=by
 (try simp only [zP] at *)
 exact PG.imp (Xq hN hi hx hf) λ v σ H Q ⟨φ,A,ρ,w,ρ',S,re,q,e,k⟩=>by
   have e':ρ.set i (some w)=ρ':=Option.some.inj e
   subst e'
   exact k _ (re.set q)
theorem jN {tg:Expr}(h:YE X xr e m):YI X xr tg e (qj m):=by
 (try simp only [zP] at *)
 exact PI.imp (F8 h) λ σ H Rr ⟨φ,A,ρ,S,re,h⟩=>by
  refine tM.go S re (zX.mp h) λ w A1 φ1 H1 v h1 l1 S1 q1=>?_
  unfold KC at h1
  cases e:zU w A1 with
  | none=>rw [e] at h1;exact h1.elim
  | some ws=>
   rw [e] at h1
   dsimp only at h1
   cases w with
   | tup us=>
    obtain ⟨a,ys,rfl,e2,e3⟩:=q1
    refine ⟨a,rfl,.inr ⟨⟨ys,e2⟩,h1 φ1 H1 _ l1 S1 λ i φ' H' A' lw S'=>⟨λ w' ew=>?_,λ ew=>?_⟩⟩⟩
    ·have ew':us[i]? =some w':=Option.some.inj ew
     obtain ⟨y,h3,h4⟩:=(e3.monoW lw).get ew'
     refine ⟨⟨ys,y,lw.tp _ _ e2,h3⟩,λ x H3 yl=>?_⟩
     obtain ⟨e5,e6⟩:=yl
     subst e5
     have e7:=e6 ys (lw.tp _ _ e2)
     rw [h3] at e7;cases e7
     exact ⟨.refl,S',h4⟩
    ·have ew':us[i]? =none:=Option.some.inj ew
     refine ⟨ys,lw.tp _ _ e2,?_⟩
     rw [<- e3.length]
     exact List.getElem?_eq_none_iff.mp ew'
   | ref n=>
    obtain ⟨a,rfl,e2⟩:=q1
    have read:∀{φ' H' A' us},g9 X.K φ1 H1 φ' H'->zF X.K φ' A' H'->zU (.ref n) A'=some us->∃ys,qS X.K H' a ys/\zB X.K φ' H' us ys:=λ {φ' H' A' us} lw S' es=>by
     obtain ⟨a',ys,ea,z,r⟩:=Yq (w:=.ref n) (v:=.ref a) S' ⟨a,rfl,lw.ex _ _ e2⟩ es
     cases ea
     unfold zU at es
     dsimp only at es
     cases ec:A'[n]? with
     | none=>rw [ec] at es;cases es
     | some o=>
      rw [ec] at es
      obtain ⟨a',e3,r⟩:=S'.ob n o ec
      rw [lw.ex _ _ e2] at e3;cases e3
      cases o with
      | lst xs=>cases es;obtain ⟨ys,h1,h2⟩:=r;exact ⟨ys,qS.of h1,h2⟩
      | ro xs=>cases es;obtain ⟨ys,h1,h2⟩:=r;exact ⟨ys,h1.sq,h2⟩
      | dct xs=>cases es
      | tab _ _=>cases es
    obtain ⟨ys0,hq0,_⟩:=read ⟨λ _ _ h=>h,λ _ _ h=>h,λ _ _ _ h=>h⟩ S1 e
    refine ⟨a,rfl,.inl ⟨⟨ys0,hq0⟩,h1 φ1 H1 _ l1 S1 λ i φ' H' A' lw S'=>⟨λ w' ew=>?_,λ ew=>?_⟩⟩⟩
    ·dsimp only at ew
     cases es:zU (.ref n) A' with
     | none=>rw [es] at ew;cases ew
     | some us=>
      rw [es] at ew
      have ew':us[i]? =some w':=Option.some.inj ew
      obtain ⟨ys,hq,r⟩:=read lw S' es
      obtain ⟨y,h3,h4⟩:=r.get ew'
      refine ⟨⟨ys,y,hq,h3⟩,λ x H3 yl=>?_⟩
      obtain ⟨e5,e6⟩:=yl
      subst e5
      have e7:=e6 ys hq
      rw [h3] at e7;cases e7
      exact ⟨.refl,S',h4⟩
    ·dsimp only at ew
     cases es:zU (.ref n) A' with
     | none=>rw [es] at ew;cases ew
     | some us=>
      rw [es] at ew
      have ew':us[i]? =none:=Option.some.inj ew
      obtain ⟨ys,hq,r⟩:=read lw S' es
      refine ⟨ys,hq,?_⟩
      rw [<- r.length]
      exact List.getElem?_eq_none_iff.mp ew'
   | non=>cases e
   | bl _=>cases e
   | clo _ _ _=>cases e
   | xc _=>cases e
   | int _=>cases e
   | str _=>cases e
theorem SK {elts:List Expr}{kk:Nat}{tpos p:Pos}(hg:Gl X "enumerate")(hm:X.mg "enumerate" = none)(ha:YE X xr a ma)(hs:starEach [a] X.env=[(false,eval a X.env)]:=by rfl):YI X xr (.Tuple elts kk tpos) (.Call (.Name "enumerate" p) [a] [] pos) (QN ma):=by
 (try simp only [zP] at *)
 exact PI.imp (HD hg hm (jn ha jY (by rw [hs];rfl)) hs) λ σ H Rr ⟨φ,A,ρ,S,re,h⟩=>by
   refine tM.go S re (zX.mp h) λ w A1 φ1 H1 v h1 l1 S1 q1=>?_
   cases es:zU w A1 with
   | none=>rw [es] at h1;exact h1.elim
   | some ws=>
    rw [es] at h1
    obtain ⟨p,ys,rfl,z1,z2⟩:=YD S1 q1 es
    exact ⟨p,Zy w,ys,rfl,z1,h1 φ1 H1 _ l1 S1 (DV q1)⟩
theorem jX {tg:Expr}{p:Pos}(hg:Gl X "range")(hm:X.mg "range" = none)(ha:YE X xr a ma)(hs:starEach [a] X.env=[(false,eval a X.env)]:=by rfl):YI X xr tg (.Call (.Name "range" p) [a] [] pos) (ji ma):=by
 (try simp only [zP] at *)
 exact PI.imp (Mx hg hm (jn ha jY (by rw [hs];rfl)) hs) λ σ H Rr ⟨φ,A,ρ,S,re,h⟩=>by
   refine tM.go S re (zX.mp h) λ w A1 φ1 H1 v h1 l1 S1 q1=>?_
   cases w with
   | int j=>
    obtain rfl:=q1
    dsimp only at h1
    by_cases hj:jz j=true
    ·rw [if_pos hj] at h1
     obtain ⟨b1,b2⟩:=Qv hj
     exact ⟨j,rfl,b1,b2,h1 φ1 H1 _ l1 S1 E3⟩
    ·rw [if_neg hj] at h1;exact h1.elim
   | non=>exact h1.elim
   | bl _=>exact h1.elim
   | str _=>exact h1.elim
   | tup _=>exact h1.elim
   | ref _=>exact h1.elim
   | clo _ _ _=>exact h1.elim
   | xc _=>exact h1.elim
theorem E1 {elts:List Expr}{kk:Nat}{tpos p:Pos}(hg:Gl X "zip")(hm:X.mg "zip" = none)(ha:YE X xr a ma)(hb:YE X xr b mb)(hs:starEach [a,b] X.env=(false,eval a X.env)::starEach [b] X.env:=by rfl)(hs2:starEach [b] X.env=(false,eval b X.env)::starEach [] X.env:=by rfl)(hp:(backTo pos (starEach [b] X.env)).any (·.1)=false:=by rfl):
  YI X xr (.Tuple elts kk tpos) (.Call (.Name "zip" p) [a,b] [] pos) (KO ma mb):=by
 (try simp only [zP] at *)
 exact PI.imp (FV hg hm (jn ha (jn hb jY hs2) hs) hs hp) λ σ H Rr ⟨φ,A,ρ,S,re,h⟩=>by
   refine tM.go S re (zX.mp h) λ w A1 φ1 H1 v h1 l1 S1 q1=>?_
   refine tM.go S1 (re.mono l1) (qv (zX.mp h1) (λ _ _ z=>z) λ _ _ z=>z.mono l1) λ w2 A2 φ2 H2 v2 h2 l2 S2 q2=>?_
   cases es:zU w A2 with
   | none=>rw [es] at h2;exact h2.elim
   | some us=>
    cases es':zU w2 A2 with
    | none=>rw [es,es'] at h2;exact h2.elim
    | some vs=>
     rw [es,es'] at h2
     have q1':=q1.mono l2
     obtain ⟨p,xs,rfl,z1,z2⟩:=YD S2 q1' es
     obtain ⟨p',ys,rfl,z3,z4⟩:=YD S2 q2 es'
     exact ⟨p,p',Zy w,Zy w2,xs,ys,rfl,z1,z3,h2 φ2 H2 _ (l1.trans l2) S2 (Ck q1' q2)⟩
theorem qF {elt:Expr}{gens:List Comprehension}{sc:Scope}{d:Nat}{me:Ev}(hx:∀e s,X.xe e s->False)(he:YE X yq elt me)(hg:gens[d+1]? =none):YM X elt gens sc pos d (zK me):=by
 (try simp only [zP] at *)
 exact kz.imp (LB hx he hg) λ D σ H Q ⟨φ,A,ρ,acc,ys,S,re,hD,nD,ra,h⟩=>by
   refine tM.go S re (Xb (zX.mp h)) λ w A1 φ1 H1 v h1 l1 S1 q1=>?_
   obtain ⟨d1,n1⟩:=l1.off hD nD
   by_cases hz:acc.length<zW
   ·rw [if_pos hz] at h1
    have hl:=ra.length
    refine ⟨ys,d1,?_,?_⟩
    ·rw [<- hl]
     have:sizeLine=16777216:=sizeLine_eq
     unfold zW at hz
     omega
    ·exact h1 φ1 _ σ _ (l1.toD.trans (yg.upd d1)) n1 (S1.off d1 n1) ⟨re.len,λ i w e=>let ⟨v,a,b⟩:=re.get i w e;⟨v,a,(b.mono l1).monoD (yg.upd d1)⟩⟩ jw
      (((ra.mono l1).monoD (yg.upd d1)).append (.one (q1.monoD (yg.upd d1))))
   ·rw [if_neg hz] at h1;exact h1.elim
theorem FJ {elt tg iter:Expr}{ifs:List Expr}{gens:List Comprehension}{sc:Scope}{d:Nat}{mi:Ei}{tw:Tg}{mf:Ev}{em:Em}(hx:∀e s,X.xe e s->False)(hc:X.calm=true)(hg:gens[d+1]? =some ⟨tg,iter,ifs,0⟩)(ha:∀g',gens[d+2]? =some g'->g'.is_async=0)
  (hw:YI X yq tg iter mi)(hgt:YG X tg tw)(hi:gv X ifs mf)(hm:YM X elt gens sc pos (d+1) em)(hs:∀x,foldedSetIterable iter X.env x=pure x:=by intro _;rfl):YM X elt gens sc pos d (QO mi tw mf em):=by
 (try simp only [zP] at *)
 exact kz.imp (L9 hx hc hg ha hw hgt hi hm hs) λ D σ H Q ⟨φ,A,ρ,acc,ys,S,re,hD,nD,ra,h⟩=>by
   refine ⟨φ,A,ρ,S,re,qv (Xb (zX.mp h)) (λ j A1 h1 φ1 H1 J l1 S1 jr=>?_) λ _ _ z=>z⟩
   obtain ⟨d1,n1⟩:=l1.off hD nD
   exact jk.read jr S1 (re.mono l1) d1 n1 (ra.mono l1) (qv h1 (λ p A2 h2 φ2 H2 σ2 zs l2 n2 S2 re2 d2 r2=>h2 φ2 H2 σ2 zs (l1.toD.trans l2) n2 S2 re2 d2 r2) λ _ _ z=>z)
theorem jZ (h:YE X xr e m):YQ X xr e (qa m):=by
 (try simp only [zP] at *)
 exact PE.imp h λ σ H Q ⟨φ,A,ρ,S,re,h⟩=>by
  refine tM.go S re (zX.mp h) λ w A1 φ1 H1 v h1 l1 S1 q1=>?_
  cases e:zU w A1 with
  | none=>rw [e] at h1;exact h1.elim
  | some ws=>
   rw [e] at h1
   obtain ⟨a,ys,rfl,e2,e3⟩:=Yq S1 q1 e
   exact h1 φ1 H1 a ys l1 S1 e2 e3
theorem yC {q:jD}(h:YF X xr e q):YQ X xr e q:=by
 (try simp only [zP] at *)
 exact PE.imp h λ σ H Q ⟨φ,A,ρ,S,re,h⟩=>
  ⟨φ,A,ρ,S,re,qv h (λ ws A1 h1 φ1 H1 D ys l1 S1 h0 hD nD r=>h1 φ1 H1 D ys l1 S1 (.inl (qS.of hD)) r) λ _ _ z=>z⟩
theorem zx (h1:YS X xr st m1)(h2:yF X xr rest m2):yF X xr (st::rest) (zr m1 m2):=by
 (try simp only [zP] at *)
 exact j7.imp (LN h1 h2) λ D σ H ⟨φ,A,ρ,S,re,h⟩=>by
   refine ⟨φ,A,ρ,S,re,qv (zX.mp h) (λ fl A1 h1=>?_) λ _ _ z=>z⟩
   cases fl with
   | nx ρ1=>exact λ φ' H' σ' l S' r'=>⟨φ',A1,ρ1,S',r',qv h1 (λ _ _ z=>z.mono l) λ _ _ z=>z.mono l⟩
   | rt w=>exact h1
   | bk ρ1=>exact h1
   | ct ρ1=>exact h1
theorem QF (he:YE X xr e m)(hs:swapsWith e none pos.line X.env=pure false:=by rfl):YS X xr (.Expr e pos) (wt m):=by
 (try simp only [zP] at *)
 exact PS.imp (Hr he hs) λ D σ H ⟨φ,A,ρ,S,re,h⟩=>tM.go S re (zX.mp h) λ w A1 φ1 H1 v h1 l1 S1 q1=>h1 φ1 H1 σ l1 S1 (re.mono l1)
theorem ZZ {tg iter:Expr}{body:List Stmt}{mi:Ei}{tw:Tg}(hp:PassesOwn (model X.prog X.w) X.A X.env X.xe)(hc:X.calm=true)(hi:YI X xr tg iter mi)(hg:YG X tg tw)(hb:yF X xr body m1)
  (hs:∀x,foldedSetIterable iter X.env x=pure x:=by intro _;rfl):YS X xr (.For tg iter body [] pos) (kJ mi tw m1):=by
 (try simp only [zP] at *)
 exact PS.imp (FT hp hc hi hg hb hs) λ D σ H ⟨φ,A,ρ,S,re,h⟩=>by
   refine ⟨φ,A,ρ,S,re,qv (zX.mp h) (λ j A1 h1 φ1 H1 J l1 S1 jr=>?_) λ _ _ z=>z⟩
   refine ⟨λ i f σ' H'=>Pf X.K xr j (turn tw m1) D φ1 H1 f i σ' H',
    ⟨j.len,φ1,A1,ρ,.refl,S1,re.mono l1,qv h1 (λ _ _ z=>z.mono l1) λ _ _ z=>z.mono l1⟩,?_⟩
   rintro i f σ2 H2 ⟨φ2,A2,ρ2,l2,S2,re2,h2⟩
   obtain ⟨j1,j2⟩:=jr i φ2 H2 A2 ⟨l2.ex,l2.tp,l2.fz⟩ S2
   cases ej:j.at_ A2 i with
   | none=>cases f<;>(unfold jL at h2;rw [ej] at h2;exact h2.elim)
   | some o=>
    cases o with
    | none=>
     left
     refine ⟨j2 ej,?_⟩
     cases f<;>(unfold jL at h2;rw [ej] at h2;exact h2 φ2 H2 σ2 .refl S2 re2)
    | some w=>
     right
     obtain ⟨go,yl⟩:=j1 w ej
     cases f with
     | zero=>unfold jL at h2;rw [ej] at h2;exact h2.elim
     | succ f=>
      unfold jL at h2
      rw [ej] at h2
      refine ⟨go,λ σ' H'=>Pf X.K xr j (turn tw m1) D φ1 H1 f (i+1) σ' H',λ σ' H' z=>⟨f,Nat.lt_succ_self _,z⟩,λ x H3 y=>?_⟩
      obtain ⟨l3,S3,q3⟩:=yl x H3 y
      have h3:=zX.mp h2
      unfold turn at h3
      cases et:tw w ρ2 with
      | none=>rw [et] at h3;exact h3.elim
      | some ρ3=>
       rw [et] at h3
       refine ⟨φ2,A2,ρ2,w,ρ3,S3,re2.mono l3,q3,et,λ σ3 re3=>?_⟩
       refine ⟨φ2,A2,ρ3,S3,re3,qv h3 (λ fl A4 h4=>?_) λ _ _ z=>z.mono l3⟩
       cases fl with
       | nx ρ4=>exact λ φ4 H4 σ4 l4 S4 re4=>⟨φ4,A4,ρ4,(l2.trans l3).trans l4,S4,re4,qv h4 (λ _ _ z=>z.mono (l3.trans l4)) λ _ _ z=>z.mono (l3.trans l4)⟩
       | ct ρ4=>exact λ φ4 H4 σ4 l4 S4 re4=>⟨φ4,A4,ρ4,(l2.trans l3).trans l4,S4,re4,qv h4 (λ _ _ z=>z.mono (l3.trans l4)) λ _ _ z=>z.mono (l3.trans l4)⟩
       | bk ρ4=>exact λ φ4 H4 σ4 l4 S4 re4=>h4 φ4 H4 σ4 (l3.trans l4) S4 re4
       | rt w4=>exact λ φ4 H4 v4 l4 S4 q4=>h4 φ4 H4 v4 (l3.trans l4) S4 q4
theorem jB {sa sb:List Stmt}(hc:YT X xr c mc)(ha:yF X xr sa m1)(hb:yF X xr sb m2):YS X xr (.If c sa sb pos) (qB mc m1 m2):=by
 (try simp only [zP] at *)
 exact PS.imp (DU hc ha hb) λ D σ H ⟨φ,A,ρ,S,re,h⟩=>by
   refine tT.go S re (zX.mp h) λ w A1 h1=>?_
   cases w with
   | bl k=>
    refine ⟨k,rfl,λ φ1 H1 l1 S1=>?_⟩
    cases k with
    | true=>rw [if_pos rfl];exact ⟨φ1,A1,ρ,S1,re.mono l1,qv h1 (λ _ _ z=>z.mono l1) λ _ _ z=>z.mono l1⟩
    | false=>rw [if_neg Bool.false_ne_true];exact ⟨φ1,A1,ρ,S1,re.mono l1,qv h1 (λ _ _ z=>z.mono l1) λ _ _ z=>z.mono l1⟩
   | non=>cases h1
   | int _=>cases h1
   | str _=>cases h1
   | tup _=>cases h1
   | ref _=>cases h1
   | clo _ _ _=>cases h1
   | xc _=>cases h1
theorem zH:yF X xr [] zA:=by
 (try simp only [zP] at *)
 exact j7.imp Fz λ D σ H ⟨φ,A,ρ,S,re,h⟩=>h φ H σ .refl S re
theorem qk (he:YE X xr e m):YS X xr (.Return (some e) pos) (zZ m):=by
 (try simp only [zP] at *)
 exact PS.imp (E9 he) λ D σ H ⟨φ,A,ρ,S,re,h⟩=>tM.go S re (zX.mp h) λ w A1 φ1 H1 v h1 l1 S1 q1=>h1 φ1 H1 v l1 S1 q1
theorem qw (i:Nat){x:Str}{pos':Pos}(hN:X.N.Nodup)(he:YE X xr e m)(hi:X.N[i]? =some x:=by rfl)(hx:Loc X.env.scope x:=by first | exact Or.inl rfl | exact Or.inr rfl)(hs:swapsWith e (some (.Name x pos')) pos.line X.env=pure false:=by rfl)
  (hf:X.fn x=true∨X.env.scope.names.lookup x=some .local:=by first | exact .inl rfl | exact .inr rfl):YS X xr (.Assign [.Name x pos'] e pos) (zT i m):=by
 (try simp only [zP] at *)
 exact PS.imp (FW hN hi hx he hs hf) zT.read
theorem NG (i:Nat){x:Str}{elt tg iter:Expr}{ifs:List Expr}{gs:List Comprehension}{sc:Scope}{mi:Ei}{tw:Tg}{mf:Ev}{em:Em}{N:List Str}{px spos:Pos}(nl:Nat)(cap:List Nat)(hN:X.N.Nodup)
  (hc:X.calm=true)(S:gJ X sc)(hcap:Qb X.N N sc nl cap=true)(hw:YI X xr tg iter mi)
  (hin:∀s H fp,YG (jO X N sc s H fp yB) tg tw/\gv (jO X N sc s H fp yB) ifs mf/\YM (jO X N sc s H fp yB) elt (⟨tg,iter,ifs,0⟩::gs) sc pos 0 em)
  (hi':X.N[i]? =some x:=by rfl)(hx:X.env.scope.names.lookup x=some .local:=by rfl)
  (hsw:swapsWith (.ListComp elt (⟨tg,iter,ifs,0⟩::gs) sc pos) (some (.Name x px)) spos.line X.env=pure true:=by rfl)
  (ha:∀g',gs[0]? =some g'->g'.is_async=0:=by intro _ h;cases h<;>rfl)
  (hs:∀x,foldedSetIterable iter X.env x=pure x:=by intro _;rfl):YS X xr (.Assign [.Name x px] (.ListComp elt (⟨tg,iter,ifs,0⟩::gs) sc pos) spos) (zT i (qg (zN nl cap mi tw mf em))):=by
 (try simp only [zP] at *)
 exact PS.imp (L2.NI (g:=tG X.K tw) (ti:=tT X.K yq mf) (tm:=tE X.K em) hN hi' hx hsw hc S hcap ha hw hin hs) λ D σ H h=>zN.read σ H _ (qg.read σ H _ (zT.read D σ H h))
theorem QD (h:YW X xr e m):YT X xr e m:=by
 (try simp only [zP] at *)
 exact PW.pt h
theorem jT {op:CmpOp}{g:W->W->Hx->R W}(h:kE X op g)(ha:YE X xr a ma)(hb:YE X xr b mb)(h1:op≠.In:=by decide)(h2:op≠.NotIn:=by decide):YT X xr (.Compare a [op] [b] pos) (zp g ma mb):=by
 (try simp only [zP] at *)
 exact let ⟨r,a1,a2,a3⟩:=h.ex;S8 a1 a2 a3 ha hb (h.mks b h1 h2)
theorem Cm {op op':CmpOp}{g g':W->W->Hx->R W}(h:kE X op g)(h':kE X op' g')(ha:YE X xr a ma)(hb:YE X xr b mb)(hc:YE X xr c mc)(hm:lastMarks [op,op'] [b,c]=false:=by with_unfolding_all rfl):
  YT X xr (.Compare a [op,op'] [b,c] pos) (yu g g' ma mb mc):=by
 (try simp only [zP] at *)
 exact let ⟨r,a1,a2,a3⟩:=h.ex;let ⟨r',b1,b2,b3⟩:=h'.ex;LF a1 a2 a3 b1 b2 b3 ha hb hc hm
theorem DO {op:CmpOp}{g:W->W->Hx->R W}(h:Ua X op g)(ha:YE X xr a ma)(hb:YE X xr b mb)(hm:behindInMarks op b=false:=by rfl):YT X xr (.Compare a [op] [b] pos) (zp g ma mb):=by
 (try simp only [zP] at *)
 exact let ⟨r,a1,a2,a3⟩:=h.ex;S8 a1 a2 a3 ha hb hm
theorem wy (ha:YT X xr a ma):YT X xr (.UnaryOp .Not a pos) (jd ma):=by
 (try simp only [zP] at *)
 exact PT.imp (ED ha) λ σ H Q ⟨φ,A,ρ,S,re,h⟩=>by
   refine tT.go S re (zX.mp h) λ w A1 h1=>?_
   cases w with
   | bl k=>obtain ⟨b,e,q⟩:=h1;cases e;exact ⟨k,rfl,λ φ1 H1 l1 S1=>q φ1 H1 l1 S1⟩
   | non=>cases h1
   | int _=>cases h1
   | str _=>cases h1
   | tup _=>cases h1
   | ref _=>cases h1
   | clo _ _ _=>cases h1
   | xc _=>cases h1
theorem kC (h:YE X xr e m)(he:∀whole,isTrue e X.env whole=(do let v <- whole;standAt e.pos;holding [v] (truthy v)):=by intro _;rfl):YT X xr e m:=by
 (try simp only [zP] at *)
 exact PT.imp (Et h he) λ σ H Q h=>h.toM
theorem qP:gv X [] (zi (.bl true)):=by
 (try simp only [zP] at *)
 exact λ pins s σ H Q I ⟨φ,A,ρ,S,re,h⟩=>Lp pins s σ H Q I (by
  obtain ⟨b,e,q⟩:=h
  cases e
  exact q φ H .refl S)
theorem Xr (h:YT X yq c mc):gv X [c] mc:=by
 (try simp only [zP] at *)
 exact M4 h
theorem Ri {rest:List Expr}(ha:YT X xr a ma)(hb:YW X xr (.BoolOp .And (b::rest) pos) mb):YW X xr (.BoolOp .And (a::b::rest) pos) (yk ma mb):=by
 (try simp only [zP] at *)
 exact PW.imp (pw_and ha hb) λ σ H Q ⟨φ,A,ρ,S,re,h⟩=>by
   refine tT.go S re (zX.mp h) λ w A1 h1=>?_
   cases w with
   | bl k=>
    refine ⟨k,rfl,λ φ1 H1 l1 S1=>?_⟩
    cases k with
    | true=>rw [if_pos rfl];exact tT.mono S1 l1 re h1
    | false=>rw [if_neg Bool.false_ne_true];obtain ⟨b,e,q⟩:=h1;cases e;exact q φ1 H1 l1 S1
   | non=>cases h1
   | int _=>cases h1
   | str _=>cases h1
   | tup _=>cases h1
   | ref _=>cases h1
   | clo _ _ _=>cases h1
   | xc _=>cases h1
theorem S6 (ha:YT X xr a ma):YW X xr (.BoolOp .And [a] pos) ma:=by
 (try simp only [zP] at *)
 exact pw_and1 ha
theorem Kl {rest:List Expr}(ha:YT X xr a ma)(hb:YW X xr (.BoolOp .Or (b::rest) pos) mb):YW X xr (.BoolOp .Or (a::b::rest) pos) (kA ma mb):=by
 (try simp only [zP] at *)
 exact PW.imp (pw_or ha hb) λ σ H Q ⟨φ,A,ρ,S,re,h⟩=>by
   refine tT.go S re (zX.mp h) λ w A1 h1=>?_
   cases w with
   | bl k=>
    refine ⟨k,rfl,λ φ1 H1 l1 S1=>?_⟩
    cases k with
    | false=>rw [if_neg Bool.false_ne_true];exact tT.mono S1 l1 re h1
    | true=>rw [if_pos rfl];obtain ⟨b,e,q⟩:=h1;cases e;exact q φ1 H1 l1 S1
   | non=>cases h1
   | int _=>cases h1
   | str _=>cases h1
   | tup _=>cases h1
   | ref _=>cases h1
   | clo _ _ _=>cases h1
   | xc _=>cases h1
theorem Ki (ha:YT X xr a ma):YW X xr (.BoolOp .Or [a] pos) ma:=by
 (try simp only [zP] at *)
 exact pw_or1 ha
theorem jH {P:Program}{w:World}{K:Frag}{mg:Str->Option Value}{base:Heap}{x:Str}{st:Stmt}{f:Addr}{fd:FuncData}{N ps:List Str}{k:Nat}{m:Ex}(F:qH K x x st f fd)(hm:mg x=some (.ref f))(S:qU N ps (qh st))
  (hb:∀(kV doc pm:Value) (an:Option Addr) (cdv ct:Value) (us:List Value),us.length=ps.length->bindArgs (PySem.W.fnOf x x (Zn st) (yP st) (qh st) .none kV doc pm an cdv ct) ⟨us,[]⟩=pure (ps.zip us))
  (hbody:∀(cdv:Value) (A:Around) (outer:List Env) (s:Shared) (H:Hp) (E:XK),jv k (A.deeper (envOfC x (qh st) s.heap.objs.size f cdv))->yF (kG we P w K mg base N x (qh st) f cdv A outer s H E).nox yq (yP st) m):
  zE P w K mg base (k+1) x ps.length (z9 N.length m):=by
 (try simp only [zP] at *)
 refine ⟨f,fd,ps,?_,hm,F.kp,F.binds hb⟩
 refine F.ok S (λ vs H Q E h=>h.len) λ cdv A outer s H vs Q E hr ⟨hl,φ,A1,ws,Sm,r,h⟩=>⟨_,hbody cdv A outer s H E hr,?_⟩
 refine ⟨φ,A1,ws.map some++List.replicate (N.length - ws.length) none,Sm,RE.start r,?_⟩
 have h':=zX.mp h
 show R.post _ (FB K φ H _) _
 cases er:m (ws.map some++List.replicate (N.length - ws.length) none) A1 with
 | ok fl A2=>
  rw [er] at h'
  cases fl with
  | rt w=>exact h'
  | nx ρ=>exact λ φ' H' σ' l S' _=>h' φ' H' .non l S' rfl
  | bk ρ=>exact h'.elim
  | ct ρ=>exact h'.elim
 | exc y A2=>
  rw [er] at h'
  exact h'.elim
 | bad=>rw [er] at h';exact h'.elim
theorem XW {p:Pos}(hm:X.mg "abs" = none)(ha:YE X xr e m)(hgl:Gl X "abs" := by rfl)(he:starEach [e] X.env=(false,eval e X.env)::starEach [] X.env:=by rfl):YE X xr (.Call (.Name "abs" p) [e] [] pos) (jV JG m):=by
 (try simp only [zP] at *)
 exact DS Ll (λ w A=>by unfold JG;split;exact jM;exact qJ) (λ φ A H x u Q S q p=>by
   cases u with
   | int i=>obtain rfl:=q;exact ⟨i,rfl,p φ H _ .refl S rfl⟩
   | _=>exact p.elim) hm (by rfl) ha hgl (by decide) (by decide) he (by rfl)
theorem GW {apos cpos:Pos}(ho:YE X xr a ma)(he:YE X xr b mb)(hs:starEach [b] X.env=(false,eval b X.env)::starEach [] X.env:=by rfl)
  (hbase:attributeBase a "append" X.env (eval a X.env)=eval a X.env:=by rfl)
  (hfew:((backTo cpos (starEach [b] X.env)).all (λ x=>!x.1)&&(backToKw cpos (keywordEach [] X.env)).all (λ x=>x.1.isSome)
   && decide ([b].length+([]:List Keyword).length+(if ([]:List Keyword).isEmpty then 0 else 1)<30))=true:=by rfl)(hline:(apos.endLine==cpos.line)=true:=by rfl):
  YE X xr (.Call (.Attribute a "append" apos) [b] [] cpos) (yV wu ma mb):=by
 (try simp only [zP] at *)
 exact VQ PySem.F.slot_list_append PySem.F.type_list_append Tf Mc (λ φ A H x y u v Q S q1 q2 p=>by
   unfold wu at p
   cases u with
   | ref n=>
    dsimp only at p
    cases e1:A[n]? with
    | none=>rw [e1] at p;exact p.elim
    | some o=>cases o with
     | lst ws=>
      rw [e1] at p
      dsimp only at p
      by_cases hz:ws.length<zW
      ·rw [if_pos hz] at p
       obtain ⟨l,vs,rfl,f1,g1,r1⟩:=S.lst q1 e1
       refine ⟨l,vs,y,rfl,rfl,g1,?_,?_⟩
       ·rw [<- r1.length]
        have:sizeLine=16777216:=sizeLine_eq
        unfold zW at hz
        omega
       ·have ln:Le X.K φ H φ (upd H l (.lst (vs++[y]))):=Le.upd f1 (λ xs z=>by rw [g1] at z;cases z) (λ _ _ z=>by rw [g1] at z;cases z)
        obtain ⟨w1,w2⟩:=S.write (o:=.lst ws) (o':=.lst (ws++[v])) e1 rfl rfl f1 ⟨_,jw,(r1.mono ln).append (.one (q2.mono ln))⟩
        exact p _ _ _ w1 w2 rfl
      ·rw [if_neg hz] at p;exact p.elim
     | _=>rw [e1] at p;exact p.elim
   | _=>exact p.elim) ho he hs hbase hfew hline
theorem Jh {p:Pos}(hm:X.mg "int" = none)(ha:YE X xr e m)(hgl:Gl X "int" := by rfl)(he:starEach [e] X.env=(false,eval e X.env)::starEach [] X.env:=by rfl):YE X xr (.Call (.Name "int" p) [e] [] pos) (jV Qg m):=by
 (try simp only [zP] at *)
 exact FZ MC (λ w A=>by unfold Qg;split;exact jM;exact jM;exact qJ) (λ φ A H x u Q S q p=>by
   cases u with
   | int i=>obtain rfl:=q;exact .inl ⟨i,rfl,p φ H _ .refl S rfl⟩
   | bl k=>obtain rfl:=q;exact .inr ⟨k,rfl,p φ H _ .refl S rfl⟩
   | _=>exact p.elim) hm (by rfl) ha hgl (by decide) (by decide) he (by rfl)
theorem HE {p:Pos}(hc:X.calm=true)(hm:X.mg "max" = none)(ha:YE X xr a ma)(hb:YE X xr b mb)(hgl:Gl X "max" := by rfl)(h1:starEach [a,b] X.env=(false,eval a X.env)::starEach [b] X.env:=by rfl)(h2:starEach [b] X.env=(false,eval b X.env)::starEach [] X.env:=by rfl)(hpl:(backTo pos (starEach [b] X.env)).any (·.1)=false:=by rfl):
  YE X xr (.Call (.Name "max" p) [a,b] [] pos) (zp VO ma mb):=by
 (try simp only [zP] at *)
 exact Vv (ML hc) Zz (λ φ A H x y u v Q S q1 q2 p=>by
   obtain ⟨i,j,e1,e2,q⟩:=Zt (K:=X.K) (f:=λ i j=>.int (if j > i then j else i)) (g:=λ i j=>.int (if j > i then j else i)) (λ _ _ _ _=>rfl) φ A H x y u v Q S q1 q2 p
   subst e1;subst e2
   exact ⟨i,j,rfl,q⟩) hm (by rfl) ha hb hgl (by decide) (by decide) h1 h2 hpl
theorem Ij {apos cpos:Pos}(ho:YE X xr a ma)(he:YE X xr b mb)(hs:starEach [b] X.env=(false,eval b X.env)::starEach [] X.env:=by rfl)
  (hbase:attributeBase a "pop" X.env (eval a X.env)=eval a X.env:=by rfl)
  (hfew:((backTo cpos (starEach [b] X.env)).all (λ x=>!x.1)&&(backToKw cpos (keywordEach [] X.env)).all (λ x=>x.1.isSome)
   && decide ([b].length+([]:List Keyword).length+(if ([]:List Keyword).isEmpty then 0 else 1)<30))=true:=by rfl)(hline:(apos.endLine==cpos.line)=true:=by rfl):
  YE X xr (.Call (.Attribute a "pop" apos) [b] [] cpos) (yV w5 ma mb):=by
 (try simp only [zP] at *)
 exact VQ PySem.F.slot_list_pop PySem.F.type_list_pop Io IC (λ φ A H x y u v Q S q1 q2 p=>by
   unfold w5 at p
   cases u with
   | ref n=>cases v with
    | int i=>
     obtain rfl:=q2
     dsimp only at p
     cases e1:A[n]? with
     | none=>rw [e1] at p;exact p.elim
     | some o=>cases o with
      | lst ws=>
       rw [e1] at p
       dsimp only at p
       by_cases hz:jz i=true
       ·rw [if_pos hz] at p
        obtain ⟨b1,b2⟩:=Qv hz
        cases e2:seqIndex? i ws.length with
        | none=>rw [e2] at p;exact p.elim
        | some k=>
         rw [e2] at p
         dsimp only at p
         cases e3:ws[k]? with
         | none=>rw [e3] at p;exact p.elim
         | some w=>
          rw [e3] at p
          obtain ⟨l,vs,rfl,f1,g1,r1⟩:=S.lst q1 e1
          obtain ⟨y,h1,h2⟩:=r1.get e3
          have ln:Le X.K φ H φ (upd H l (.lst (vs.eraseIdx k))):=Le.upd f1 (λ xs z=>by rw [g1] at z;cases z) (λ _ _ z=>by rw [g1] at z;cases z)
          obtain ⟨w1,w2⟩:=S.write (o:=.lst ws) (o':=.lst (ws.eraseIdx k)) e1 rfl rfl f1 ⟨_,jw,(r1.erase k).mono ln⟩
          exact ⟨l,vs,i,k,y,rfl,rfl,g1,by omega,by omega,by rw [<- r1.length];exact e2,h1,p _ _ _ w1 w2 (h2.mono w1)⟩
       ·rw [if_neg hz] at p;exact p.elim
      | _=>rw [e1] at p;exact p.elim
    | _=>exact p.elim
   | _=>cases v<;>exact p.elim) ho he hs hbase hfew hline
theorem X5 (ha:YE X xr a ma)(hb:YE X xr b mb):YE X xr (.BinOp a .Pow b pos) (zp QT ma mb):=by
 (try simp only [zP] at *)
 exact Zu FY VN (XS IM λ _ _ _ _=>rfl) ha hb
theorem Kh {x j}:YE X xr (.Constant (.str x) j pos) (zi (.str x)):=by
 (try simp only [zP] at *)
 exact PE.imp Ee λ σ H Q ⟨φ,A,ρ,S,r,h⟩=>h φ H _ .refl S rfl
theorem Rk (ha:YE X xr a ma)(hb:YE X xr b mb):YE X xr (.BinOp a .BitXor b pos) (zp VU ma mb):=by
 (try simp only [zP] at *)
 exact Zu FE Zz (Zt λ _ _ _ _=>rfl) ha hb
theorem Y3 {p:Pos}{q:jD}(hm:X.mg "list" = none)(ha:YQ X xr e q)(hg:Gl X "list" := by rfl)(he:starEach [e] X.env=(false,eval e X.env)::starEach [] X.env:=by rfl):
  YE X xr (.Call (.Name "list" p) [e] [] pos) (qg q):=by
 (try simp only [zP] at *)
 exact PE.imp (Qw ON hg hm (by rfl) (jn ha jY he) (by decide) (by decide) he (by rfl)) λ σ H Q ⟨φ,A,ρ,S,re,h⟩=>by
   refine ⟨φ,A,ρ,S,re,qv (zX.mp h) (λ ws A1 h1 φ1 H1 a ys l1 S1 z r=>?_) λ _ _ z=>z⟩
   refine ⟨a,ys,rfl,z,λ l hl=>?_⟩
   obtain ⟨a1,a2,a3⟩:=ZW S1 hl r
   exact h1 _ _ _ (l1.trans a1) a2 a3
theorem QH {o i:Expr}{mo mi:Ev}{tpos:Pos}(he:YE X xr e m)(ho:YE X xr o mo)(hi:YE X xr i mi)
  (hs:swapsWithSole [.Subscript o i tpos] e pos.line X.env=pure false:=by rfl)(hw:swappedStores [.Subscript o i tpos] e X.env=pure none:=by rfl)
  (h1:(assignEach [.Subscript o i tpos] X.env).map (·.2)=[assign (.Subscript o i tpos) X.env]:=by rfl)
  (ha:∀v,assign (.Subscript o i tpos) X.env v=(do
   let ov <- holding [v] (eval o X.env)
   let iv <- holding [v,ov] (eval i X.env)
   standAt tpos
   holding [v,ov,iv] (setItem ov iv v)
   release [v,ov,iv] []):=by intro _;rfl):YS X xr (.Assign [.Subscript o i tpos] e pos) (kh yL m mo mi):=by
 (try simp only [zP] at *)
 exact Lv set_list F2 IP he ho hi hs hw h1 ha
theorem LP (f:Nat){body:List Stmt}(hp:PassesOwn (model X.prog X.w) X.A X.env X.xe)(hc:YT X xr c mc)(hb:yF X xr body m1):YS X xr (.While c body [] pos) (X0 f mc m1):=by
 (try simp only [zP] at *)
 exact PS.imp (LH hp hc hb) λ D σ H ⟨φ,A,ρ,S,re,h⟩=>by
   refine ⟨λ f σ' H'=>∃φ2 A2 ρ2,Le X.K φ H φ2 H'/\zF X.K φ2 A2 H'/\RE X.K φ2 H' ρ2 σ'/\(gX mc m1 f ρ2 A2).post (FB X.K φ2 H' D) (EB X.K φ2 H' xr),⟨f,φ,A,ρ,.refl,S,re,h⟩,?_⟩
   rintro f σ2 H2 ⟨φ2,A2,ρ2,l2,S2,re2,h2⟩
   cases f with
   | zero=>exact h2.elim
   | succ f=>
    unfold gX at h2
    refine tT.go S2 re2 (zX.mp h2) λ w A3 h3=>?_
    cases w with
    | bl k=>
     refine ⟨k,rfl,λ φ3 H3 l3 S3=>?_⟩
     cases k with
     | true=>
      rw [if_pos rfl]
      refine ⟨λ σ' H'=>∃φ2 A2 ρ2,Le X.K φ H φ2 H'/\zF X.K φ2 A2 H'/\RE X.K φ2 H' ρ2 σ'/\(gX mc m1 f ρ2 A2).post (FB X.K φ2 H' D) (EB X.K φ2 H' xr),λ σ' H' z=>⟨f,Nat.lt_succ_self _,z⟩,?_⟩
      refine ⟨φ3,A3,ρ2,S3,re2.mono l3,qv (zX.mp h3) (λ fl A4 h4=>?_) λ _ _ z=>z.mono l3⟩
      cases fl with
      | nx ρ4=>exact λ φ4 H4 σ4 l4 S4 re4=>⟨φ4,A4,ρ4,(l2.trans l3).trans l4,S4,re4,qv h4 (λ _ _ z=>z.mono (l3.trans l4)) λ _ _ z=>z.mono (l3.trans l4)⟩
      | ct ρ4=>exact λ φ4 H4 σ4 l4 S4 re4=>⟨φ4,A4,ρ4,(l2.trans l3).trans l4,S4,re4,qv h4 (λ _ _ z=>z.mono (l3.trans l4)) λ _ _ z=>z.mono (l3.trans l4)⟩
      | bk ρ4=>exact λ φ4 H4 σ4 l4 S4 re4=>h4 φ4 H4 σ4 (l3.trans l4) S4 re4
      | rt w4=>exact λ φ4 H4 v4 l4 S4 q4=>h4 φ4 H4 v4 (l3.trans l4) S4 q4
     | false=>
      rw [if_neg Bool.false_ne_true]
      exact h3 φ3 H3 σ2 l3 S3 (re2.mono l3)
    | non=>cases h3
    | int _=>cases h3
    | str _=>cases h3
    | tup _=>cases h3
    | ref _=>cases h3
    | clo _ _ _=>cases h3
    | xc _=>cases h3
end
end Y
set_option maxHeartbeats 400000
namespace Mi
open PySem L2
section
variable {ρ ρ1 ρ2:En}{A A1 A2 A3:Hx}{w x y z:W}{m ma mb mc:Ev}{m1 m2:Ex}{i n:Nat}{f:Fn}{ws:List W}{fl:Fl}
theorem zw (h:ρ[i]? =some (some w)):zh i ρ A=.ok w A:=by unfold zh;rw [h]
theorem qN:zi w ρ A=.ok w A:=rfl
theorem zL {g:W->W->Hx->R W}(h1:ma ρ A=.ok x A1)(h2:mb ρ A1=.ok y A2):zp g ma mb ρ A=g x y A2:=by unfold zp;rw [h1,zJ,h2,zJ]
theorem yJ {k:Bool}(h:ma ρ A=.ok (.bl k) A1):jd ma ρ A=.ok (.bl (!k)) A1:=by unfold jd;rw [h,zJ]
theorem kX (h:ma ρ A=.ok (.bl true) A1):yk ma mb ρ A=mb ρ A1:=by unfold yk;rw [h,zJ]
theorem gM (h:ma ρ A=.ok (.bl false) A1):yk ma mb ρ A=.ok (.bl false) A1:=by unfold yk;rw [h,zJ]
theorem Vp (h:ma ρ A=.ok (.bl true) A1):kA ma mb ρ A=.ok (.bl true) A1:=by unfold kA;rw [h,zJ]
theorem Z7 (h:ma ρ A=.ok (.bl false) A1):kA ma mb ρ A=mb ρ A1:=by unfold kA;rw [h,zJ]
theorem qm {a:Ea}(h:a ρ A=.ok ws A1):zD f a ρ A=f ws A1:=by unfold zD;rw [h,zJ]
theorem qt:zj ρ A=.ok [] A:=rfl
theorem zV {r:Ea}(h1:ma ρ A=.ok x A1)(h2:r ρ A1=.ok ws A2):zc ma r ρ A=.ok (x::ws) A2:=by unfold zc;rw [h1,zJ,h2,zJ]
theorem Y6 {a:Ea}(h:a ρ A=.ok ws A1):zz a ρ A=.ok (.tup ws) A1:=by unfold zz;rw [h,zJ]
theorem jx {a:Ea}(h:a ρ A=.ok ws A1):zR a ρ A=.ok (.ref A1.length) (A1++[.lst ws]):=by unfold zR;rw [h,zJ]
theorem zM (h:m1 ρ A=.ok (.nx ρ1) A1):zr m1 m2 ρ A=m2 ρ1 A1:=by unfold zr;rw [h,zJ]
theorem qe (h:m1 ρ A=.ok (.rt w) A1):zr m1 m2 ρ A=.ok (.rt w) A1:=by unfold zr;rw [h,zJ]
theorem j8:zA ρ A=.ok (.nx ρ) A:=rfl
theorem qO (h:m ρ A=.ok w A1):zT i m ρ A=.ok (.nx (ρ.set i (some w))) A1:=by unfold zT;rw [h,zJ]
theorem Ju (h:m ρ A=.ok w A1):wt m ρ A=.ok (.nx ρ) A1:=by unfold wt;rw [h,zJ]
theorem qC (h:m ρ A=.ok w A1):zZ m ρ A=.ok (.rt w) A1:=by unfold zZ;rw [h,zJ]
theorem yW (h:mc ρ A=.ok (.bl true) A1):qB mc m1 m2 ρ A=m1 ρ A1:=by unfold qB;rw [h,zJ]
theorem j3 (h:mc ρ A=.ok (.bl false) A1):qB mc m1 m2 ρ A=m2 ρ A1:=by unfold qB;rw [h,zJ]
theorem Zm {mi:Ei}{tw:Tg}{j:jq}(h:mi ρ A=.ok j A1):kJ mi tw m1 ρ A=jL j (turn tw m1) j.len 0 ρ A1:=by unfold kJ;rw [h,zJ]
theorem gK {tw:Tg}(h:tw w ρ=some ρ1):turn tw m1 w ρ A=m1 ρ1 A:=by unfold turn;rw [h]
theorem U8 {j:jq}{st:W->Ex}(h:j.at_ A i=some none):jL j st n i ρ A=.ok (.nx ρ) A:=by
 cases n with
 | zero=>unfold jL;rw [h]
 | succ n=>unfold jL;rw [h]
theorem Sd {j:jq}{st:W->Ex}(h:j.at_ A i=some (some w))(hs:st w ρ A=.ok (.nx ρ1) A1):jL j st (n+1) i ρ A=jL j st n (i+1) ρ1 A1:=by
 rw [jL,h];dsimp only;rw [hs,zJ]
theorem Ib {j:jq}{st:W->Ex}(h:j.at_ A i=some (some w))(hs:st w ρ A=.ok (.rt x) A1):jL j st (n+1) i ρ A=.ok (.rt x) A1:=by
 rw [jL,h];dsimp only;rw [hs,zJ]
theorem Jl {k:Int}(h:m ρ A=.ok (.int k) A1)(hk:jz k=true):ji m ρ A=.ok (yU 0 k.toNat) A1:=by unfold ji;rw [h,zJ];dsimp only;rw [if_pos hk]
theorem ZY {lo:Int}{k:Nat}(h:i<k):(yU lo k).at_ A i=some (some (.int (lo+i))):=by unfold yU;dsimp only;rw [if_pos h]
theorem ZT {lo:Int}{k:Nat}(h:¬i<k):(yU lo k).at_ A i=some none:=by unfold yU;dsimp only;rw [if_neg h]
theorem qy (h:m1 (ws.map some++List.replicate (n - ws.length) none) A=.ok (.rt w) A1):z9 n m1 ws A=.ok w A1:=by unfold z9;rw [h];rfl
theorem w6 {w:W}(hn:jt ws=true)(hw:w.nr=true)(h:f ws []=.ok w A1):iso f ws A=.ok w A:=by
 unfold iso
 rw [if_pos hn,h]
 cases w with
 | ref k=>cases hw
 | _=>dsimp only;rw [if_pos hw]
end
end Mi
set_option maxHeartbeats 400000
namespace Mi
open PySem L2
theorem Li {j:jq}{ifs me:Ev}{c:En}{A:Hx}{N:Nat}{item g:Nat->W}{keep:Nat->Bool}(hat:∀i,i<N->j.at_ A i=some (some (item i)))(hend:j.at_ A N=some none)
  (hi:∀i,i<N->ifs (some (item i)::c) A=.ok (.bl (keep i)) A)(he:∀i,i<N->keep i=true->me (some (item i)::c) A=.ok (g i) A):
  ∀(n i:Nat) (x:Option W) (acc:List W),i+n=N->acc.length+n<=zW->∃y,jk j (zI 0) ifs (zK me) n i (x::c) acc A=.ok (y::c,acc++((List.range' i n).filter keep).map g) A:=by
 intro n
 induction n with
 | zero=>
  intro i x acc h _
  have:i=N:=by omega
  subst this
  refine ⟨x,?_⟩
  unfold jk
  rw [hend]
  simp
 | succ n ih=>
  intro i x acc h hl
  have hlt:i<N:=by omega
  rw [jk,hat i hlt]
  dsimp only [zI,List.set]
  rw [hi i hlt,zJ]
  rw [List.range'_succ]
  cases hk:keep i with
  | true=>
   dsimp only
   obtain ⟨y,e⟩:=ih (i+1) (some (item i)) (acc++[g i]) (by omega) (by rw [List.length_append,List.length_singleton];omega)
   refine ⟨y,?_⟩
   have ee:zK me (some (item i)::c) acc A=.ok (some (item i)::c,acc++[g i]) A:=by
    unfold zK
    rw [he i hlt hk,zJ,if_pos (by omega)]
   rw [ee,zJ]
   dsimp only
   rw [e,List.filter_cons_of_pos hk,List.map_cons,List.append_assoc]
   rfl
  | false=>
   dsimp only
   obtain ⟨y,e⟩:=ih (i+1) (some (item i)) acc (by omega) (by omega)
   exact ⟨y,by rw [e,List.filter_cons_of_neg (by rw [hk];exact Bool.false_ne_true)]⟩
theorem GL {cap:List Nat}{mi:Ei}{j:jq}{ifs me:Ev}{ρ:En}{A:Hx}{N:Nat}{item g:Nat->W}{keep:Nat->Bool}(hm:mi ρ A=.ok j A)(hj:j.len=N)(hN:N<=zW)
  (hat:∀i,i<N->j.at_ A i=some (some (item i)))(hend:j.at_ A N=some none)(hi:∀i,i<N->ifs (some (item i)::cap.map λ i=>(ρ[i]?).join) A=.ok (.bl (keep i)) A)
  (he:∀i,i<N->keep i=true->me (some (item i)::cap.map λ i=>(ρ[i]?).join) A=.ok (g i) A):
  zN 1 cap mi (zI 0) ifs (zK me) ρ A=.ok (((List.range N).filter keep).map g) A:=by
 obtain ⟨y,e⟩:=Li hat hend hi he N 0 none [] (Nat.zero_add N) (by simpa using hN)
 unfold zN
 rw [hm,zJ,hj]
 have hc:Z4 1 cap ρ=none::cap.map λ i=>(ρ[i]?).join:=rfl
 rw [hc,e,List.nil_append,<- List.range_eq_range']
 rfl
theorem Qt {cap:List Nat}{mi:Ei}{j:jq}{me:Ev}{ρ:En}{A:Hx}{N:Nat}{item g:Nat->W}(hm:mi ρ A=.ok j A)(hj:j.len=N)(hN:N<=zW)
  (hat:∀i,i<N->j.at_ A i=some (some (item i)))(hend:j.at_ A N=some none)(he:∀i,i<N->me (some (item i)::cap.map λ i=>(ρ[i]?).join) A=.ok (g i) A):
  zN 1 cap mi (zI 0) (zi (.bl true)) (zK me) ρ A=.ok ((List.range N).map g) A:=by
 have h:=GL (ifs:=zi (.bl true)) (keep:=λ _=>true) hm hj hN hat hend (λ _ _=>rfl) λ i hi _=>he i hi
 have f:(List.range N).filter (λ _=>true)=List.range N:=List.filter_eq_self.mpr λ _ _=>rfl
 rw [f] at h
 exact h
theorem yA {g:List W->Hx->R W}{q:jD}{ρ:En}{A A1:Hx}{ws:List W}(h:q ρ A=.ok ws A1):mQ g q ρ A=g ws A1:=by unfold mQ;rw [h,zJ]
theorem kU {q:jD}{ρ:En}{A A1:Hx}{ws:List W}(h:q ρ A=.ok ws A1):qg q ρ A=.ok (.ref A1.length) (A1++[.lst ws]):=by unfold qg;rw [h,zJ]
theorem ka {m:Ev}{ρ:En}{A A1:Hx}{w:W}{ws:List W}(h:m ρ A=.ok w A1)(hs:zU w A1=some ws):qa m ρ A=.ok ws A1:=by unfold qa;rw [h,zJ,hs]
open PySem PySem.Spec PyProof.Rows L2
inductive Ct (H:Hp)(h g:Heap)(e:Addr)(vs:Array Value):Prop
 | mk (T:Addr) (oT:Obj) (ts:Array Value) (h1:vs[1]? =some (.ref T)) (ne:T≠e) (ng:g.get? T=none) (nH:H T=none) (hT:h.get? T=some oT) (hd:oT.data=.fields ts) (h3:ts[3]? =some .none)
inductive kF (H:Hp)(h g:Heap)(e:Addr)(C:Value):Prop
 | mk (ng:g.get? e=none) (nH:H e=none) (oe:Obj) (vs:Array Value) (a0:Value) (he:h.get? e=some oe) (hc:oe.cls=C) (hd:oe.data=.fields vs) (h0:vs[0]? =some a0) (h1:vs[1]? =some .none∨Ct H h g e vs)
inductive Tr (h:Heap)(e:Addr):Prop
 | mk (oe:Obj) (vs:Array Value) (T:Addr) (he:h.get? e=some oe) (hd:oe.data=.fields vs) (h1:vs[1]? =some (.ref T))
section
variable {M:Model}{A:Around}{E:Value->Shared->Prop}{s:Shared}{env:Env}{outer:List Env}{L e:Addr}{C:Value}{H:Hp}{g:Heap}
theorem frames_at {base base':Heap}:∀{l:List Env},s.heap.FunFrames base l->(∀b∈ql l,base'.get? b=none)->s.heap.FunFrames base' l
 | [],_,_=>trivial
 | en::r,⟨hk,⟨L,o,hf,hn,ho,hd⟩,hr⟩,h=>⟨hk,⟨L,o,hf,h L (by unfold ql;rw [List.filterMap_cons,hf];exact List.mem_cons_self ..),ho,hd⟩,frames_at hr λ b hb=>h b (by
   unfold ql
   rw [List.filterMap_cons,hf]
   exact List.mem_cons_of_mem _ hb)⟩
theorem S9 {base:Heap}{Q:Unit->Shared->Prop}(hfr:A.frames=some (env::outer))(hf:env.frame=some L)(hl:s.heap.FunFrames base (env::outer))(x:kF H s.heap g e C)
  (tr:∀b u,H b=some u->∃o,s.heap.get? b=some o)(th:∀b o,g.get? b=some o->∃o',s.heap.get? b=some o')
  (hQ:∀h',(∀b o,s.heap.get? b=some o->b∉ql (env::outer)->((∃o',g.get? b=some o')∨∃u,H b=some u)->h'.get? b=some o)->(∀b o,s.heap.get? b=some o->b∈ql (env::outer)->∃sl,h'.get? b=some { o with slots:=sl })->
   kF H h' g e C->Tr h' e->Q () { s with heap:=h' }):wpAny M A (leaving env (.ref e)) Q E s:=by
 obtain ⟨hg,hH,oe,vs,a0,he,hc,hd,h0,h1⟩:=x
 have fin:∀(hid:List Addr),(∀b∈ql (env::outer),b∈hid)->(∀b∈hid,b∉ql (env::outer)->g.get? b=none/\H b=none)->∀h',Heap.LeftW (PySem.W.hideAll s.heap hid) (env::outer) e C a0 s.heap h'->Q () { s with heap:=h' }:=by
  intro hid hi1 hi2 h' ⟨st,ff,tr',us⟩
  refine hQ h' (λ b o hb nb hx=>?_) (λ b o hb mb=>?_) ?_ (by obtain ⟨oe',vs',T,oT,ts,he',_,hd',h1',_⟩:=tr';exact ⟨oe',vs',T,he',hd',h1'⟩)
  ·refine st b o (PySem.W.hideAll_get hid hb λ hm=>?_)
   obtain ⟨z1,z2⟩:=hi2 b hm nb
   rcases hx with ⟨o',q⟩ | ⟨u,q⟩
   ·rw [z1] at q;cases q
   ·rw [z2] at q;cases q
  ·obtain ⟨_,o',ho',hnf⟩:=hl.mem mb
   rw [hb] at ho';cases ho'
   exact us b o hb hnf
  ·obtain ⟨oe',vs',T,oT,ts,he',⟨hc',h0'⟩,hd',h1',hT0,hTe,hT,hdT,h3⟩:=tr'
   have nT:T∉ql (env::outer):=λ hm=>by
    obtain ⟨_,o',ho',hnf⟩:=hl.mem hm
    obtain ⟨sl,z⟩:=us T o' ho' hnf
    rw [hT] at z;cases z
    exact hnf ts hdT
   have both:g.get? T=none/\H T=none:=by
    cases q:s.heap.get? T with
    | some o=>
     by_cases hm:T∈hid
     ·exact hi2 T hm nT
     ·rw [PySem.W.hideAll_get hid q hm] at hT0;cases hT0
    | none=>
     constructor
     ·cases z:g.get? T with
      | none=>rfl
      | some o=>obtain ⟨o',z'⟩:=th T o z;rw [q] at z';cases z'
     ·cases z:H T with
      | none=>rfl
      | some u=>obtain ⟨o',z'⟩:=tr T u z;rw [q] at z';cases z'
   exact ⟨hg,hH,oe',vs',a0,he',hc',hd',h0',.inr ⟨T,oT,ts,h1',hTe,both.1,both.2,hT,hdT,h3⟩⟩
 have stay:∀hid:List Addr,(PySem.W.hideAll s.heap hid).StaysIn s.heap:=λ hid b o q=>PySem.W.of_hideAll hid q
 rcases h1 with h1 | ⟨T,oT,ts,h1,hTe,hgT,hHT,hT,hdT,h3⟩
 ·have hn:∀b∈e::ql (env::outer),(PySem.W.hideAll s.heap (e::ql (env::outer))).get? b=none:=λ b hb=>PySem.W.hideAll_none _ hb
  refine wpAny_leaving_firstW (base:=PySem.W.hideAll s.heap (e::ql (env::outer))) hfr (frames_at hl λ b hb=>hn b (List.mem_cons_of_mem _ hb)) hf he (stay _) (hn e (List.mem_cons_self ..)) hd h1 h0 ?_
  rw [hc]
  refine fin _ (λ b hb=>List.mem_cons_of_mem _ hb) λ b hb nb=>?_
  rcases List.mem_cons.mp hb with rfl | hb
  ·exact ⟨hg,hH⟩
  ·exact absurd hb nb
 ·have hn:∀b∈e::T::ql (env::outer),(PySem.W.hideAll s.heap (e::T::ql (env::outer))).get? b=none:=λ b hb=>PySem.W.hideAll_none _ hb
  refine wpAny_leaving_nextW (base:=PySem.W.hideAll s.heap (e::T::ql (env::outer))) hfr (frames_at hl λ b hb=>hn b (List.mem_cons_of_mem _ (List.mem_cons_of_mem _ hb))) hf
   ⟨oe,vs,T,oT,ts,he,⟨hc,h0⟩,hd,h1,hn T (List.mem_cons_of_mem _ (List.mem_cons_self ..)),hTe,hT,hdT,h3⟩ (stay _) (hn e (List.mem_cons_self ..)) ?_
  refine fin _ (λ b hb=>List.mem_cons_of_mem _ (List.mem_cons_of_mem _ hb)) λ b hb nb=>?_
  rcases List.mem_cons.mp hb with rfl | hb
  ·exact ⟨hg,hH⟩
  ·rcases List.mem_cons.mp hb with rfl | hb
   ·exact ⟨hgT,hHT⟩
   ·exact absurd hb nb
end
inductive MX (P:Program)(w:World)(outer:List Env)(H:Hp)(s:Shared)(E:XK)(e:Value)(s':Shared):Prop
 | mk (ea C:Addr) (H':Hp) (he:e=.ref ea) (os:s'.os=s.os) (b:AllBare s'.gens) (un:Un (ql outer) [] H H' s.heap s'.heap) (hk:jI P w H' s'.heap) (ly:kF H' s'.heap s.heap ea (.ref C)) (tr:Tr s'.heap ea) (q:E (.ref C) none H')
noncomputable def wj (P:Program)(w:World):wm:=λ outer H s E e s'=>MX P w outer H s E e s'
theorem _root_.L2.qY.obj {P:Program}{w:World}{H:Hp}{h:Heap}{a:Addr}{o:HO}(x:qY P w H h a o):∃ob,h.get? a=some ob:=by
 cases o with
 | lst xs=>obtain ⟨_,_,_,_,e⟩:=x;exact ⟨_,e⟩
 | tup xs=>obtain ⟨_,_,_,o,e,_⟩:=x;exact ⟨o,e⟩
 | dK kvs=>obtain ⟨_,_,_,_,o,_,_,e,_⟩:=x;exact ⟨o,e⟩
 | dT kvs=>obtain ⟨_,_,_,_,o,_,_,e,_⟩:=x;exact ⟨o,e⟩
 | set S n=>obtain ⟨o,_,_,_,e,_⟩:=x;exact ⟨o,e⟩
 | ins C dx fs=>obtain ⟨_,_,_,e,_⟩:=x;exact ⟨_,e⟩
 | own y=>exact x
 | xd fs=>obtain ⟨_,⟨o,_,_,e,_⟩,_⟩:=x;exact ⟨o,e⟩
 | rng lo hi=>obtain ⟨_,_,_,e⟩:=x;exact ⟨_,e⟩
 | frz ob u=>exact ⟨ob,x.1⟩
 | tbl ps=>exact ⟨_,(show h.get? a=some _ from x)⟩
 | met f y=>exact ⟨_,(show h.get? a=some _ from x)⟩
 | ext φ=>exact x.2.1
theorem Mk {P:Program}{w:World}{K:Frag}{mg:Str->Option Value}{base:Heap}{N:List Str}{qual:Str}{scope:Scope}{f:Addr}{cd:Value}{A:Around}{outer:List Env}{s:Shared}{H:Hp}{E:XK}
  {pins:List (Addr × Obj)}{σ:St}{H':Hp}{s':Shared}{ea C:Addr}(I:Inv (kG (wj P w) P w K mg base N qual scope f cd A outer s H E) pins σ H' s')(x:kF H' s'.heap s.heap ea (.ref C))(hE:E (.ref C) none H'):
  (kG (wj P w) P w K mg base N qual scope f cd A outer s H E).xe (.ref ea) s':=by
 have bs:Un (ql outer) [] H H' s.heap s'.heap:=I.base
 have stk:∀b∈ql (envOfC qual scope s.heap.objs.size f cd::outer),H' b=none:=I.stkFree
 have hL:s.heap.get? s.heap.objs.size=none:=Heap.get?_none_of_le (Nat.le_refl _)
 have hfe:(envOfC qual scope s.heap.objs.size f cd).frame=some s.heap.objs.size:=rfl
 have mem:∀b,b∈ql (envOfC qual scope s.heap.objs.size f cd::outer)↔b=s.heap.objs.size∨b∈ql outer:=λ b=>by
  unfold ql
  rw [List.filterMap_cons,hfe]
  exact List.mem_cons
 show wpAny (model P w) (A.deeper (envOfC qual scope s.heap.objs.size f cd)) (leaving (envOfC qual scope s.heap.objs.size f cd) (.ref ea)) _ _ s'
 refine S9 (base:=base) (L:=s.heap.objs.size) I.ok.frames rfl I.stack x (λ b u e=>(I.hok b u e).obj) (λ b o e=>bs.there b o e (by simp)) λ h' k1 k2 x' tr'=>?_
 have nfr:∀b u,H' b=some u->b∉ql (envOfC qual scope s.heap.objs.size f cd::outer):=λ b u e hm=>by rw [stk b hm] at e;cases e
 refine ⟨ea,C,H',rfl,I.os,I.bare,⟨λ b o e n nb _=>?_,λ b o e n mb _=>?_,λ b o e n hx=>bs.free b o e n hx,λ b o e hx=>?_,bs.tups,bs.frzs,bs.tbls⟩,λ b u e=>?_,x',tr',hE⟩
 ·have nL:b≠s.heap.objs.size:=λ z=>by rw [z,hL] at e;cases e
  exact k1 b o (bs.keep b o e n nb (by simp)) (λ hm=>(mem b).mp hm |>.elim nL nb) (.inl ⟨o,e⟩)
 ·obtain ⟨sl,q⟩:=bs.slot b o e n mb (by simp)
  obtain ⟨sl',q'⟩:=k2 b _ q ((mem b).mpr (.inr mb))
  exact ⟨sl',q'⟩
 ·obtain ⟨o',q⟩:=bs.there b o e hx
  by_cases hm:b∈ql (envOfC qual scope s.heap.objs.size f cd::outer)
  ·obtain ⟨sl,z⟩:=k2 b o' q hm;exact ⟨_,z⟩
  ·exact ⟨o',k1 b o' q hm (.inl ⟨o,e⟩)⟩
 ·refine (I.hok b u e).stay (λ c v hc q=>?_) (λ _ q=>q) λ _ _ q=>q
  rcases hc with z | z
  ·rw [z] at q ⊢;exact k1 b v q (nfr b u e) (.inr ⟨u,e⟩)
  ·exact k1 c v q (nfr c _ z) (.inr ⟨_,z⟩)
theorem TK {X:Cx}{pins:List (Addr × Obj)}{σ:St}{H:Hp}{s s':Shared}{E:XK}{e:Value}(I:Inv X pins σ H s)(h:wj X.prog X.w X.stack H s E e s')(g:Heap)(hg:∀b o,g.get? b=some o->∃o',s.heap.get? b=some o'):
  ∃ea C H',e=.ref ea/\Inv X pins σ H' s'/\kF H' s'.heap g ea (.ref C)/\Tr s'.heap ea/\E (.ref C) none H':=by
 obtain ⟨ea,C,H',rfl,os,bare,un,hok,x,tr,hE⟩:=h
 obtain ⟨hh,gg,d,t,os'⟩:=s'
 obtain rfl:os'=s.os:=os
 refine ⟨ea,C,H',rfl,I.call (h':=hh) (g':=gg) (d':=d) (t':=t) (ch:=[]) un hok bare (λ b z=>absurd z (by simp)),?_,tr,hE⟩
 have up:∀b,s.heap.get? b=none->g.get? b=none:=λ b n=>by
  cases z:g.get? b with
  | none=>rfl
  | some o=>obtain ⟨o',q⟩:=hg b o z;rw [n] at q;cases q
 obtain ⟨a1,a2,oe,vs,a0,b1,b2,b3,b4,b5⟩:=x
 refine ⟨up ea a1,a2,oe,vs,a0,b1,b2,b3,b4,?_⟩
 rcases b5 with b5 | ⟨T,oT,ts,c1,c2,c3,c4,c5,c6,c7⟩
 ·exact .inl b5
 ·exact .inr ⟨T,oT,ts,c1,c2,up T c3,c4,c5,c6,c7⟩
noncomputable def wK (K:Frag)(E:XK):XR:=λ x H=>∀Ca:Addr,yj K x (.ref Ca)->E (.ref Ca) none H
inductive K1 (K:Frag)(n:Nat)(f:Fn)(vs:List V)(H:Hp)(Q:VK)(E:XK):Prop
 | mk (len:vs.length=n) (φ:List Addr) (A:Hx) (ws:List W) (S:zF K φ A H) (r:zB K φ H ws vs) (q:(f ws A).post (PB K φ H Q) (EB K φ H (wK K E)))
theorem K1.len {K:Frag}{n:Nat}{f:Fn}{vs:List V}{H:Hp}{Q:VK}{E:XK}(h:K1 K n f vs H Q E):vs.length=n:=by cases h;assumption
inductive jE (P:Program)(w:World)(K:Frag)(mg:Str->Option Value)(base:Heap)(k:Nat)(x:Str)(n:Nat)(f:Fn):Prop
 | mk (fa:Addr) (fd:FuncData) (ps:List Str) (F:yc P w K mg base (wj P w) k fa fd ps (K1 K n f)) (at_:mg x=some (.ref fa)) (kp:PySem.W.keepIn K (.ref fa)=true) (bi:Binds K fd ps [])
structure wG (X:Cx)(g:Heap)(xr:XR):Prop where
 th:∀pins σ H s,Inv X pins σ H s->∀b o,g.get? b=some o->∃o',s.heap.get? b=some o'
 out:∀pins σ H s ea C x,Inv X pins σ H s->kF H s.heap g ea (.ref C)->yj X.K x (.ref C)->xr x H->X.xe (.ref ea) s
theorem CM {P:Program}{w:World}{K:Frag}{mg:Str->Option Value}{base:Heap}{N:List Str}{qual:Str}{scope:Scope}{f:Addr}{cd:Value}{A:Around}{outer:List Env}{s:Shared}{H:Hp}{E:XK}:
  wG (kG (wj P w) P w K mg base N qual scope f cd A outer s H E) s.heap (wK K E) where
 th:=λ pins σ H' s' I b o e=>(show Un (ql outer) [] H H' s.heap s'.heap from I.base).there b o e (by simp)
 out:=λ pins σ H' s' ea C x I ly c hx=>Mk I ly (hx C c)
section
variable {X:Cx}{g:Heap}{xr:XR}{e a b c:Expr}{es:List Expr}{m ma mb mc:Ev}{m1 m2:Ex}{pos:Pos}{st:Stmt}
noncomputable def Be (K:Frag)(xr:XR):XK:=λ Cv _ H=>∃x Ca,Cv=.ref Ca/\yj K x (.ref Ca)/\xr x H
theorem wG.passes (x:wG X g xr):Passes (wj X.prog X.w) X (Be X.K xr):=λ pins σ H s e s' I h=>by
 obtain ⟨ea,C,H',rfl,I',ly,_,nm,Ca,ec,c,hx⟩:=TK I h g (x.th pins σ H s I)
 cases ec
 exact x.out pins σ H' s' ea C nm I' ly c hx
end
noncomputable def yZ (n:Nat)(m:Ex):Fn:=λ ws A=>(m (ws.map some++List.replicate (n - ws.length) none) A).bind λ fl A1=>match fl with
 | .rt w=>.ok w A1
 | .nx _=>.ok .non A1
 | _=>.bad
section
variable {P:Program}{w:World}{K:Frag}{mg:Str->Option Value}{base:Heap}
end
inductive Vs (C:Addr)(bmB:List Value)(newId:String)(h:Heap):Prop
 | mk (tl N nm q bs hdct sn sub ab col dd k0 k1 k2 k3 k5 mN:_) (obj:h.get? C=some (excClassObj nm q C N bs tl hdct sn sub ab col dd k0 k1 k2 k3 k5 newId)) (ns:h.Ns N mN) (init:mN "__init__" = none) (tail:OwnTail h bmB tl)
noncomputable def C5 (d:Data):Option { c:ClassData // d=.cls c }:=match d with
 | .cls c=>some ⟨c,rfl⟩
 | _=>none
noncomputable def wF (K:Frag)(C:Addr)(bmB:List Value)(newId:String):Bool:=(K.lookup C).any λ o=>(C5 o.data).any λ c=>
 o.cls==.type "type" && c.1.mro==.ref C::c.1.mro.tail&&o.slots.toList==[o.slots.toList.getD 0 none,o.slots.toList.getD 1 none,o.slots.toList.getD 2 none,o.slots.toList.getD 3 none,some (.builtin newId),o.slots.toList.getD 5 none]
  && c.1.hasDel==false&&PySem.W.tailIn K bmB c.1.mro.tail&&PySem.W.nsOkIn K c.1.ns&&PySem.W.nsIn K c.1.ns "__init__" == some none
theorem Vo {K:Frag}{h:Heap}{C:Addr}{bmB:List Value}{newId:String}(X:K.In h)(q:wF K C bmB newId=true):Vs C bmB newId h:=by
 obtain ⟨⟨oc,dd,dat,⟨sl⟩⟩,ho,q⟩:=(Option.any_eq_true _ _).mp q
 obtain ⟨⟨⟨nm,bs,mro,ns,qn,hd,sn,sub,ab,col,del⟩,e0⟩,-,q⟩:=(Option.any_eq_true _ _).mp q
 simp only [Bool.and_eq_true,beq_iff_eq] at q
 obtain ⟨⟨⟨⟨⟨⟨e1,e2⟩,e3⟩,e4⟩,e5⟩,e6⟩,e7⟩:=q
 cases e0;cases e1;cases e4
 exact ⟨mro.tail,ns,nm,qn,bs,hd,sn,sub,ab,col,dd,_,_,_,_,_,_,X _ _ (by rw [ho,e2,e3];rfl),.of_isNs (PySem.W.isNs_of_in X e6),PySem.W.nsMap_none_of_in X e6 e7,PySem.W.tail_of_in X e5⟩
noncomputable def Y8 (x:Str)(mr:Ea):Ex:=λ ρ A=>(mr ρ A).bind λ _ A1=>.exc x A1
section
variable {X:Cx}{g:Heap}{xr:XR}{e:Expr}{es:List Expr}{mr:Ea}{x:Str}{np cpos pos:Pos}{C:Addr}{B newId initId:String}{bmB:List Value}{n:Nat}
theorem Fj {pins:List (Addr × Obj)}{σ:St}{H:Hp}{s:Shared}{h':Heap}{ea:Addr}{vs:List Value}(xo:wG X g xr)(I:Inv X pins σ H s)(m:Heap.MadeExcOf s.heap h' ea (.ref C) vs):
  Inv X pins σ H { s with heap:=h' }/\kF H h' g ea (.ref C):=by
 have nH:∀b,s.heap.get? b=none->H b=none:=λ b z=>by
  cases q:H b with
  | none=>rfl
  | some u=>obtain ⟨o,k⟩:=(I.hok b u q).obj;rw [z] at k;cases k
 have ng:∀b,s.heap.get? b=none->g.get? b=none:=λ b z=>by
  cases q:g.get? b with
  | none=>rfl
  | some o=>obtain ⟨o',k⟩:=xo.th pins σ H s I b o q;rw [z] at k;cases k
 obtain ⟨t,he,ht,ht'⟩:=m.there
 refine ⟨I.call' (s':={ s with heap:=h' }) (ch:=[]) rfl ⟨λ b o q _ _ _=>m.keeps b o q,λ b o q _ _ _=>⟨o.slots,m.keeps b o q⟩,λ b o q z _=>z,λ b o q _=>⟨o,m.keeps b o q⟩,λ _ _ q=>q,λ _ _ _ q=>q,λ b ps q=>⟨#[],by rw [Array.append_empty];exact q⟩⟩
  (λ b u q=>(I.hok b u q).stay (λ c v _ z=>m.keeps c v z) (λ _ z=>z) λ _ _ z=>z) I.bare (λ b z=>absurd z (by simp)),?_⟩
 exact ⟨ng ea m.new,nH ea m.new,_,_,_,he,rfl,rfl,rfl,.inl rfl⟩
theorem M7 (xo:wG X g xr)(hc:yj X.K x (.ref C))(ex:wF X.K C bmB newId=true)(FB:ExcBaseFacts B newId initId bmB)(ha:SA X xr (e::es) mr)(hl:gk mr n)(hn:n<=sizeLine:=by decide)(hg:Gl X x:=by rfl)(hcalm:X.calm=true:=by rfl)
  (hdb:(x==("__debug__" : Str))=false:=by decide)(he:starEach (e::es) X.env=(false,eval e X.env)::starEach es X.env:=by rfl)(hpl:(backTo cpos (starEach es X.env)).any (·.1)=false:=by rfl):
  SS X xr (.Raise (some (.Call (.Name x np) (e::es) [] cpos)) none pos) (Y8 x mr):=by
 intro pins s σ H D I ⟨φ,A,ρ,S,re,h⟩
 have hm:X.mg x=some (.ref C):=PySem.W.mg_of I.mod.kin I.mod.glob hc
 obtain ⟨tl,N,nm,q,bs,hdct,sn,sub,ab,col,dd,k0,k1,k2,k3,k5,mN,hC,hN,hni,T⟩:=Vo I.mod.kin ex
 refine wpAny_Raise_call_subT (C:=C) (nm:=nm) (q:=q) (N:=N) (bs:=bs) (bm:=tl) (hdct:=hdct) (sn:=sn) (sub:=sub) (ab:=ab) (col:=col) (dd:=dd) (k0:=k0) (k1:=k1) (k2:=k2) (k3:=k3) (k5:=k5)
  FB (mN:=mN) (T.hasType FB.hasBase) (I.ok.hd hcalm) (by rw [he];show (false || (backTo cpos (starEach es X.env)).any (·.1))=false;rw [hpl];rfl) hni (Js I hg hm ⟨rfl,?_⟩ hdb)
 have h':=zX.mp h
 have hA:=ha cpos pins s σ H (λ vs H1=>vs.length<=sizeLine/\xr x H1) I ⟨φ,A,ρ,S,re,?_⟩
 ·rw [he] at hA ⊢
  refine Calls.evalArgs_plain (wpAny_mono hA (λ us s2 h2=>?_) λ _ _ y=>y)
  obtain ⟨vs,H2,I2,rv,hlen,hx⟩:=h2
  refine ⟨rfl,?_,I2.bk _ _ hC,hN.keeps I2.bk,T.keeps I2.bk,λ h3 ea m=>?_⟩
  ·rw [<- rv.length];exact hlen
  ·obtain ⟨I3,ly⟩:=Fj xo I2 m
   exact xo.out pins σ H2 _ ea C x I3 ly hc hx
 ·cases er:mr ρ A with
  | ok ws A1=>
   rw [er] at h'
   intro φ1 H1 vs l1 S1 q1
   refine ⟨?_,h' φ1 H1 l1 S1⟩
   rw [<- q1.length,hl ρ A ws A1 er]
   exact hn
  | exc y A1=>rw [er] at h';exact h'
  | bad=>rw [er] at h';exact h'
end
noncomputable def mJ:List Ev->Str->Ev
 | [],acc=>λ _ A=>.ok (.str acc) A
 | m::ms,acc=>λ ρ A=>(m ρ A).bind λ w A1=>match w with
  | .str y=>if (acc++y).length<=sizeLine then mJ ms (acc++y) ρ A1 else .bad
  | _=>.bad
section
variable {X:Cx}{xr:XR}{e v₁ v₂:Expr}{es:List Expr}{m m₁ m₂:Ev}{ms:List Ev}{pos:Pos}
inductive SJ (X:Cx)(xr:XR):List Expr->List Ev->Prop where
 | nil:SJ X xr [] []
 | cons {e:Expr} {es:List Expr} {m:Ev} {ms:List Ev} (h:SE X xr e m) (r:SJ X xr es ms):SJ X xr (e::es) (m::ms)
end
section
variable {M:Model}{A:Around}{E:Value->Shared->Prop}{s:Shared}{e C D:Addr}{oe:Obj}{bmB bmD:List Value}{newId newD:String}{Q:Bool->Shared->Prop}
noncomputable def RD (h:Heap)(C D:Addr):Prop:=∃oC cd,h.get? C=some oC/\oC.data=.cls cd/\cd.mro.contains (.ref D)=true
theorem Nq (lc:Vs C bmB newId s.heap)(ld:Vs D bmD newD s.heap)(hbD:bmD.contains (.type "BaseException")=true)(he:s.heap.get? e=some oe)(hcls:oe.cls=.ref C)(up:RD s.heap C D)(hq:Q true s):
  wpAny M A (excMatches (.ref e) (.ref D)) Q E s:=by
 obtain ⟨h,g,d,t,os⟩:=s
 obtain ⟨tl,N,nm,q,bs,hdct,sn,sub,ab,col,dd,k0,k1,k2,k3,k5,mN,hC,_,_,_⟩:=lc
 obtain ⟨tl2,N2,nm2,q2,bs2,hdct2,sn2,sub2,ab2,col2,dd2,l0,l1,l2,l3,l5,mN2,hD,_,_,T2⟩:=ld
 obtain ⟨oC,cd,hC',hd,hm⟩:=up
 rw [hC] at hC'
 cases hC'
 have hdd:(excClassObj nm q C N bs tl hdct sn sub ab col dd k0 k1 k2 k3 k5 newId).data=.cls cd:=hd
 unfold excClassObj at hdd
 cases hdd
 have hcB:(Value.ref D::tl2).contains (.type "BaseException")=true:=by rw [List.contains_cons,T2.hasType hbD,Bool.or_true]
 have hcC:(Value.ref C::tl).contains (.ref D)=true:=hm
 have f:=tc_notTuple
 unfold excMatches
 repeat (first | (with_reducible refine wpAny_loadPart_at he ?_;rw [hcls]) | with_reducible refine wpAny_loadPart_at hD ?_ | with_reducible refine wpAny_loadPart_at hC ?_ | (with_reducible refine wpAny_isSubtype_exc hD ?_;rw [hcB]) | (with_reducible refine wpAny_isSubtype_exc hC ?_;rw [hcC]) | wp_step)
 exact hq
end
section
variable {X:Cx}{pins:List (Addr × Obj)}{σ:St}{H0 H:Hp}{s0 s:Shared}{ea C L:Addr}{M:Model}{A:Around}{E:Value->Shared->Prop}
theorem landed {h':Heap}{T:Addr}{a0:Value}(I0:Inv X pins σ H0 s0)(I:Inv X pins σ H s)(x:kF H s.heap s0.heap ea (.ref C))(nT:s0.heap.get? T=none)(hT:H T=none)
  (th:∀b o,s0.heap.get? b=some o->∃o',s.heap.get? b=some o')
  (fl:Heap.FlyingW (PySem.W.hideAll s.heap (ea::T::ql X.stack)) X.stack ea (.ref C) a0 h')(us:s.heap.UpToSlots h'):
  Inv X pins σ H { s with heap:=h' }/\kF H h' s0.heap ea (.ref C)/\Tr h' ea/\∀b o,s0.heap.get? b=some o->∃o',h'.get? b=some o':=by
 obtain ⟨st,_,ff,oe,vs,T',oT,ts,he,⟨hcls,h0⟩,hd,h1,hnT,hTe,hT',hdT,h3⟩:=fl
 have ng:s0.heap.get? ea=none:=by cases x;assumption
 have nH:H ea=none:=by cases x;assumption
 have kept:∀b o,s.heap.get? b=some o->b∉ql X.stack->b≠ea->b≠T->h'.get? b=some o:=λ b o q n1 n2 n3=>st b o (PySem.W.hideAll_get _ q λ hm=>by
  rcases List.mem_cons.mp hm with z | hm
  ·exact n2 z
  rcases List.mem_cons.mp hm with z | hm
  ·exact n3 z
  ·exact n1 hm)
 have slot:∀b o,s.heap.get? b=some o->b∈ql X.stack->∃sl,h'.get? b=some { o with slots:=sl }:=λ b o q hm=>by
  obtain ⟨_,o',ho',hnf⟩:=I.stack.mem hm
  rw [q] at ho';cases ho'
  exact us b o q hnf
 have off:∀b u,H b=some u->b∉ql X.stack/\b≠ea/\b≠T:=λ b u q=>⟨λ hm=>(by rw [I.stkFree b hm] at q;cases q),λ z=>(by rw [z,nH] at q;cases q),λ z=>(by rw [z,hT] at q;cases q)⟩
 have ne:∀b o,s0.heap.get? b=some o->b≠ea/\b≠T:=λ b o q=>⟨λ z=>(by rw [z,ng] at q;cases q),λ z=>(by rw [z,nT] at q;cases q)⟩
 have any:∀b o o',s0.heap.get? b=some o'->s.heap.get? b=some o->∃sl,h'.get? b=some { o with slots:=sl }:=λ b o o' q0 q=>by
  by_cases hm:b∈ql X.stack
  ·exact slot b o q hm
  ·exact ⟨o.slots,kept b o q hm (ne b o' q0).1 (ne b o' q0).2⟩
 have cell:∀y c,X.env.cells.lookup y=some c->∀v,s.heap.IsCell c v->h'.IsCell c v:=λ y c e v ⟨o,ho,hd⟩=>by
  obtain ⟨_,o0,ho0,_⟩:=I0.cell y c e
  obtain ⟨sl,z⟩:=any c o o0 ho0 ho
  exact ⟨_,z,hd⟩
 have inv:Inv X pins σ H { s with heap:=h' }:=by
  refine ⟨I.ok,I.os,I.bare,⟨λ b o q n nf nx=>?_,λ b o q n hf nx=>?_,I.base.free,λ b o q nx=>?_,I.base.tups,I.base.frzs,I.base.tbls⟩,?_,λ y c e=>?_,I.free,I.freeC,λ p hp=>?_,λ b u q=>?_,I.len⟩
  ·have q1:=I.base.keep b o q n nf nx
   have q0:=I0.base.keep b o q n nf nx
   refine kept b o q1 (λ hm=>?_) (ne b o q0).1 (ne b o q0).2
   rcases List.mem_cons.mp (I.stkSub b hm) with z | z
   ·exact absurd (Nat.lt_of_lt_of_le (Heap.lt_size q) I.ok.above) (by rw [z];exact Nat.lt_irrefl _)
   ·exact nf z
  ·obtain ⟨sl,q1⟩:=I.base.slot b o q n hf nx
   obtain ⟨sl0,q0⟩:=I0.base.slot b o q n hf nx
   obtain ⟨sl',z⟩:=any b _ _ q0 q1
   exact ⟨sl',z⟩
  ·obtain ⟨o1,q1⟩:=I.base.there b o q nx
   obtain ⟨o0,q0⟩:=I0.base.there b o q nx
   obtain ⟨sl,z⟩:=any b o1 o0 q0 q1
   exact ⟨_,z⟩
  ·obtain ⟨m,⟨o,es,ep,ho,r⟩,k⟩:=I.loc
   obtain ⟨_,⟨o0,_,_,ho0,_⟩,_⟩:=I0.loc
   obtain ⟨sl,z⟩:=any _ o o0 ho0 ho
   refine ⟨m,⟨_,es,ep,z,r⟩,λ i y v e1 e2 e3=>?_⟩
   obtain ⟨u,ru,lk⟩:=k i y v e1 e2 e3
   refine ⟨u,ru,?_⟩
   rcases lk with lk | ⟨lk,c,ec,hc⟩
   ·exact .inl lk
   ·exact .inr ⟨lk,c,ec,cell y c ec _ hc⟩
  ·obtain ⟨v,hv⟩:=I.cell y c e
   exact ⟨v,cell y c e v hv⟩
  ·obtain ⟨p1,p2,p3,p4,p5⟩:=I.pin p hp
   have p0:=(I0.pin p hp).1
   refine ⟨kept _ _ p1 (λ hm=>?_) (ne _ _ p0).1 (ne _ _ p0).2,p2,p3,p4,p5⟩
   rcases List.mem_cons.mp (I.stkSub _ hm) with z | z
   ·exact p3 z
   ·exact p4 z
  ·refine (I.hok b u q).stay (λ c v hc z=>?_) (λ _ z=>z) λ _ _ z=>z
   rcases hc with e | e
   ·obtain ⟨n1,n2,n3⟩:=off b u q
    rw [e] at z ⊢
    exact kept b v z n1 n2 n3
   ·obtain ⟨n1,n2,n3⟩:=off c _ e
    exact kept c v z n1 n2 n3
 have both:s0.heap.get? T'=none/\H T'=none:=by
  cases q:s.heap.get? T' with
  | some o=>
   by_cases hm:T'∈ea::T::ql X.stack
   ·rcases List.mem_cons.mp hm with z | hm
    ·exact absurd z hTe
    rcases List.mem_cons.mp hm with z | hm
    ·rw [z];exact ⟨nT,hT⟩
    ·obtain ⟨sl,z⟩:=slot T' o q hm
     obtain ⟨_,o',ho',hnf⟩:=I.stack.mem hm
     rw [q] at ho';cases ho'
     rw [hT'] at z;cases z
     exact absurd hdT (hnf ts)
   ·rw [PySem.W.hideAll_get _ q hm] at hnT;cases hnT
  | none=>
   constructor
   ·cases z:s0.heap.get? T' with
    | none=>rfl
    | some o=>obtain ⟨o',k⟩:=th T' o z;rw [q] at k;cases k
   ·cases z:H T' with
    | none=>rfl
    | some u=>obtain ⟨o',k⟩:=(I.hok T' u z).obj;rw [q] at k;cases k
 exact ⟨inv,⟨ng,nH,oe,vs,a0,he,hcls,hd,h0,.inr ⟨T',oT,ts,h1,hTe,both.1,both.2,hT',hdT,h3⟩⟩,⟨oe,vs,T',he,hd,h1⟩,λ b o q=>by
  obtain ⟨o1,q1⟩:=th b o q
  obtain ⟨sl,z⟩:=any b o1 o q q1
  exact ⟨_,z⟩⟩
theorem flying (I:Inv X pins σ H s)(x:kF H s.heap s0.heap ea (.ref C))(tr:Tr s.heap ea):
  ∃T a0,s0.heap.get? T=none/\H T=none/\Heap.FlyingW (PySem.W.hideAll s.heap (ea::T::ql X.stack)) X.stack ea (.ref C) a0 s.heap:=by
 obtain ⟨hg,hH,oe,vs,a0,he,hc,hd,h0,h1⟩:=x
 obtain ⟨oe',vs',T',he',hd',h1'⟩:=tr
 rw [he] at he';cases he'
 rw [hd] at hd';cases hd'
 rcases h1 with h1 | ⟨T,oT,ts,h1,hTe,hgT,hHT,hT,hdT,h3⟩
 ·rw [h1] at h1';cases h1'
 ·have hn:∀b∈ea::T::ql X.stack,(PySem.W.hideAll s.heap (ea::T::ql X.stack)).get? b=none:=λ b hb=>PySem.W.hideAll_none _ hb
  exact ⟨T,a0,hgT,hHT,λ b o q=>PySem.W.of_hideAll _ q,hn ea (List.mem_cons_self ..),frames_at I.stack λ b hb=>hn b (List.mem_cons_of_mem _ (List.mem_cons_of_mem _ hb)),
   oe,vs,T,oT,ts,he,⟨hc,h0⟩,hd,h1,hn T (List.mem_cons_of_mem _ (List.mem_cons_self ..)),hTe,hT,hdT,h3⟩
end
noncomputable def JN (oe:Obj):HO:=.frz oe (.own 0)
noncomputable def Qc (K:Frag)(C D:Addr):Bool:=match K.lookup C with
 | some ⟨_,_,.cls cd,_⟩=>cd.mro.contains (.ref D)
 | _=>false
theorem Cn {K:Frag}{h:Heap}{C D:Addr}(X:K.In h)(e:Qc K C D=true):RD h C D:=by
 unfold Qc at e
 split at e
 ·rename_i ho
  exact ⟨_,_,X _ _ ho,rfl,e⟩
 ·cases e
section
variable {X:Cx}{pins:List (Addr × Obj)}{σ:St}{H0 H:Hp}{s0 s:Shared}{ea C L:Addr}
theorem QP (I0:Inv X pins σ H0 s0)(I:Inv X pins σ H s)(x:kF H s.heap s0.heap ea (.ref C)):∃oe,oe.cls=.ref C/\H ea=none/\Inv X pins σ (upd H ea (JN oe)) s:=by
 obtain ⟨ng,nH,oe,vs,a0,he,hc,_⟩:=x
 refine ⟨oe,hc,nH,?_⟩
 have ne:∀b o,s0.heap.get? b=some o->b≠ea:=λ b o q z=>by rw [z,ng] at q;cases q
 have at_:∀b,b≠ea->upd H ea (JN oe) b=H b:=λ b n=>by unfold upd;exact if_neg n
 have nt:∀b u,H b=some u->upd H ea (JN oe) b=some u:=λ b u q=>by
  rw [at_ b λ z=>by rw [z,nH] at q;cases q];exact q
 refine ⟨I.ok,I.os,I.bare,⟨I.base.keep,I.base.slot,λ b o q n nx=>?_,I.base.there,λ b xs q=>nt _ _ (I.base.tups b xs q),λ b o u q=>nt _ _ (I.base.frzs b o u q),λ b ps q=>?_⟩,I.loc,I.cell,?_,λ y c e=>?_,λ p hp=>?_,λ b u q=>?_,I.len⟩
 ·obtain ⟨o0,q0⟩:=I0.base.there b o q nx
  rw [at_ b (ne b o0 q0)]
  exact I.base.free b o q n nx
 ·obtain ⟨more,z⟩:=I.base.tbls b ps q
  exact ⟨more,nt _ _ z⟩
 ·obtain ⟨m,⟨o0,_,_,ho0,_⟩,_⟩:=I0.loc
  rw [at_ _ (ne _ o0 ho0)]
  exact I.free
 ·obtain ⟨v,o0,ho0,_⟩:=I0.cell y c e
  rw [at_ _ (ne _ o0 ho0)]
  exact I.freeC y c e
 ·obtain ⟨p1,p2,p3⟩:=I.pin p hp
  refine ⟨p1,?_,p3⟩
  rw [at_ _ (ne _ _ (I0.pin p hp).1)]
  exact p2
 ·by_cases z:b=ea
  ·subst z
   have:u=JN oe:=by
    unfold upd at q
    rw [if_pos rfl] at q
    exact (Option.some.inj q).symm
   subst this
   exact ⟨he,⟨oe,he⟩⟩
  ·rw [at_ b z] at q
   exact (I.hok b u q).stay (λ _ _ _ z=>z) (λ c z=>nt c _ z) λ c xs z=>nt c _ z
noncomputable def EL (X:Cx)(pins:List (Addr × Obj))(σ:St)(s0:Shared)(D:Addr)(k:Addr->Addr->Hp->Prop)(e:Value)(s:Shared):Prop:=
 ∃ea C H bmC newC,e=.ref ea/\Inv X pins σ H s/\kF H s.heap s0.heap ea (.ref C)/\Tr s.heap ea/\(∀b o,s0.heap.get? b=some o->∃o',s.heap.get? b=some o')/\Mi.wF X.K C bmC newC=true/\Qc X.K C D=true/\∀oe,oe.cls=.ref C->H ea=none->k ea C (upd H ea (JN oe))
theorem Df {i:Nat}{xD n:Str}{D:Addr}{bmD:List Value}{newD:String}{body suite:List Stmt}{b₀:Stmt}{np hp pos:Pos}{Q:Flow->Shared->Prop}{k:Addr->Addr->Hp->Prop}
  (I0:Inv X pins σ H0 s0)(hst:X.stack=X.env::X.outer)(hL:X.env.frame=some L)(hD:yj X.K xD (.ref D))(exD:Mi.wF X.K D bmD newD=true)(hbD:bmD.contains (.type "BaseException")=true)
  (hN:X.N.Nodup)(hi:X.N[i]? =some n)(hx:Loc X.env.scope n)
  (hbody:wpAny (model X.prog X.w) X.A (execs body X.env) (λ f s1=>f=.next/\Q .next s1) (EL X pins σ s0 D k) s0)
  (hsuite:∀ea C H s2,Inv X pins (σ.set i (some (.ref ea))) H s2->k ea C H->∀E',wpAny (model X.prog X.w) (X.A.mark (some (.ref ea))) (execs (b₀::suite) X.env)
   (λ f s4=>wpAny (model X.prog X.w) X.A (do bindName X.env n .none;unbindBehindTheSuite X.env n hp) (λ _ s5=>Q f s5) X.xe s4) E' s2)
  (hg:Gl X xD)(hdb:(xD==("__debug__" : Str))=false:=by decide)(hf:X.fn n=true∨X.env.scope.names.lookup n=some .local:=by first | exact .inl rfl | exact .inr rfl | assumption):
  wpAny (model X.prog X.w) X.A (exec (.Try body [.ExceptHandler (some (.Name xD np)) (some n) (b₀::suite) hp] [] [] pos) X.env) Q X.xe s0:=by
 refine wpAny_Try_except (wpAny_mono hbody (λ f s1 ⟨ef,q⟩=>?_) λ e s1 h=>?_)
 ·subst ef
  exact wpAny_execs_nil q
 obtain ⟨ea,C,H,bmC,newC,rfl,I,x,tr,th,exC,up,hk⟩:=h
 have hm:X.mg xD=some (.ref D):=PySem.W.mg_of I.mod.kin I.mod.glob hD
 obtain ⟨T,a0,nT,hT,fl⟩:=flying I x tr
 have hfr:X.A.frames=some (X.env::X.outer):=by rw [<- hst];exact I.ok.frames
 refine wpAny_looks_onW hfr hL (by rw [<- hst];exact fl) λ h₄ hh₄ us₄=>?_
 refine wpAny_landsW hh₄ λ h₅ fl₅ us₅=>?_
 obtain ⟨I5,x5,tr5,th5⟩:=landed I0 I x nT hT th (by rw [<- hst] at fl₅;exact fl₅) (us₄.trans us₅)
 obtain ⟨_,_,oe,_,_,he,hc,_⟩:=id x5
 refine wpAny_handleBy_cons (codeAny_handlers_test (Calls.Name_function_global I5.ok.kind hg (Calls.loadGlobal_global (by rw [I5.ok.glob];exact I5.mod.glob.keeps I5.bk) hm ?_) hdb)) (by intro q;cases q)
 refine Nq (s:={ s1 with heap:=h₅ }) (Vo I5.kIn exC) (Vo I5.kIn exD) hbD he hc (Cn I5.kIn up) ?_
 refine codeAny_handlers_suite_as ?_
 obtain ⟨T',a0',nT',hT',fl'⟩:=flying I5 x5 tr5
 refine lands_againW fl' λ h₆ fl₆ us₆=>?_
 obtain ⟨I6,x6,_,_⟩:=landed I0 I5 x5 nT' hT' th5 fl₆ us₆
 obtain ⟨of,hof,nea,I7⟩:=QP I0 I6 x6
 exact YK (v:=.ref ea) I7 hN hi hx rfl (λ s7 I7=>hsuite ea C _ s7 I7 (hk of hof nea) _) hf
end
section
variable {X:Cx}{pins:List (Addr × Obj)}{σ:St}{H:Hp}{s:Shared}{M:Model}{A:Around}{E:Value->Shared->Prop}
theorem name_goes {i:Nat}{n:Str}{pos:Pos}{Q:Unit->Shared->Prop}(I:Inv X pins σ H s)(hN:X.N.Nodup)(hi:X.N[i]? =some n)(hk:X.env.scope.names.lookup n=some .local)
  (h:∀s',Inv X pins (σ.set i none) H s'->Q () s'):wpAny M A (do bindName X.env n .none;unbindBehindTheSuite X.env n pos) Q E s:=by
 obtain ⟨m,hn,hl⟩:=id I.loc
 have hiσ:i < σ.length:=by rw [I.len];exact (List.getElem?_eq_some_iff.mp hi).1
 refine wpAny_nameGoes_keeps hk hn (by rw [I.ok.kind];rfl) λ h' v hn' hs=>h _ ?_
 have old:∀b o,b≠X.env.locals->s.heap.get? b=some o->h'.get? b=some o:=λ b o n q=>(hs.2 b n).trans q
 have nl:∀{b:Addr} {u:HO},H b=some u->b≠X.env.locals:=λ q z=>by rw [z,I.free] at q;cases q
 have ab:∀{b:Addr} {k:Nat},b<k->k<=X.env.locals->b≠X.env.locals:=λ l g=>Nat.ne_of_lt (Nat.lt_of_lt_of_le l g)
 refine ⟨I.ok,I.os,I.bare,⟨λ b o e z hb hx=>?_,λ b o e z hb hx=>?_,I.base.free,λ b o e hx=>?_,I.base.tups,I.base.frzs,I.base.tbls⟩,⟨_,hn',λ j y v' e1 e2 e3=>?_⟩,λ y c e=>?_,I.free,I.freeC,λ p hp=>?_,λ b u q=>?_,by simpa using I.len⟩
 ·exact old b o (ab (Heap.lt_size e) I.ok.above) (I.base.keep b o e z hb hx)
 ·obtain ⟨sl,e1⟩:=I.base.slot b o e z hb hx
  exact ⟨sl,old b _ (ab (Heap.lt_size e) I.ok.above) e1⟩
 ·obtain ⟨o',e1⟩:=I.base.there b o e hx
  exact ⟨o',old b _ (ab (Heap.lt_size e) I.ok.above) e1⟩
 ·by_cases hj:j=i
  ·subst hj
   rw [List.getElem?_set_self hiσ] at e2
   cases e2
  ·rw [List.getElem?_set_ne (Ne.symm hj)] at e2
   obtain ⟨u',r',q⟩:=hl j y v' e1 e2 e3
   refine ⟨u',r',?_⟩
   rcases q with ⟨k,e⟩ | ⟨k,c,e,z⟩
   ·have:y≠n:=λ e=>hj (G7 hN e1 (e ▸ hi))
    exact .inl ⟨k,by simp [this,e]⟩
   ·exact .inr ⟨k,c,e,z.sameBut hs (I.cne y c e)⟩
 ·obtain ⟨w',z⟩:=I.cell y c e
  exact ⟨w',z.sameBut hs (I.cne y c e)⟩
 ·obtain ⟨e,z,ne,nf,d⟩:=I.pin p hp
  exact ⟨old _ _ ne e,z,ne,nf,d⟩
 ·refine (I.hok b u q).stay (λ c v hc z=>old c v ?_ z) (λ _ z=>z) λ _ _ z=>z
  rcases hc with e | e
  ·rw [e];exact nl q
  ·exact nl e
theorem NA {i j:Nat}{n y:Str}{ea:Addr}{np yp ap hp:Pos}{Q:Flow->Shared->Prop}{E':Value->Shared->Prop}(I:Inv X pins (σ.set i (some (.ref ea))) H s)(hN:X.N.Nodup)(hi:X.N[i]? =some n)(hj:X.N[j]? =some y)
  (hk:X.env.scope.names.lookup n=some .local)(hy:Loc X.env.scope y)(hq:∀s',Inv X pins (((σ.set i (some (.ref ea))).set j (some (.ref ea))).set i none) H s'->Q .next s')
  (hs:swapsWith (.Name n np) (some (.Name y yp)) ap.line X.env=pure false)(hf:X.fn y=true∨X.env.scope.names.lookup y=some .local)
  (hdb:(n==("__debug__" : Str))=false:=by decide):
  wpAny (model X.prog X.w) A (execs [.Assign [.Name y yp] (.Name n np) ap] X.env) (λ f s4=>wpAny (model X.prog X.w) X.A (do bindName X.env n .none;unbindBehindTheSuite X.env n hp) (λ _ s5=>Q f s5) X.xe s4) E' s:=by
 obtain ⟨m,hn,hl⟩:=I.loc
 have hiσ:i < σ.length:=by have:=I.len;rw [List.length_set] at this;rw [this];exact (List.getElem?_eq_some_iff.mp hi).1
 obtain ⟨u,r,l⟩:=hl i n (.ref ea) hi (List.getElem?_set_self hiσ) (.inl hk)
 obtain rfl:u=Value.ref ea:=r
 have hm:m n=some (.ref ea):=by
  rcases l with ⟨_,e⟩ | ⟨k | k,_⟩
  ·exact e
  ·rw [show X.env.kindOf n=some .local from hk] at k;cases k
  ·rw [show X.env.kindOf n=some .local from hk] at k;cases k
 refine wpAny_execs_cons (wpAny_Assign_Name (wpAny_Name (wpAny_loadName_local I.ok.kind hk hn hm ?_) hdb) hs)
 exact YK (v:=.ref ea) I hN hj hy rfl (λ s5 I5=>wpAny_execs_nil (name_goes I5 hN hi hk hq)) hf
end
end Mi
namespace Mi
open PySem PySem.W PySem.Spec PySem.Calls PyProof.Rows Builtin Builtin.ObjectAttr Builtin.Getset_descriptor
section
variable {prog:Program}{w:World}{A:Around}{E:Value->Shared->Prop}{s:Shared}{K:Frag}{x D:Addr}{name:Str}
theorem EV {M:Model}{h:Heap}{a g:Value}(X:K.In h)(ha:findIn K (.ref D) name=some (some a))(hn:specialIn K a "__get__" = some (some g))(htk:takesIn K a=some true):Looks M h (find (.ref x) (.ref D) name) (.bind g a):=
 (looks_findIn (M:=M) X ha).andThen ((show Looks M h (getOf (some a)) (some g) from looks_specialIn X hn).andThen
  ((show Looks M h (dataDescriptor? (some a) (some g)) (some (g,a)) from (looks_takesIn (M:=M) X htk).andThen .now).andThen (Looks.tag .now)))
theorem HK {tp:Value}{R:Result->Shared->Prop}(X:K.In s.heap)(L0:Looks (model prog w) s.heap (typeOf (.ref x)) (.ref D))(hm:mroIn K D (.type "object")=some true)(h:R (.ok (.ret (.ref D))) s):
  codeAny (model prog w) A (.call (.builtin "getset_descriptor.__get__") ⟨[.builtin "object.__class__",.ref x,tp],[]⟩) R s:=by
 obtain ⟨h0,g0,d0,t0,o0⟩:=s
 have Ls:=looks_mroIn (M:=model prog w) X hm
 have sl:=KF.slot_gs
 refine codeAny_call_builtin sl.plain KF.entry_gs (sl.check _ _ _ _ _ _ _ _ KF.type_class (KF.args_gs _ _ _) ?_)
 unfold «getset_descriptor.__get__» descrGet
 rw [dga_obj]
 refine wpAny_bind (wpAny_pure ?_)
 unfold descrGetter descrCheckInstance isInstance descrNameAndClass
 simp only [KF.owner_class]
 repeat lk
 refine And.intro (Code.quiet_builtin _ (by decide +kernel)) (codeAny_builtin KF.entry_class ?_)
 unfold «object.__class__» shownTypeOf
 repeat lk
 exact h
theorem NB {M:Model}{rest:List Value}{kw:List (Str × Value)}{Q:Unit->Shared->Prop}(X:K.In s.heap)(L0:Looks M s.heap (typeOf (.ref x)) (.ref D))(hm:mroIn K D (.type "BaseException")=some true)
  (ok:argsOk "BaseException.__getattribute__" ⟨.ref x::rest,kw⟩)(hQ:Q () s):wpAny M A (checkBuiltinCall "BaseException.__getattribute__" ⟨.ref x::rest,kw⟩) Q E s:=by
 have cut:splitId "BaseException.__getattribute__" = some ("BaseException", "__getattribute__"):=by first | rfl | decide +kernel
 have kinds:builtinKind "BaseException.__getattribute__" = some .slot∨builtinKind "BaseException.__getattribute__" = some .method:=by
  simp only [builtinKind,cut]
  first | exact .inl (by decide +kernel) | exact .inr (by decide +kernel)
 have Ls:=looks_mroIn (M:=M) X hm
 have rest':wpAny M A (match Manifest.signature? "BaseException.__getattribute__" with | some sig=>Bind.checkArgs "BaseException.__getattribute__" sig ⟨.ref x::rest,kw⟩ | none=>pure ()) Q E s:=wpAny_of_eq ok hQ
 rcases kinds with kd | kd
 all_goals
  unfold checkBuiltinCall
  rw [kd,cut]
  dsimp only
  unfold isInstance
  refine wpAny_bind (wpAny_bind (L0.at (Ls.at ?_)))
  exact rest'
theorem O1 {Q:Option Value->Shared->Prop}(hga:findIn K (.ref D) "__getattribute__" = some (some (.builtin "BaseException.__getattribute__")))(hgn:findIn K (.ref D) "__getattr__" = some none)
  (ha:findIn K (.ref D) "__class__" = some (some (.builtin "object.__class__")))
  (hn:specialIn K (.builtin "object.__class__") "__get__" = some (some (.builtin "getset_descriptor.__get__")))(htk:takesIn K (.builtin "object.__class__")=some true)(hm:mroIn K D (.type "object")=some true)(hm2:mroIn K D (.type "BaseException")=some true)
  (X:K.In s.heap)(L0:Looks (model prog w) s.heap (typeOf (.ref x)) (.ref D))(h:Q (some (.ref D)) { s with toks:=s.toks+1 }):wpAny (model prog w) A (getAttr? (.ref x) "__class__") Q E s:=by
 obtain ⟨hh,g,d,t,os⟩:=s
 have Lg:=looks_findIn (M:=model prog w) X hga
 have L2:=EV (M:=model prog w) (x:=x) X ha hn htk
 have L3:=looks_findIn (M:=model prog w) X hgn
 unfold getAttr?;unfold getAttrBy?;unfold getAttrBy
 refine wpAny_bind (wpAny_mkText (wpAny_bind (wpAny_attempt (wpAny_holding (wpAny_bind (L0.at (wpAny_bind (Lg.at ?_))))))))
 show wpAny _ _ (getAttrByItsOwn (.ref x) (.str "__class__" t) (.ref D) (.builtin "BaseException.__getattribute__") false false) _ _ _
 unfold getAttrByItsOwn
 refine wpAny_bind ?_
 show wpAny _ _ (typeLookup (.ref D) "__getattr__") _ _ _
 refine L3.at (wpAny_bind (wpAny_attempt (wpAny_holding ?_)))
 show wpAny _ _ (bindSpecial (.builtin "BaseException.__getattribute__") (.ref x) >>= _) _ _ _
 refine wpAny_bind (wpAny_of_eq (F.excAttr_ValueError.ga.bind _) ?_)
 refine wpAny_call (codeAny_call_builtin F.excAttr_ValueError.ga.plain F.entry_bexc_ga (NB X L0 hm2 (F.args_bexc_ga _ _) ?_))
 unfold «object.__getattribute__»
 refine wpAny_bind (wpAny_of_eq (show slotArgs "__getattribute__" 1 ⟨[.ref x]++[.str "__class__" t],[]⟩=pure (.ref x,[.str "__class__" t]) from rfl) ?_)
 refine wpAny_bind (wpAny_of_eq (show attrName (.str "__class__" t)=pure ("__class__" : Str) from rfl) (wpAny_bind (L0.at (wpAny_bind (L2.at ?_)))))
 show wpAny _ _ (holding [Value.builtin "object.__class__"] (call (.builtin "getset_descriptor.__get__") [.builtin "object.__class__",.ref x,.ref D]) >>= ret) _ _ _
 refine wpAny_bind (wpAny_holding (wpAny_call (HK (s:=⟨hh,g,d,t+1,os⟩) X L0 hm ?_)))
 refine wpAny_pure ?_
 exact handed_on rfl (wpAny_pure h)
end
noncomputable def Kc (x D:Addr)(h:Heap):Prop:=∃o,h.get? x=some o/\o.cls=.ref D
theorem Kc.ty {x D:Addr}{M:Model}{h:Heap}(p:Kc x D h):Looks M h (typeOf (.ref x)) (.ref D):=by
 obtain ⟨o,ho,hc⟩:=p
 rw [<- hc]
 exact (Looks.ld ho).andThen .now
theorem MW {K:Frag}{x D:Addr}(hc:(clsIn K D).isSome=true)(hga:findIn K (.ref D) "__getattribute__" = some (some (.builtin "BaseException.__getattribute__")))(hgn:findIn K (.ref D) "__getattr__" = some none)(ha:findIn K (.ref D) "__class__" = some (some (.builtin "object.__class__")))
  (hn:specialIn K (.builtin "object.__class__") "__get__" = some (some (.builtin "getset_descriptor.__get__")))(htk:takesIn K (.builtin "object.__class__")=some true)(hm:mroIn K D (.type "object")=some true)(hm2:mroIn K D (.type "BaseException")=some true):
  KitX K (.ref x) (.ref D) (Kc x D) where
 ty:=λ _ _ _ p=>p.ty
 it:=λ _ _ X _=>by
  obtain ⟨cdD,hcD⟩:=Option.isSome_iff_exists.mp hc
  unfold clsIn at hcD
  split at hcD
  ·rename_i c' d' cd' sl' ho
   intro A' Q' E' s' k q
   unfold isType loadHead
   exact wpAny_bind (wpAny_loadPart (k _ _ (X D _ ho)) (wpAny_pure q))
  ·cases hcD
 ne:=λ _ tp dd its n sl X ht=>by
  obtain ⟨cdD,hcD⟩:=Option.isSome_iff_exists.mp hc
  rw [Bool.eq_false_iff]
  intro q
  cases Value.ref.inj (beq_iff_eq.mp q)
  unfold clsIn at hcD
  split at hcD
  ·rename_i ho
   cases (X _ _ ho).symm.trans ht
  ·cases hcD
 ca:=λ X p k=>O1 hga hgn ha hn htk hm hm2 X p.ty k
end Mi
namespace Mi
open PySem PySem.Spec PyProof.Rows L2
noncomputable def Jy (K:Frag)(C:Addr):Bool:=(PySem.W.clsIn K C).isSome&&(PySem.W.findIn K (.ref C) "__getattribute__" == some (some (.builtin "BaseException.__getattribute__")))&&(PySem.W.findIn K (.ref C) "__getattr__" == some none)&&(PySem.W.findIn K (.ref C) "__class__" == some (some (.builtin "object.__class__")))&&
 (PySem.W.specialIn K (.builtin "object.__class__") "__get__" == some (some (.builtin "getset_descriptor.__get__")))&&(PySem.W.takesIn K (.builtin "object.__class__")==some true)&&(PySem.W.mroIn K C (.type "object")==some true)&&(PySem.W.mroIn K C (.type "BaseException")==some true)
section
variable {X:Cx}{pins:List (Addr × Obj)}{σ:St}{H:Hp}{s:Shared}{A:Around}{E:Value->Shared->Prop}{Q:Value->Shared->Prop}{c:Value}{b:Bool}{ea C:Addr}
theorem Dp {oe:Obj}{uo:HO}(I:Inv X pins σ H s)(e:H ea=some (.frz oe uo))(hoe:oe.cls=.ref C)(k:Jy X.K C=true)(q:PySem.W.kitOne X.K (.ref C) c=some b)(h:∀tk,Q (.bool b) { s with toks:=tk }):
  wpAny (model X.prog X.w) A (call (.builtin "isinstance") [.ref ea,c]) Q E s:=by
 have p:Kc ea C s.heap:=⟨oe,(show qY X.prog X.w H s.heap ea (.frz oe uo) from I.hok ea _ e).1,hoe⟩
 unfold Jy at k
 simp only [Bool.and_eq_true,beq_iff_eq] at k
 obtain ⟨⟨⟨⟨⟨⟨⟨k1,k2⟩,k22⟩,k3⟩,k4⟩,k5⟩,k6⟩,k7⟩:=k
 exact PySem.W.kia_one (MW k1 k2 k22 k3 k4 k5 k6 k7) I.kIn p q (λ z=>nomatch z) h
theorem Es (I:Inv X pins σ H s)(q:PySem.W.kitOne X.K (.type "NoneType") c=some b)(h:∀tk,Q (.bool b) { s with toks:=tk }):wpAny (model X.prog X.w) A (call (.builtin "isinstance") [.none,c]) Q E s:=
 Tz I (x:=.non) rfl .non q h
end
noncomputable def gu (P:Program)(w:World)(K:Frag)(mg:Str->Option Value)(base:Heap)(N:List Str)(qual:Str)(scope:Scope)(f:Addr)(cd:Value)(cl:List (Str × Addr))(A:Around)(outer:List Env)(s:Shared)(H:Hp)(E:XK):Cx where
 prog:=P
 w:=w
 K:=K
 mg:=mg
 base:=base
 A:=A.deeper (PySem.W.envX qual scope s.heap.objs.size f cd cl)
 N:=N
 s0:=s
 H0:=H
 env:=PySem.W.envX qual scope s.heap.objs.size f cd cl
 outer:=outer
 stack:=PySem.W.envX qual scope s.heap.objs.size f cd cl::outer
 ex:=[]
 calm:=true
 fn:=λ _=>false
 pn:=[]
 xe:=λ e s'=>wpAny (model P w) (A.deeper (PySem.W.envX qual scope s.heap.objs.size f cd cl)) (leaving (PySem.W.envX qual scope s.heap.objs.size f cd cl) e) (λ _ s''=>wj P w outer H s E e s'') (λ e' s''=>wj P w outer H s E e' s'') s'
section
variable {P:Program}{w:World}{K:Frag}{mg:Str->Option Value}{base:Heap}{N:List Str}{qual:Str}{scope:Scope}{f:Addr}{cd:Value}{cl:List (Str × Addr)}{A:Around}{outer:List Env}{s:Shared}{H:Hp}{E:XK}
theorem NY {pins:List (Addr × Obj)}{σ:St}{H':Hp}{s':Shared}{ea C:Addr}(I:Inv (gu P w K mg base N qual scope f cd cl A outer s H E) pins σ H' s')(x:kF H' s'.heap s.heap ea (.ref C))(hE:E (.ref C) none H'):
  (gu P w K mg base N qual scope f cd cl A outer s H E).xe (.ref ea) s':=by
 have bs:Un (ql outer) [] H H' s.heap s'.heap:=I.base
 have stk:∀b∈ql (PySem.W.envX qual scope s.heap.objs.size f cd cl::outer),H' b=none:=I.stkFree
 have hL:s.heap.get? s.heap.objs.size=none:=Heap.get?_none_of_le (Nat.le_refl _)
 have hfe:(PySem.W.envX qual scope s.heap.objs.size f cd cl).frame=some s.heap.objs.size:=rfl
 have mem:∀b,b∈ql (PySem.W.envX qual scope s.heap.objs.size f cd cl::outer)↔b=s.heap.objs.size∨b∈ql outer:=λ b=>by
  unfold ql
  rw [List.filterMap_cons,hfe]
  exact List.mem_cons
 show wpAny (model P w) (A.deeper (PySem.W.envX qual scope s.heap.objs.size f cd cl)) (leaving (PySem.W.envX qual scope s.heap.objs.size f cd cl) (.ref ea)) _ _ s'
 refine S9 (base:=base) (L:=s.heap.objs.size) I.ok.frames rfl I.stack x (λ b u e=>(I.hok b u e).obj) (λ b o e=>bs.there b o e (by simp)) λ h' k1 k2 x' tr'=>?_
 have nfr:∀b u,H' b=some u->b∉ql (PySem.W.envX qual scope s.heap.objs.size f cd cl::outer):=λ b u e hm=>by rw [stk b hm] at e;cases e
 refine ⟨ea,C,H',rfl,I.os,I.bare,⟨λ b o e n nb _=>?_,λ b o e n mb _=>?_,λ b o e n hx=>bs.free b o e n hx,λ b o e hx=>?_,bs.tups,bs.frzs,bs.tbls⟩,λ b u e=>?_,x',tr',hE⟩
 ·have nL:b≠s.heap.objs.size:=λ z=>by rw [z,hL] at e;cases e
  exact k1 b o (bs.keep b o e n nb (by simp)) (λ hm=>(mem b).mp hm |>.elim nL nb) (.inl ⟨o,e⟩)
 ·obtain ⟨sl,q⟩:=bs.slot b o e n mb (by simp)
  obtain ⟨sl',q'⟩:=k2 b _ q ((mem b).mpr (.inr mb))
  exact ⟨sl',q'⟩
 ·obtain ⟨o',q⟩:=bs.there b o e hx
  by_cases hm:b∈ql (PySem.W.envX qual scope s.heap.objs.size f cd cl::outer)
  ·obtain ⟨sl,z⟩:=k2 b o' q hm;exact ⟨_,z⟩
  ·exact ⟨o',k1 b o' q hm (.inl ⟨o,e⟩)⟩
 ·refine (I.hok b u e).stay (λ c v hc q=>?_) (λ _ q=>q) λ _ _ q=>q
  rcases hc with z | z
  ·rw [z] at q ⊢;exact k1 b v q (nfr b u e) (.inr ⟨u,e⟩)
  ·exact k1 c v q (nfr c _ z) (.inr ⟨_,z⟩)
theorem D9:wG (gu P w K mg base N qual scope f cd cl A outer s H E) s.heap (wK K E) where
 th:=λ pins σ H' s' I b o e=>(show Un (ql outer) [] H H' s.heap s'.heap from I.base).there b o e (by simp)
 out:=λ pins σ H' s' ea C x I ly c hx=>NY I ly (hx C c)
structure Xk (N:List Str)(sc:Scope):Prop where
 kind:sc.kind=.function
 co:sc.isCoroutine=false
 gen:sc.isGenerator=false
 nocell:∀y∈sc.names,y.2≠.cell
structure Yx (base:Heap)(N:List Str)(scope:Scope)(cl:List (Str × Addr))(vs:List V):Prop where
 len:vs.length=N.length
 inj:∀x y c,cl.lookup x=some c->cl.lookup y=some c->x=y
 has:∀x,scope.names.lookup x=some .free->∃c,cl.lookup x=some c
 cell:∀x c,cl.lookup x=some c->∃v,base.IsCell c v
 val:∀(i:Nat) (x:Str) (v:V),N[i]? =some x->vs[i]? =some v->∃c u,scope.names.lookup x=some .free/\cl.lookup x=some c/\base.IsCell c (some u)/\RelV v u
theorem IJ {vs:List V}{h1:Heap}{tk:Tok}(S:Xk N scope)(hd:A.handled=none)(e0:QU P w K mg base A outer s H)(C:Yx base N scope cl vs)(hns:∃m,h1.Ns s.heap.objs.size m)(hk:∀b o,s.heap.get? b=some o->h1.get? b=some o):
  Inv (gu P w K mg base N qual scope f cd cl A outer s H E) [] (L2.start N vs) H { s with heap:=h1,toks:=tk }:=by
 have noA:∀b:Addr,b∉(gu P w K mg base N qual scope f cd cl A outer s H E).ex:=λ b z=>absurd (show b∈([]:List Addr) from z) (by simp)
 have bk:∀c v,base.IsCell c v->h1.IsCell c v/\H c=none:=λ c v ⟨o,ho,hd⟩=>⟨⟨o,hk _ _ (e0.bs _ _ ho).1,hd⟩,(e0.bs _ _ ho).2⟩
 obtain ⟨m,hm⟩:=hns
 refine ⟨⟨e0.mod,S.kind,rfl,rfl,Nat.le_refl _,C.inj,λ y hy=>?_,λ y c z _=>(nomatch z),λ _=>hd,Around.frames_deeper e0.frames,.inr ⟨rfl,rfl⟩,λ b z=>absurd z (noA b),e0.bs,e0.bsz,λ b _ _=>noA b,λ b z=>absurd z (noA b),e0.funs,e0.frf⟩,
  rfl,e0.bare,Un.kept hk,⟨m,hm,λ i y v h1 h2 h3=>?_⟩,λ y c h=>?_,e0.hok.fresh (Nat.le_refl _),λ y c h=>?_,λ p hp=>absurd (show p∈([]:List (Addr × Obj)) from hp) (by simp),e0.hok.kept hk,?_⟩
 ·have hy:scope.names.lookup y=some .cell∨scope.names.lookup y=some .free:=hy
  rcases hy with hy | hy
  ·exact absurd rfl (S.nocell _ (PySem.mem_of_lookup hy))
  ·exact C.has y hy
 ·have hi:i<vs.length:=by
   unfold L2.start at h2
   by_cases hi:i<vs.length
   ·exact hi
   ·rw [List.getElem?_append_right (by simpa using hi)] at h2
    rw [List.getElem?_replicate] at h2
    split at h2<;>cases h2
  have ha:vs[i]? =some v:=by
   unfold L2.start at h2
   rw [List.getElem?_append_left (by simpa using hi),List.getElem?_map] at h2
   cases e:vs[i]? with
   | none=>rw [e] at h2;cases h2
   | some a=>rw [e] at h2;cases h2;rfl
  obtain ⟨c,u,k,e,z,r⟩:=C.val i y v h1 ha
  exact ⟨u,r,.inr ⟨.inr k,c,e,(bk _ _ z).1⟩⟩
 ·obtain ⟨v,z⟩:=C.cell y c h
  exact ⟨v,(bk _ _ z).1⟩
 ·obtain ⟨v,z⟩:=C.cell y c h
  exact (bk _ _ z).2
 ·unfold L2.start
  show _=N.length
  rw [List.length_append,List.length_map,List.length_replicate,C.len]
  omega
noncomputable def Rq (oc:Obj)(q:Str):Prop:=∃vs t,oc.data=.fields vs/\vs[1]? =some (.str q t)
theorem E2 {k:Nat}{name:Str}{params:Arguments}{body:Expr}{pm ctv:Value}{a c:Addr}{oc:Obj}{u uc:HO}{vs:List V}{m:Ev}(S:Xk N scope)(C:Yx base N scope cl vs)(hoc:Rq oc qual)
  (hbody:∀(A:Around) (outer:List Env) (s:Shared) (H:Hp) (E:XK),jv k (A.deeper (PySem.W.envX qual scope s.heap.objs.size a (.ref c) cl))->wG (gu P w K mg base N qual scope a (.ref c) cl A outer s H E) s.heap (wK K E)->
   SE (gu P w K mg base N qual scope a (.ref c) cl A outer s H E) (wK K E) body m):
  yc P w K mg base (wj P w) (k+1) a (PySem.W.kla_fn name qual params body scope cl pm (.ref c) ctv) [] (λ us H Q E=>us=[]/\H a=some (.frz (PySem.W.kla_obj name qual params body scope cl pm c ctv) u)/\H c=some (.frz oc uc)/\
   ∃φ A ws,zF K φ A H/\zB K φ H ws vs/\(m (ws.map some) A).post (PB K φ H Q) (EB K φ H (wK K E))):=by
 refine ⟨λ us H Q E h=>by rw [h.1];rfl,λ A outer s H args us vs' Q E hr e0 hb r h=>?_⟩
 obtain ⟨rfl,h1,h2,φ,A1,ws,Sm,rv,hp⟩:=h
 cases r
 have ho:s.heap.get? a=some (PySem.W.kla_obj name qual params body scope cl pm c ctv):=(show qY P w H s.heap a (.frz _ u) from e0.hok a _ h1).1
 have hc:s.heap.get? c=some oc:=(show qY P w H s.heap c (.frz oc uc) from e0.hok c _ h2).1
 have lim:s.heap.NoLimit:=e0.mod.nolimit.keeps λ b o e=>(e0.bs b o e).1
 obtain ⟨vc,tc,hd1,hd2⟩:=hoc
 refine PySem.W.kla_callFunE hr.depth ho rfl S.co S.gen rfl ⟨c,oc,vc,tc,rfl,hc,hd1,hd2⟩ (hb _ _ _ _ ?_)
 refine wpAny_newFunctionEnv S.nocell (λ y hy=>absurd (show y∈([]:List (Str × Value)) from hy) (by simp)) (λ h₁ hns hsb=>⟨lim.fresh _ hsb,?_⟩) S.kind
 show codeAny _ _ (.expr body (PySem.W.envX qual scope s.heap.objs.size a (.ref c) cl)) _ _
 have hk₁:∀b o,s.heap.get? b=some o->h₁.get? b=some o:=λ b o e=>hsb.extBut b o (Nat.ne_of_lt (Heap.lt_size e)) (Heap.get?_push_of_some _ e)
 have I:∀tk,Inv (gu P w K mg base N qual scope a (.ref c) cl A outer s H E) [] (L2.start N vs) H { s with heap:=h₁,toks:=tk }:=λ tk=>IJ S hr.hd e0 C ⟨_,hns⟩ hk₁
 refine PySem.W.kla_codeExpr (wpAny_mono (hbody A outer s H E (hr.deeper _) D9 [] _ (L2.start N vs) H Q (I _) ⟨φ,A1,_,Sm,RE.start (N:=N) rv,?_⟩) (λ v s' hv=>?_) λ _ _ y=>y)
 ·have:N.length - ws.length=0:=by rw [rv.length,C.len];omega
  rw [this,List.replicate_zero,List.append_nil]
  exact hp
 ·obtain ⟨x,H',J,rx,q⟩:=hv
  exact ⟨x,H',J.os,J.bare,J.base,J.hok,rx,q⟩
end
inductive Cf (K:Frag)(a:Addr)(ob:Obj)(u:HO)(c:Addr)(oc:Obj)(uc:HO)(vs:List V)(g:Fn)(us:List V)(H:Hp)(Q:VK)(E:XK):Prop
 | mk (e:us=[]) (h1:H a=some (.frz ob u)) (h2:H c=some (.frz oc uc)) (φ:List Addr) (A:Hx) (ws:List W) (S:zF K φ A H) (r:zB K φ H ws vs) (q:(g ws A).post (PB K φ H Q) (EB K φ H (wK K E)))
noncomputable def Z3 (P:Program)(w:World)(K:Frag)(mg:Str->Option Value)(base:Heap)(j:Nat)(Pk:Obj->Addr->Obj->List V->Prop)(g:Fn):Prop:=
 ∀a ob u c oc uc vs,Pk ob c oc vs->(∃fd,ob.data=.func fd)/\∃fd,yc P w K mg base (wj P w) j a fd [] (Cf K a ob u c oc uc vs g)/\∀s,BindsTo s fd ⟨[],[]⟩ []
open Classical in
noncomputable def KG (i:Nat)(PG:Nat->Obj->Addr->Obj->List V->Prop)(lam:Nat->Fn):Ev:=λ ρ A=>match ρ[i]? with
 | some (some (.clo k ws P))=>if P=PG k then lam k ws A else .bad
 | _=>.bad
noncomputable def JP (i j l:Nat)(cs:List Str)(PG:Nat->Obj->Addr->Obj->List V->Prop)(lam:Nat->Fn):Ex:=λ ρ A=>match KG i PG lam ρ A with
 | .ok _ A1=>.ok (.nx ρ) A1
 | .exc x A1=>if cs.contains x then .ok (.nx (((ρ.set l (some (.xc x))).set j (some (.xc x))).set l none)) A1 else .bad
 | .bad=>.bad
section
variable {K:Frag}{φ:List Addr}{H:Hp}{ρ:En}{σ:St}
theorem RE.unset {i:Nat}(r:RE K φ H ρ σ):RE K φ H (ρ.set i none) (σ.set i none):=
 ⟨by simp [r.len],λ j u e=>by
  by_cases h:i=j
  ·subst h
   have hi:i < ρ.length:=by
    have:=(List.getElem?_eq_some_iff.mp e).1
    simpa using this
   rw [List.getElem?_set_self hi] at e
   cases e
  ·rw [List.getElem?_set_ne h] at e
   obtain ⟨x,h1,h2⟩:=r.get j u e
   exact ⟨x,by rw [List.getElem?_set_ne h];exact h1,h2⟩⟩
end
noncomputable def R9 (K:Frag)(φ:List Addr)(H:Hp)(ρ:En)(j l:Nat)(D0:Ends)(xn:Str)(A':Hx):Prop:=∀φ2 H2 σ2,Le K φ H φ2 H2->zF K φ2 A' H2->RE K φ2 H2 (((ρ.set l (some (.xc xn))).set j (some (.xc xn))).set l none) σ2->D0.nx σ2 H2
inductive CC (K:Frag)(φ:List Addr)(H:Hp)(ρ:En)(j l:Nat)(D0:Ends)(ea C:Addr)(H':Hp):Prop
 | mk (xn:Str) (φ':List Addr) (A':Hx) (le:Le K φ H φ' H') (S:zF K φ' A' H') (rv:RV K φ' H' (.xc xn) (.ref ea)) (n:R9 K φ H ρ j l D0 xn A')
inductive C6 (K:Frag)(φ:List Addr)(H:Hp)(ρ:En)(j l:Nat)(D0:Ends)(cs:List Str)(Cv:Value)(d:Option Addr)(H1:Hp):Prop
 | mk (xn:Str) (Ca:Addr) (e:Cv=.ref Ca) (hC:yj K xn (.ref Ca)) (hc:cs.contains xn=true) (φ1:List Addr) (A1:Hx) (le:Le K φ H φ1 H1) (S:zF K φ1 A1 H1) (n:R9 K φ H ρ j l D0 xn A1)
section
variable {X:Cx}{xr:XR}{L D:Addr}{i j l kk:Nat}{x n y xD:Str}{cs:List Str}{PG:Nat->Obj->Addr->Obj->List V->Prop}{lam:Nat->Fn}{bmD:List Value}{newD:String}{np cp ep dp yp np2 ap hp pos:Pos}
end
noncomputable def R3 (K:Frag)(f:Str->Option Bool)(cv:V):List V->Hp->VK->Prop:=λ xs H Q=>∃x,xs=[x,cv]/\((x=.non/\Q (.bl false) H)∨∃a oe uo C nm b,x=.ref a/\H a=some (.frz oe uo)/\oe.cls=.ref C/\yj K nm (.ref C)/\f nm=some b/\Q (.bl b) H)
structure JB (K:Frag)(f:Str->Option Bool)(c:Value):Prop where
 non:PySem.W.kitOne K (.type "NoneType") c=some false
 exc:∀nm C b,f nm=some b->yj K nm (.ref C)->Jy K C=true/\PySem.W.kitOne K (.ref C) c=some b
noncomputable def qL (f:Str->Option Bool)(m:Ev):Ev:=λ ρ A=>(m ρ A).bind λ w A1=>match w with
 | .non=>.ok (.bl false) A1
 | .xc nm=>(match f nm with
  | some b=>.ok (.bl b) A1
  | none=>.bad)
 | _=>.bad
section
variable {X:Cx}{xr:XR}{e:Expr}{m:Ev}{pos p p':Pos}{f:Str->Option Bool}{x:Str}
theorem Si {cv:V}{c:Value}(hc:JB X.K f c)(rc:∀u,RelV cv u->u=c):jK X (.builtin "isinstance") (R3 X.K f cv):=by
 intro pins s σ H xs us Q I r h
 obtain ⟨x,rfl,h⟩:=h
 obtain ⟨u,u',rfl,ru,ru'⟩:=vals2 r
 cases rc _ ru'
 rcases h with ⟨rfl,q⟩ | ⟨a,oe,uo,C,nm,b,rfl,h1,h2,h3,h4,q⟩
 ·cases (show u=Value.none from ru)
  exact Es I hc.non λ tk=>⟨.bl false,H,I.tok tk,rfl,q⟩
 ·cases (show u=Value.ref a from ru)
  obtain ⟨k1,k2⟩:=hc.exc nm C b h4 h3
  exact Dp I h1 h2 k1 k2 λ tk=>⟨.bl b,H,I.tok tk,rfl,q⟩
theorem qL.read {cv:V}{t2:TE}(h2:∀σ H Q,Q cv H->t2 σ H Q):∀σ H Q,tM X.K xr (qL f m) σ H Q->K4 (R3 X.K f cv) (Ku (tM X.K xr m) (Ku t2 VZ)) σ H Q:=by
 rintro σ H Q ⟨φ,A,ρ,S,re,h⟩
 refine tM.go S re (zX.mp h) λ w A1 φ1 H1 v h1 l1 S1 q1=>?_
 refine h2 σ H1 _ ?_
 cases w with
 | non=>
  obtain rfl:=q1
  exact ⟨.non,rfl,.inl ⟨rfl,h1 φ1 H1 _ l1 S1 rfl⟩⟩
 | xc nm=>
  dsimp only at h1
  cases ef:f nm with
  | none=>rw [ef] at h1;exact h1.elim
  | some b=>
   rw [ef] at h1
   obtain ⟨a,oe,u,C,rfl,z1,z2,z3⟩:=q1
   exact ⟨.ref a,rfl,.inr ⟨a,oe,u,C,nm,b,rfl,z1,z2,z3,ef,h1 φ1 H1 _ l1 S1 rfl⟩⟩
 | bl _=>exact h1.elim
 | int _=>exact h1.elim
 | str _=>exact h1.elim
 | tup _=>exact h1.elim
 | ref _=>exact h1.elim
 | clo _ _ _=>exact h1.elim
end
theorem Om {pos:Pos}{a b:Int}{c cv:Value}(l:List Value)(h:TriplesOk l)(e:codeAmong pos (l++[rawInt a,rawInt b,c])=some cv):codeAmong pos l=some cv∨cv=c:=by
 fun_induction TriplesOk l with
 | case1=>
  right
  simp only [List.nil_append,codeAmong,rawInt] at e
  split at e
  ·exact (Option.some.inj e).symm
  ·cases e
 | case2 a' t b' u x rest ih=>
  simp only [List.cons_append,codeAmong] at e ⊢
  split at e
  ·rename_i hc;rw [if_pos hc];exact .inl e
  ·rename_i hc;rw [if_neg hc];exact ih h e
 | case3 l h1 h2=>exact h.elim
noncomputable def BMain (mg:Str->Option Value)(base:Heap):Prop:=∃bm o,mg "__builtins__" = some (.ref bm)/\bm≠builtinsNs/\bm≠mainGlobals/\base.get? bm=some o/\o.cls=.type "module" /\ o.dict=some builtinsNs/\o.data=.plain
noncomputable def KP (q:Str)(params:Arguments)(body:Expr)(scope:Scope)(clos:List (Str × Addr)):Obj->Addr->Obj->List V->Prop:=λ ob c oc _=>(∃pm ctv,ob=PySem.W.kla_obj "<lambda>" q params body scope clos pm c ctv)/\Rq oc q
noncomputable def kr (n:Nat)(q:Str)(P:Addr)(k:Nat)(PF:Obj->Addr->Obj->List V->Prop):Ev:=λ _ A=>match A[n]? with
 | some (.tab q' P')=>if q'=q/\P'=P then .ok (.clo k [] PF) A else .bad
 | _=>.bad
section
variable {X:Cx}{xr:XR}{n k:Nat}{q:Str}{P c:Addr}{params:Arguments}{body:Expr}{scope:Scope}{clos:List (Str × Addr)}{pos:Pos}
theorem Ez (hB:BMain X.mg X.base)(hcode:X.env.code=.ref c)(C:PySem.W.CodeHd X.base c P)(hcl:closureFor scope X.env=pure clos)(hq:X.env.qual ++ "<lambda>" = q)(hdef:defaultsOf params X.env=([],[]):=by rfl):
  SE X xr (.Lambda params body scope pos) (kr n q P k (KP q params body scope clos)):=by
 intro pins s σ H Q I ⟨φ,A,ρ,S,re,h⟩
 unfold kr at h
 cases ei:A[n]? with
 | none=>rw [ei] at h;exact h.elim
 | some o=>
  rw [ei] at h
  cases o with
  | tab q' P'=>
   dsimp only at h
   by_cases hc:q'=q/\P'=P
   ·rw [if_pos hc] at h
    obtain ⟨rfl,rfl⟩:=hc
    obtain ⟨a,ha,eaP,ps,hH,tg⟩:=S.ob n _ ei
    subst eaP
    have hP:s.heap.get? a=some (PySem.W.tabObj ps):=(show qY X.prog X.w H s.heap a (.tbl ps) from I.hok a _ hH)
    have hg:s.heap.Ns mainGlobals X.mg:=I.mod.glob.keeps I.bk
    have hgP:mainGlobals≠a:=λ z=>by
     obtain ⟨o,es,ep,e,hd,_⟩:=hg
     rw [z,hP] at e;cases e;cases hd
    have hb:s.heap.BuiltinsAt X.mg a:=by
     obtain ⟨bm,o,b1,b2,b3,b4,b5⟩:=hB
     refine ⟨bm,o,b1,b2,b3,λ z=>?_,I.bk _ _ b4,b5⟩
     have:=(I.bs _ _ b4).2
     rw [z,hH] at this;cases this
    refine PySem.W.kla_eval hdef ?_
    rw [hq]
    have noA:∀b,s.heap.objs.size<=b->H b=none:=λ b hb=>I.hok.fresh hb
    cases hf:codeAmong pos ps.toList with
    | none=>
     refine PySem.W.kla_makeFunction (mg:=X.mg) hcl I.ok.glob hg hcode (C.keeps I.bk) hP tg.1 hf hgP hb λ c' ctv h' tk hx hge hlt hrec htb=>?_
     obtain ⟨c2,oc,vc,tc,ec,hoc,hd1,hd2⟩:=hrec
     cases ec
     generalize hob:PySem.W.kla_obj "<lambda>" q' params body scope clos ((X.mg "__name__").getD .none) c' ctv=ob
     have hPc:a<s.heap.objs.size:=Heap.lt_size hP
     have nPc:a≠c':=Nat.ne_of_lt (Nat.lt_of_lt_of_le hPc hge)
     have nPf:a≠h'.objs.size:=Nat.ne_of_lt (Nat.lt_trans (Nat.lt_of_lt_of_le hPc hge) hlt)
     have ncf:c'≠h'.objs.size:=Nat.ne_of_lt hlt
     have hsf:s.heap.objs.size<=h'.objs.size:=Nat.le_trans hge (Nat.le_of_lt hlt)
     have H0c:H c'=none:=noA c' hge
     have H0f:H h'.objs.size=none:=noA _ hsf
     have H1f:upd H c' (.frz oc (.own 0)) h'.objs.size=none:=by rw [qc (Ne.symm ncf)];exact H0f
     generalize hps:ps++#[rawInt pos.line,rawInt pos.col,.ref c']=ps' at htb
     have S1:=S.lay (u:=.frz oc (.own 0)) H0c
     have S2:=S1.lay (u:=.frz ob (.own 0)) H1f
     have fz:∀b o u,upd (upd H c' (.frz oc (.own 0))) h'.objs.size (.frz ob (.own 0)) b=some (.frz o u)->upd (upd (upd H c' (.frz oc (.own 0))) h'.objs.size (.frz ob (.own 0))) a (.tbl ps') b=some (.frz o u):=λ b o u e=>by
      rw [qc];exact e
      intro z
      rw [z,qc nPf,qc nPc,hH] at e
      cases e
     have fz0:∀b o u,H b=some (.frz o u)->upd (upd H c' (.frz oc (.own 0))) h'.objs.size (.frz ob (.own 0)) b=some (.frz o u):=λ b o u e=>by
      rw [qc (yN e H0f),qc (yN e H0c)];exact e
     have tg':JM (upd (upd (upd H c' (.frz oc (.own 0))) h'.objs.size (.frz ob (.own 0))) a (.tbl ps')) q' ps':=by
      rw [<- hps]
      refine ⟨by rw [Array.toList_append];exact TriplesOk_snoc _ _ _ _ tg.1,λ pos' cv e=>?_⟩
      rw [Array.toList_append] at e
      rcases Om _ tg.1 e with e | e
      ·obtain ⟨c0,oc0,u0,vs0,t0,g1,g2,g3⟩:=tg.2 pos' cv e
       exact ⟨c0,oc0,u0,vs0,t0,g1,by rw [hps];exact fz _ _ _ (fz0 _ _ _ g2),g3⟩
      ·exact ⟨c',oc,.own 0,vc,tc,e,by rw [hps];exact fz _ _ _ (by rw [qc ncf,jw]),hd1,hd2⟩
     obtain ⟨l3,S3⟩:=S2.write (o:=.tab q' a) (o':=.tab q' a) ei rfl rfl ha (u:=.tbl ps') ⟨rfl,ps',jw,tg'⟩
     have l03:Le X.K φ H φ _:=((Le.new H0c).trans (Le.new H1f)).trans l3
     have set3:A.set n (.tab q' a)=A:=by
      apply List.ext_getElem?
      intro i
      by_cases hi:n=i
      ·subst hi
       rw [List.getElem?_set_self (List.getElem?_eq_some_iff.mp ei).1,ei]
      ·rw [List.getElem?_set_ne hi]
     rw [set3] at S3
     have eP:upd (upd (upd H c' (.frz oc (.own 0))) h'.objs.size (.frz ob (.own 0))) a (.tbl ps') a=some (.tbl ps'):=jw
     have ec:upd (upd (upd H c' (.frz oc (.own 0))) h'.objs.size (.frz ob (.own 0))) a (.tbl ps') c'=some (.frz oc (.own 0)):=by rw [qc (Ne.symm nPc),qc ncf,jw]
     have ef:upd (upd (upd H c' (.frz oc (.own 0))) h'.objs.size (.frz ob (.own 0))) a (.tbl ps') h'.objs.size=some (.frz ob (.own 0)):=by rw [qc (Ne.symm nPf),jw]
     have eo:∀b,b≠a->b≠c'->b≠h'.objs.size->upd (upd (upd H c' (.frz oc (.own 0))) h'.objs.size (.frz ob (.own 0))) a (.tbl ps') b=H b:=λ b n1 n2 n3=>by rw [qc n1,qc n3,qc n2]
     generalize upd (upd (upd H c' (.frz oc (.own 0))) h'.objs.size (.frz ob (.own 0))) a (.tbl ps')=H3 at S3 l03 eP ec ef eo
     have kp:∀b o,b≠a->s.heap.get? b=some o->(h'.push ob).get? b=some o:=λ b o n e=>Heap.get?_push_of_some _ (hx b o n e)
     have old:∀b o,s.heap.get? b=some o->b≠c'/\b≠h'.objs.size:=λ b o e=>⟨Nat.ne_of_lt (Nat.lt_of_lt_of_le (Heap.lt_size e) hge),Nat.ne_of_lt (Nat.lt_of_lt_of_le (Heap.lt_size e) hsf)⟩
     have nH:∀b u,H b=some u->b≠c'/\b≠h'.objs.size:=λ b u e=>⟨yN e H0c,yN e H0f⟩
     have gP:(h'.push ob).get? a=some (PySem.W.tabObj ps'):=Heap.get?_push_of_some _ htb
     have I3:Inv X pins σ H3 { s with heap:=h'.push ob,toks:=tk }:=by
      refine I.un ⟨λ b o e z hb _=>?_,λ b o e z hb _=>?_,λ b o e z _=>?_,λ b o e _=>?_,λ b xs e=>?_,λ b o u e=>?_,λ b qs e=>?_⟩ λ b u e=>?_
      ·exact kp b o (λ w=>by rw [w,hH] at z;cases z) e
      ·exact ⟨o.slots,kp b o (λ w=>by rw [w,hH] at z;cases z) e⟩
      ·rw [eo b (λ w=>by rw [w,hH] at z;cases z) (old b o e).1 (old b o e).2];exact z
      ·by_cases hb:b=a
       ·rw [hb];exact ⟨_,gP⟩
       ·exact ⟨o,kp b o hb e⟩
      ·rw [eo b (JC e hH (by intro w;cases w)) (nH b _ e).1 (nH b _ e).2];exact e
      ·rw [eo b (JC e hH (by intro w;cases w)) (nH b _ e).1 (nH b _ e).2];exact e
      ·by_cases hb:b=a
       ·subst hb
        rw [hH] at e;cases e
        exact ⟨_,by rw [eP,<- hps]⟩
       ·exact ⟨#[],by rw [eo b hb (nH b _ e).1 (nH b _ e).2,e];simp⟩
      ·by_cases h1:b=a
       ·subst h1
        rw [eP] at e;cases e
        exact gP
       ·by_cases h2:b=c'
        ·subst h2
         rw [ec] at e;cases e
         exact ⟨Heap.get?_push_of_some _ hoc,⟨_,Heap.get?_push_of_some _ hoc⟩⟩
        ·by_cases h3:b=h'.objs.size
         ·subst h3
          rw [ef] at e;cases e
          exact ⟨Heap.get?_push_size _ (by rw [<- hob];rfl),⟨_,Heap.get?_push_size _ (by rw [<- hob];rfl)⟩⟩
         ·rw [eo b h1 h2 h3] at e
          refine (I.hok b u e).stay (λ d v hd z=>kp d v ?_ z) (λ d z=>?_) λ d xs z=>?_
          ·rcases hd with w | w
           ·rw [w];exact h1
           ·exact JC w hH (by intro w;cases w)
          ·rw [eo d (JC z hH (by intro w;cases w)) (nH d _ z).1 (nH d _ z).2];exact z
          ·rw [eo d (JC z hH (by intro w;cases w)) (nH d _ z).1 (nH d _ z).2];exact z
     exact ⟨.ref h'.objs.size,H3,I3,rfl,h φ H3 _ l03 S3 ⟨h'.objs.size,ob,.own 0,c',oc,.own 0,[],rfl,ef,ec,⟨⟨_,_,hob.symm⟩,vc,tc,hd1,hd2⟩,rfl⟩⟩
    | some cv=>
     obtain ⟨c',oc,u0,vc,tc,rfl,hHc,hd1,hd2⟩:=tg.2 pos cv hf
     refine PySem.W.kla_makeFunctionHit (mg:=X.mg) hcl I.ok.glob hg hcode (C.keeps I.bk) hP tg.1 hf hb λ ctv h' tk hx hsz=>?_
     generalize hob:({ cls:=.type "function",data:=.func (PySem.W.kla_fn "<lambda>" q' params body scope clos ((X.mg "__name__").getD .none) (.ref c') ctv) }:Obj)=ob
     have H0f:H h'.objs.size=none:=noA _ hsz
     have I3:Inv X pins σ (upd H h'.objs.size (.frz ob (.own 0))) { s with heap:=h'.push ob,toks:=tk }:=
      I.laid (λ b o e=>Heap.get?_push_of_some _ (hx b o e)) hsz ⟨Heap.get?_push_size _ (by rw [<- hob];rfl),⟨_,Heap.get?_push_size _ (by rw [<- hob];rfl)⟩⟩
     refine ⟨.ref h'.objs.size,_,I3,rfl,h φ _ _ (Le.new H0f) (S.lay H0f) ⟨h'.objs.size,ob,.own 0,c',oc,u0,[],rfl,jw,?_,⟨⟨_,_,hob.symm⟩,vc,tc,hd1,hd2⟩,rfl⟩⟩
     rw [qc (yN hHc H0f)];exact hHc
   ·rw [if_neg hc] at h;exact h.elim
  | _=>exact h.elim
end
section
variable {K:Frag}{X:Cx}{pos:Pos}
end
structure Lm where
 N:List Str
 idx:List Nat
 params:Arguments
 body:Expr
 scope:Scope
 m:Ev
noncomputable def gi:List Nat->En->Option (List W)
 | [],_=>some []
 | j::js,ρ=>match ρ[j]?,gi js ρ with
  | some (some w),some ws=>some (w::ws)
  | _,_=>none
noncomputable def gW:List Nat->St->Option (List V)
 | [],_=>some []
 | j::js,σ=>match σ[j]?,gW js σ with
  | some (some w),some ws=>some (w::ws)
  | _,_=>none
theorem Tw {K:Frag}{φ:List Addr}{H:Hp}{ρ:En}{σ:St}(r:RE K φ H ρ σ):∀{js:List Nat} {ws:List W},gi js ρ=some ws->∃vs,gW js σ=some vs/\zB K φ H ws vs
 | [],ws,e=>by cases e;exact ⟨[],rfl,.nil⟩
 | j::js,ws,e=>by
  unfold gi at e
  cases ej:ρ[j]? with
  | none=>rw [ej] at e;cases e
  | some ow=>cases ow with
   | none=>rw [ej] at e;cases e
   | some w=>
    rw [ej] at e
    cases er:gi js ρ with
    | none=>rw [er] at e;cases e
    | some ws'=>
     rw [er] at e
     cases e
     obtain ⟨v,h1,h2⟩:=r.get j w ej
     obtain ⟨vs,h3,h4⟩:=Tw r er
     exact ⟨v::vs,by unfold gW;rw [h1,h3],.cons h2 h4⟩
theorem T7 {σ:St}:∀{js:List Nat} {vs:List V},gW js σ=some vs->vs.length=js.length/\∀(i:Nat) (v:V),vs[i]? =some v->∃j,js[i]? =some j/\σ[j]? =some (some v)
 | [],vs,e=>by cases e;exact ⟨rfl,λ i v h=>by simp at h⟩
 | j::js,vs,e=>by
  unfold gW at e
  cases ej:σ[j]? with
  | none=>rw [ej] at e;cases e
  | some ow=>cases ow with
   | none=>rw [ej] at e;cases e
   | some w=>
    rw [ej] at e
    cases er:gW js σ with
    | none=>rw [er] at e;cases e
    | some ws'=>
     rw [er] at e
     cases e
     obtain ⟨h1,h2⟩:=T7 er
     refine ⟨by simp [h1],λ i v h=>?_⟩
     cases i with
     | zero=>simp at h;subst h;exact ⟨j,by simp,ej⟩
     | succ i=>simp at h;obtain ⟨j',a,b⟩:=h2 i v h;exact ⟨j',by simpa using a,b⟩
noncomputable def yn (ls:List Lm)(k:Nat):Fn:=λ ws A=>match ls[k]? with
 | some t=>t.m (ws.map some) A
 | none=>.bad
noncomputable def kM (env:Env)(q:Str)(ls:List Lm)(k:Nat):Obj->Addr->Obj->List V->Prop:=λ ob c oc vs=>∃t,ls[k]? =some t/\KP q t.params t.body t.scope (yy env t.scope.names []) ob c oc vs
noncomputable def QX (env:Env)(q:Str)(ls:List Lm)(σ:St)(k:Nat):Obj->Addr->Obj->List V->Prop:=λ ob c oc vs=>∃t,ls[k]? =some t/\KP q t.params t.body t.scope (yy env t.scope.names []) ob c oc vs/\gW t.idx σ=some vs
structure ZD (P:Program)(w:World)(K:Frag)(mg:Str->Option Value)(j:Nat)(q:Str)(t:Lm):Prop where
 sc:Xk t.N t.scope
 bind:∀(cl:List (Str × Addr)) (pm cdv ctv:Value),bindArgs (PySem.W.kla_fn "<lambda>" q t.params t.body t.scope cl pm cdv ctv) ⟨[],[]⟩=pure []
 body:∀(base:Heap) (cl:List (Str × Addr)) (a c:Addr) (A:Around) (outer:List Env) (s:Shared) (H:Hp) (E:XK),jv j (A.deeper (PySem.W.envX q t.scope s.heap.objs.size a (.ref c) cl))->wG (gu P w K mg base t.N q t.scope a (.ref c) cl A outer s H E) s.heap (wK K E)->
  SE (gu P w K mg base t.N q t.scope a (.ref c) cl A outer s H E) (wK K E) t.body t.m
section
variable {P:Program}{w:World}{K:Frag}{mg:Str->Option Value}{base:Heap}{j:Nat}{q:Str}{ls:List Lm}{env:Env}{σ:St}
theorem FR (hl:∀t∈ls,ZD P w K mg j q t)(hc:∀t∈ls,∀vs,gW t.idx σ=some vs->Yx base t.N t.scope (yy env t.scope.names []) vs)(k:Nat):Z3 P w K mg base (j+1) (QX env q ls σ k) (yn ls k):=by
 rintro a ob u c oc uc vs ⟨t,ht,⟨⟨pm,ctv,rfl⟩,hoc⟩,hv⟩
 have mt:t∈ls:=List.mem_of_getElem? ht
 have L:=hl t mt
 refine ⟨⟨_,rfl⟩,_,((E2 (name := "<lambda>") (params:=t.params) (body:=t.body) (pm:=pm) (ctv:=ctv) (a:=a) (c:=c) (u:=u) (uc:=uc) (m:=t.m) L.sc (hc t mt vs hv) hoc λ A outer s H E hr xo=>L.body base _ a c A outer s H E hr xo)).imp λ us H Q E h=>?_,λ s=>.of_eq (L.bind _ _ _ _)⟩
 obtain ⟨h1,h2,h3,φ,A,ws,S,r,h⟩:=h
 refine ⟨h1,h2,h3,φ,A,ws,S,r,?_⟩
 unfold yn at h
 rw [ht] at h
 exact h
end
noncomputable abbrev jy:=Nat->Obj->Addr->Obj->List V->Prop
open Classical in
noncomputable def ZC (PG:jy)(RF:Nat->List W->Hx->R W):Fn:=λ us A=>match us with
 | [.clo k ws P]=>if P=PG k then RF k ws A else .bad
 | _=>.bad
open Classical in
structure JK (X:Cx)(t:Lm):Prop where
 len:t.idx.length=t.N.length
 nm:∀(i:Nat) (x:Str) (j:Nat),t.N[i]? =some x->t.idx[i]? =some j->X.N[j]? =some x/\t.scope.names.lookup x=some .free
 free:∀y∈t.scope.names,y.2=.free->X.env.kindOf y.1=some .cell∨X.env.kindOf y.1=some .free
section
variable {X:Cx}{pins:List (Addr × Obj)}{σ:St}{H:Hp}{s:Shared}
theorem YC (I:Inv X pins σ H s){t:Lm}(L:JK X t){x:Str}{c:Addr}(h:(yy X.env t.scope.names []).lookup x=some c):X.env.cells.lookup x=some c:=by
 rcases ZL _ _ (PySem.mem_of_lookup h) with z | ⟨z,e⟩
 ·cases z
 ·obtain ⟨c',hc⟩:=I.ok.has x (L.free _ z rfl)
  rw [hc] at e ⊢
  exact congrArg some e.symm
theorem Lb (I:Inv X pins σ H s){base:Heap}(hb:∀x c v,X.env.cells.lookup x=some c->s.heap.IsCell c v->base.IsCell c v){t:Lm}(L:JK X t){vs:List V}(hv:gW t.idx σ=some vs):Yx base t.N t.scope (yy X.env t.scope.names []) vs:=by
 obtain ⟨v1,v2⟩:=T7 hv
 refine ⟨v1.trans L.len,λ x y c h1 h2=>I.ok.inj x y c (YC I L h1) (YC I L h2),λ x h=>?_,λ x c h=>?_,λ i x v h1 h2=>?_⟩
 ·exact Option.isSome_iff_exists.mp (Yn _ _ (.inl (PySem.mem_of_lookup h)))
 ·have e:=YC I L h
  obtain ⟨v,z⟩:=I.cell x c e
  exact ⟨v,hb x c v e z⟩
 ·obtain ⟨j,e1,e2⟩:=v2 i v h2
  obtain ⟨e3,e4⟩:=L.nm i x j h1 e1
  have fr:=L.free _ (PySem.mem_of_lookup e4) rfl
  obtain ⟨m,hn,hl⟩:=I.loc
  obtain ⟨u,r,lk⟩:=hl j x v e3 e2 (.inr fr)
  obtain ⟨c,hc⟩:=Option.isSome_iff_exists.mp (Yn (env:=X.env) t.scope.names [] (.inl (PySem.mem_of_lookup e4)))
  have ec:=YC I L hc
  rcases lk with ⟨z,_⟩ | ⟨_,c',hc',cell⟩
  ·exfalso
   rcases fr with k | k<;>(rw [k] at z;cases z)
  ·rw [ec] at hc'
   cases hc'
   exact ⟨c,u,e4,hc,hb x c _ ec cell,r⟩
theorem IX (I:Inv X pins σ H s)(hfn:∀x,X.fn x=true){x:Str}{c:Addr}(e:X.env.cells.lookup x=some c):c∉ql X.stack:=λ hm=>by
 rcases List.mem_cons.mp (I.stkSub c hm) with z | z
 ·exact I.cne x c e z
 ·obtain ⟨_,o,ho,_⟩:=I.ok.funs.mem z
  exact absurd (Nat.lt_of_lt_of_le (Heap.lt_size ho) (I.ok.cab x c (hfn x) e)) (Nat.lt_irrefl _)
noncomputable def gh (base h:Heap)(cells:List (Str × Addr)):Heap:=PySem.W.hideAll h ((List.range h.objs.size).filter λ b=>(base.get? b).isNone&&!(cells.any λ p=>cells.lookup p.1==some b))
theorem TR {base h:Heap}{cells:List (Str × Addr)}{b:Addr}{o:Obj}(e:(gh base h cells).get? b=some o):h.get? b=some o/\((∃o',base.get? b=some o')∨∃x,cells.lookup x=some b):=by
 have e1:=PySem.W.of_hideAll _ e
 refine ⟨e1,?_⟩
 by_cases hm:b∈(List.range h.objs.size).filter λ b=>(base.get? b).isNone&&!(cells.any λ p=>cells.lookup p.1==some b)
 ·unfold gh at e
  rw [PySem.W.hideAll_none _ hm] at e
  cases e
 ·rw [List.mem_filter] at hm
  have hb:b∈List.range h.objs.size:=List.mem_range.mpr (Heap.lt_size e1)
  cases hg:base.get? b with
  | some o'=>exact .inl ⟨o',rfl⟩
  | none=>
   right
   by_cases hc:(cells.any λ p=>cells.lookup p.1==some b)=true
   ·obtain ⟨p,_,hp⟩:=List.any_eq_true.mp hc
    exact ⟨p.1,beq_iff_eq.mp hp⟩
   ·exact absurd ⟨hb,by rw [hg];simpa using hc⟩ hm
theorem Ny {base h:Heap}{cells:List (Str × Addr)}(k:∀b o,base.get? b=some o->h.get? b=some o){b:Addr}{o:Obj}(e:base.get? b=some o):(gh base h cells).get? b=some o:=
 PySem.W.hideAll_get _ (k b o e) λ hm=>by
  rw [List.mem_filter,e] at hm
  simp at hm
theorem NF {base h:Heap}{cells:List (Str × Addr)}{x:Str}{c:Addr}{o:Obj}(l:cells.lookup x=some c)(e:h.get? c=some o):(gh base h cells).get? c=some o:=
 PySem.W.hideAll_get _ e λ hm=>by
  rw [List.mem_filter,Bool.and_eq_true,Bool.not_eq_true'] at hm
  have:=hm.2.2
  rw [List.any_eq_false] at this
  exact this _ (PySem.mem_of_lookup l) (by simpa using l)
variable {H3:Hp}{s3:Shared}{fp:List Addr}{N:List Str}{sc:Scope}{ls:List Lm}{j kk i:Nat}{q x f:Str}{ρ0:En}{RF:Nat->List W->Hx->R W}{p p2 pos:Pos}
end
section
variable {X:Cx}{xr:XR}{N:List Str}{sc:Scope}{ls:List Lm}{j kk i nl:Nat}{q x f:Str}{RF:Nat->List W->Hx->R W}{p p2 p3 p4 pos:Pos}{iter:Expr}{mi:Ei}{tw:Tg}
end
theorem NQ {P:Program}{w:World}{K:Frag}{mg mb:Str->Option Value}{k:Nat}{fa a Pt:Addr}{fd:FuncData}{x:Str}{sp:Sp}{s₁:Shared}{vs:List Value}{ns:List Int}
  (KX:K.In s₁.heap)(hns:s₁.heap.Ns mainGlobals mg)(hb:s₁.heap.Ns builtinsNs mb)(hbb:∀x:Str,x ≠ "__name__" -> mb x=bootBuiltins x)(hlim:s₁.heap.NoLimit)(hg:s₁.gens=#[])
  (ha:s₁.heap.get? a=some { cls:=.type "list",data:=.seq vs.toArray })(hi:IntsAre vs ns)(hl:ns.length<=sizeLine)(hr:jv k callerA)
  (hPt:s₁.heap.get? Pt=some (PySem.W.tabObj #[]))(hKP:K.lookup Pt=none)(hct:isCodeTable s₁.heap Pt)(hbm:BMain mg s₁.heap)
  (F:∀base:Heap,K.In base->base.Ns mainGlobals mg->BMain mg base->yc P w K mg base we k fa fd [x] sp)(hbind:∀(s:Shared) (u:Value),BindsTo s fd ⟨[u],[]⟩ [(x,u)])
  (hsp:∀H:Hp,H Pt=some (.tbl #[])->Q0 K H a (ns.map V.int)->sp [.ref a] H (λ v _=>v=.bl true) λ _ _ _=>False):
  codeAny (model P w) callerA (.call (.ref fa) ⟨[.ref a],[]⟩) (λ r s'=>r=.ok (.ret (.bool true))/\OldK s₁.heap s'.heap/\s'.os=s₁.os/\AllBare s'.gens) s₁:=by
 have rv:=Je hi
 have lenV:=hi.length
 have naP:a≠Pt:=λ z=>by rw [z,hPt] at ha;cases ha
 have core:∀H:Hp,H Pt=some (.tbl #[])->Q0 K H a (ns.map V.int)->jI P w H s₁.heap->(∀b,H b≠none->b=a∨b=Pt)->(∀u,H a=some u->K.lookup a=none/\∃o xs,u=.frz o (.lst xs))->
   codeAny (model P w) callerA (.call (.ref fa) ⟨[.ref a],[]⟩) (λ r s'=>r=.ok (.ret (.bool true))/\OldK s₁.heap s'.heap/\s'.os=s₁.os/\AllBare s'.gens) s₁:=by
  intro H hO hS hok hA hK
  have base_of:∀{b:Addr} {o:Obj},s₁.heap.get? b=some o->H b=none->(gn s₁.heap H).get? b=some o:=λ e n=>Iu e n
  have noA:∀{b:Addr} {o:Obj} {es:Array DictEntry} {ep:Nat},s₁.heap.get? b=some o->o.data=.dict es ep->H b=none:=λ {b o es ep} e d=>by
   cases q:H b with
   | none=>rfl
   | some u=>
    rcases hA b (by rw [q];simp) with z | z
    ·subst z
     rw [ha] at e;cases e
     have d':Data.seq vs.toArray _=Data.dict es ep:=d
     cases d'
    ·subst z
     rw [hPt] at e;cases e
     cases d
  have nsK:∀{b:Addr} {m:Str->Option Value},s₁.heap.Ns b m->(gn s₁.heap H).Ns b m:=λ {b m} ⟨o,es,ep,e,d,r⟩=>⟨o,es,ep,base_of e (noA e d),d,r⟩
  have hKb:K.In (gn s₁.heap H):=λ b o e=>base_of (KX b o e) (by
   cases q:H b with
   | none=>rfl
   | some u=>
    rcases hA b (by rw [q];simp) with z | z
    ·subst z
     rw [(hK u q).1] at e;cases e
    ·subst z
     rw [hKP] at e;cases e)
  have hBb:BMain mg (gn s₁.heap H):=by
   obtain ⟨bm,o,b1,b2,b3,b4,b5,b6,b7⟩:=hbm
   refine ⟨bm,o,b1,b2,b3,base_of b4 ?_,b5,b6,b7⟩
   cases q:H bm with
   | none=>rfl
   | some u=>
    rcases hA bm (by rw [q];simp) with z | z
    ·subst z
     rw [ha] at b4;cases b4
     exact absurd b5 (by intro q;injection q with q;exact absurd q (by decide))
    ·subst z
     rw [hPt] at b4;cases b4;cases b5
  have hM:Mod K mg (gn s₁.heap H):=⟨hKb,nsK hns,⟨mb,nsK hb,hbb⟩,let ⟨mc,h1,h2⟩:=hlim;⟨mc,nsK h1,h2⟩⟩
  have e0:QU P w K mg (gn s₁.heap H) callerA [] s₁ H:=⟨rfl,hM,λ b o e=>HU e,Nat.le_of_eq (N6 _ _),trivial,λ b hb=>absurd (show b∈([]:List Addr) from hb) (by simp),hok,.of_eq hg⟩
  refine codeAny_mono ((F _ hKb (nsK hns) hBb).run callerA [] s₁ H ⟨[.ref a],[]⟩ [.ref a] [.ref a] _ _ hr e0 (hbind s₁ (.ref a)) (.cons rfl .nil) (hsp H hO hS)) λ r s' h=>?_
  cases r with
  | error e=>exact False.elim h
  | ok fl=>
   cases fl with
   | next=>exact False.elim h
   | brk=>exact False.elim h
   | cont=>exact False.elim h
   | ret u=>
    obtain ⟨v,H',os,bare,un,hok',r',q⟩:=h
    have q':v=.bl true:=q
    subst q'
    obtain rfl:u=Value.bool true:=r'
    refine ⟨rfl,⟨λ b o e=>?_,λ b o e=>un.there b o e (by simp)⟩,os,bare⟩
    cases q:H b with
    | none=>exact .inl (un.keep b o e q (by intro z;exact absurd (show b∈([]:List Addr) from z) (by simp)) (by simp))
    | some u=>
     rcases hA b (by rw [q];simp) with z | z
     ·subst z
      obtain ⟨ob,xs,rfl⟩:=(hK u q).2
      have z2:=un.frzs _ ob _ q
      obtain ⟨e1,_⟩:=hok _ _ q
      obtain ⟨e2,_⟩:=hok' _ _ z2
      rw [e] at e1;cases e1
      exact .inl e2
     ·subst z
      rw [hPt] at e;cases e
      obtain ⟨more,z2⟩:=un.tbls _ _ hO
      exact .inr (.inl ⟨hct,rfl,#[],more,rfl,hok' _ _ z2⟩)
 cases hk:K.lookup a with
 | some o=>
  have e:=KX a o hk
  rw [ha] at e
  cases e
  refine core (λ b=>if b=Pt then some (.tbl #[]) else none) (if_pos rfl) (.inr ⟨_,vs.toArray,_,hk,rfl,rfl,rfl,by rw [List.size_toArray,lenV];exact hl,by simpa using rv⟩) (λ b u z=>?_) (λ b z=>?_) λ u z=>?_
  ·by_cases hb:b=Pt
   ·have z':=(if_pos hb).symm.trans z
    cases z'
    rw [hb]
    exact hPt
   ·have z':=(if_neg hb).symm.trans z
    cases z'
  ·by_cases hb:b=Pt
   ·exact .inr hb
   ·exact absurd (if_neg hb) z
  ·have z':=(if_neg naP).symm.trans z
   cases z'
 | none=>
  refine core (λ b=>if b=Pt then some (.tbl #[]) else if b=a then some (.frz { cls:=.type "list",data:=.seq vs.toArray } (.lst (ns.map V.int))) else none) (if_pos rfl)
   (.inl ⟨{ cls:=.type "list",data:=.seq vs.toArray },(if_neg naP).trans (if_pos rfl)⟩) (λ b u z=>?_) (λ b z=>?_) λ u z=>?_
  ·by_cases hb:b=Pt
   ·have z':=(if_pos hb).symm.trans z
    cases z'
    rw [hb]
    exact hPt
   ·have z':=(if_neg hb).symm.trans z
    by_cases hb2:b=a
    ·have z2:=(if_pos hb2).symm.trans z'
     cases z2
     subst hb2
     exact ⟨ha,by rw [List.length_map];exact hl,vs,_,rv,ha⟩
    ·have z2:=(if_neg hb2).symm.trans z'
     cases z2
  ·by_cases hb:b=Pt
   ·exact .inr hb
   ·by_cases hb2:b=a
    ·exact .inl hb2
    ·exact absurd ((if_neg hb).trans (if_neg hb2)) z
  ·have z':=((if_neg naP).trans (if_pos rfl)).symm.trans z
   cases z'
   exact ⟨hk,_,_,rfl⟩
inductive spT (K:Frag)(n:Nat)(fs:jy->Fn)(vs:List V)(H:Hp)(Q:VK)(E:XK):Prop
 | mk (len:vs.length=n) (φ:List Addr) (A:Hx) (ws:List W) (S:zF K φ A H) (r:zB K φ H ws vs) (q:∀PF,(fs PF ws A).post (PB K φ H Q) (EB K φ H (XE K E)))
theorem spT.len {K:Frag}{n:Nat}{fs:jy->Fn}{vs:List V}{H:Hp}{Q:VK}{E:XK}(h:spT K n fs vs H Q E):vs.length=n:=by cases h;assumption
noncomputable def Ro (q:Str)(fs:Addr->jy->Fn):Prop:=∀ns:List Int,ns.length<=63->∀Pt PF,∃A,fs Pt PF [.ref 0] [.ro (ns.map W.int),.tab q Pt]=.ok (.bl true) A
theorem NC {K:Frag}{H:Hp}{a Pt:Addr}{q:Str}{ns:List Int}(hP:H Pt=some (.tbl #[]))(hS:Q0 K H a (ns.map V.int)):zF K [a,Pt] [.ro (ns.map W.int),.tab q Pt] H:=by
 refine ⟨rfl,λ i j b o o' h1 h2 h3 h4 m1 m2=>?_,λ n o h=>?_⟩
 ·match i,j,h3,h4 with
  | 0,_,h3,_=>simp at h3;subst h3;cases m1
  | _,0,_,h4=>simp at h4;subst h4;cases m2
  | 1,1,_,_=>rfl
  | i+2,_,h3,_=>simp at h3
  | _,j+2,_,h4=>simp at h4
 ·match n,h with
  | 0,h=>simp at h;subst h;exact ⟨a,rfl,ns.map V.int,hS,zB.ints.mpr rfl⟩
  | 1,h=>simp at h;subst h;exact ⟨Pt,rfl,rfl,#[],hP,trivial,λ pos cv e=>nomatch e⟩
  | n+2,h=>simp at h
section
variable {P:Program}{w:World}{K:Frag}{mg:Str->Option Value}{base:Heap}
theorem Lq {x:Str}{f c Pt:Addr}{oc:Value}{od:Option Addr}{fd:FuncData}{osl:Array (Option Value)}(hn:PySem.W.nsIn K mainGlobals x=some (some (.ref f)))(lk:K.lookup f=some ⟨oc,od,.func fd,osl⟩)(ht:PySem.W.tabIn K x=some (c,Pt)):fd.code=.ref c:=by
 unfold PySem.W.tabIn at ht
 rw [hn] at ht
 dsimp only at ht
 rw [lk] at ht
 dsimp only at ht
 split at ht
 ·rename_i c2 hc
  split at ht
  ·split at ht
   ·cases ht;exact hc
   ·cases ht
  ·cases ht
 ·cases ht
end
noncomputable def XO (K:Frag)(x:Str)(Pt:Addr):Bool:=match PySem.W.tabIn K x with
 | some (c,P)=>P==Pt&&PySem.W.codeHdIn K c Pt
 | none=>false
theorem Tv {K:Frag}{x:Str}{Pt:Addr}(h:XO K x Pt=true):∃c,PySem.W.tabIn K x=some (c,Pt)/\PySem.W.codeHdIn K c Pt=true:=by
 unfold XO at h
 split at h
 ·rename_i c P e
  rw [Bool.and_eq_true,beq_iff_eq] at h
  obtain ⟨rfl,h2⟩:=h
  exact ⟨c,e,h2⟩
 ·cases h
theorem Cq {l:PySem.W.OpenLaw}{k:Nat}{q:Program}{loose:List Str}{XP:(Str->Option Value)->Heap->Prop}{YP:World->Heap->Prop}{d:DefRec}{Kp:Params->Frag}{x qn:Str}{fs:Addr->jy->Fn}{Pt:Addr}(ok:Ro qn fs)
  (hn:l.most=some 63)(hdf:d.params.defaults=[])(hr:jv k callerA)(hY:∀(w:World) (h:Heap),YP w h->(Kp w.params).In h)(hT:∀(w:World) (h:Heap),YP w h->h.get? Pt=some (PySem.W.tabObj #[]))(ht:∀p,XO (Kp p) d.name Pt=true)(hKP:∀p,(Kp p).lookup Pt=none)
  (F:∀(w:World) (mg:Str->Option Value) (fa:Addr) (h:Heap),(Kp w.params).In h->h.Ns mainGlobals mg->mg d.name=some (.ref fa)->(∃c,PySem.W.tabIn (Kp w.params) d.name=some (c,Pt)/\PySem.W.codeHdIn (Kp w.params) c Pt=true)->
   ∃fd:FuncData,(∀(s:Shared) (u:Value),BindsTo s fd ⟨[u],[]⟩ [(x,u)])/\∀base:Heap,(Kp w.params).In base->base.Ns mainGlobals mg->BMain mg base->yc l.prog w (Kp w.params) mg base we k fa fd [x] (spT (Kp w.params) 1 (fs Pt))):
  PySem.W.WalkO q loose XP YP l.row.toRowW d [] (λ f vs=>PySem.call f vs):=by
 refine Att.Ng (n:=63) hn hdf λ w s₀ s₁ mg mb fa o pm cd doc a vs ns G Y ho hd hcd' hmg hobj hints hlen hg=>?_
 have KX:=hY w _ Y
 obtain ⟨fd,hb,hF⟩:=F w mg fa _ KX G.T.g hmg (Tv (ht w.params))
 obtain ⟨c,_,hcd⟩:=Tv (ht w.params)
 have hP:=hT w _ Y
 have hc:isCodeTable s₁.heap Pt:=((PySem.W.codeHd_of_K KX hcd).tab hP).isCodeTable
 have hbm:BMain mg s₁.heap:=by
  obtain ⟨bm,ob,b1,b2,b3,b4,b5,b6⟩:=G.T.bmain
  refine ⟨bm,ob,b1,b2,λ z=>?_,b3,b4,b5,b6⟩
  obtain ⟨o,es,ep,e,hd,_⟩:=G.T.g
  rw [z,e] at b3;cases b3;rw [hd] at b6;cases b6
 refine NQ KX G.T.g G.T.b G.T.builtins G.T.nolimit hg hobj hints (Nat.le_trans hlen (by decide)) hr hP (hKP w.params) hc hbm hF hb λ H h1 h2=>?_
 refine ⟨rfl,[a,Pt],[.ro (ns.map W.int),.tab qn Pt],[.ref 0],NC h1 h2,.one ⟨a,rfl,rfl⟩,λ PF=>?_⟩
 obtain ⟨A,e⟩:=ok ns hlen Pt PF
 rw [e]
 exact λ φ' H' v _ _ r=>r
theorem jE.m {P:Program}{w:World}{K:Frag}{mg:Str->Option Value}{base:Heap}{k n:Nat}{x:Str}{f:Fn}(F:jE P w K mg base k x n f):zE P w K mg base k x n λ ws A=>(f ws A).nox:=by
 obtain ⟨fa,fd,ps,F,hm,hk,hb⟩:=F
 have up:∀vs H Q E,JU K n (λ ws A=>(f ws A).nox) vs H Q E->K1 K n f vs H Q (λ _ _ _=>False):=λ vs H Q E ⟨hl,φ,A,ws,S,r,h⟩=>⟨hl,φ,A,ws,S,r,by
  cases er:f ws A with
  | ok u A1=>(try dsimp only at h);rw [er] at h;exact h
  | exc y A1=>(try dsimp only at h);rw [er] at h;exact h.elim
  | bad=>(try dsimp only at h);rw [er] at h;exact h.elim⟩
 refine ⟨fa,fd,ps,⟨λ vs H Q E h=>F.len vs H Q _ (up vs H Q E h),λ A outer s H args us vs Q E hr he hbt hv h=>?_⟩,hm,hk,hb⟩
 refine codeAny_mono (F.run A outer s H args us vs Q _ hr he hbt hv (up vs H Q E h)) λ r s' h'=>?_
 cases r with
 | error e=>
  unfold CR at h'
  obtain ⟨_,_,_,_,_,_,_,_,_,_,z⟩:=h'
  exact z.elim
 | ok fl=>cases fl<;>exact h'
theorem jE.mono {P:Program}{w:World}{K:Frag}{mg:Str->Option Value}{base:Heap}{j k n:Nat}{x:Str}{f:Fn}(F:jE P w K mg base j x n f)(h:j<=k):jE P w K mg base k x n f:=by cases F with | mk fa fd ps F a b c=>exact ⟨fa,fd,ps,F.mono h,a,b,c⟩
noncomputable abbrev K9:List Value:=[.type "ValueError",.type "Exception",.type "BaseException",.type "object"]
noncomputable abbrev KN:String := "ValueError.__new__"
section
variable {K:Frag}{cs:List Str}{top x nm:Str}
noncomputable def clsAt (K:Frag)(x:Str):Addr:=match PySem.W.nsIn K mainGlobals x with
 | some (some (.ref C))=>C
 | _=>0
noncomputable def isAt (K:Frag)(x:Str):Bool:=PySem.W.nsIn K mainGlobals x==some (some (.ref (clsAt K x)))
noncomputable def qZ (cs:List Str)(x:Str):Str->Option Bool:=λ nm=>if cs.contains nm then some (nm==x) else none
noncomputable def Ub (cs:List Str):Str->Option Bool:=λ nm=>if cs.contains nm then some true else none
noncomputable def qV (K:Frag)(cs:List Str)(x:Str):Bool:=isAt K x&&PySem.W.kitOne K (.type "NoneType") (.ref (clsAt K x))==some false&&cs.all λ nm=>PySem.W.kitOne K (.ref (clsAt K nm)) (.ref (clsAt K x))==some (nm==x)
noncomputable def Kd (K:Frag)(top nm:Str):Bool:=isAt K nm&&Jy K (clsAt K nm)&&Mi.wF K (clsAt K nm) K9 KN&&Qc K (clsAt K nm) (clsAt K top)&&PySem.W.kitOne K (.ref (clsAt K nm)) (.type "ValueError")==some true
noncomputable def X1 (K:Frag)(top:Str):Bool:=isAt K top&&Mi.wF K (clsAt K top) K9 KN&&PySem.W.kitOne K (.type "NoneType") (.type "ValueError")==some false
theorem Xp (h:isAt K x=true):yj K x (.ref (clsAt K x)):=beq_iff_eq.mp h
theorem G5 {C:Addr}(h:yj K x (.ref C)):C=clsAt K x:=by
 unfold clsAt
 unfold yj at h
 rw [h]
structure Xj (K:Frag)(top nm:Str):Prop where
 at_:yj K nm (.ref (clsAt K nm))
 kit:Jy K (clsAt K nm)=true
 exc:Mi.wF K (clsAt K nm) K9 KN=true
 up:Qc K (clsAt K nm) (clsAt K top)=true
 val:PySem.W.kitOne K (.ref (clsAt K nm)) (.type "ValueError")=some true
theorem Eu (h:Kd K top nm=true):Xj K top nm:=by
 unfold Kd at h
 simp only [Bool.and_eq_true,beq_iff_eq] at h
 obtain ⟨⟨⟨⟨h1,h2⟩,h3⟩,h4⟩,h5⟩:=h
 exact ⟨Xp h1,h2,h3,h4,h5⟩
structure yG (K:Frag)(cs:List Str)(top:Str):Prop where
 exc:∀nm,cs.contains nm=true->Xj K top nm
 top_at:yj K top (.ref (clsAt K top))
 top_exc:Mi.wF K (clsAt K top) K9 KN=true
 non:PySem.W.kitOne K (.type "NoneType") (.type "ValueError")=some false
theorem Dg (h:cs.all (Kd K top ·)=true)(t:X1 K top=true):yG K cs top:=by
 unfold X1 at t
 simp only [Bool.and_eq_true,beq_iff_eq] at t
 obtain ⟨⟨t1,t2⟩,t3⟩:=t
 exact ⟨λ nm e=>Eu (List.all_eq_true.mp h nm (List.contains_iff_mem.mp e)),Xp t1,t2,t3⟩
theorem yG.isx (c:yG K cs top)(h:qV K cs x=true):JB K (qZ cs x) (.ref (clsAt K x)):=by
 unfold qV at h
 simp only [Bool.and_eq_true,beq_iff_eq] at h
 obtain ⟨⟨h1,h2⟩,h3⟩:=h
 refine ⟨h2,λ nm C b e hc=>?_⟩
 unfold qZ at e
 by_cases hm:cs.contains nm=true
 ·rw [if_pos hm] at e
  cases e
  cases G5 hc
  exact ⟨(c.exc nm hm).kit,beq_iff_eq.mp (List.all_eq_true.mp h3 nm (List.contains_iff_mem.mp hm))⟩
 ·rw [if_neg hm] at e;cases e
theorem yS (h:qV K cs x=true):yj K x (.ref (clsAt K x)):=by
 unfold qV at h
 simp only [Bool.and_eq_true,beq_iff_eq] at h
 exact Xp h.1.1
theorem yG.isv (c:yG K cs top):JB K (Ub cs) (.type "ValueError"):=by
 refine ⟨c.non,λ nm C b e hc=>?_⟩
 unfold Ub at e
 by_cases hm:cs.contains nm=true
 ·rw [if_pos hm] at e
  cases e
  cases G5 hc
  exact ⟨(c.exc nm hm).kit,(c.exc nm hm).val⟩
 ·rw [if_neg hm] at e;cases e
theorem yG.under (c:yG K cs top):∀nm,cs.contains nm=true->∀C,yj K nm (.ref C)->∃bmC newC,Mi.wF K C bmC newC=true/\Qc K C (clsAt K top)=true:=λ nm hm C hc=>by
 cases G5 hc
 exact ⟨_,_,(c.exc nm hm).exc,(c.exc nm hm).up⟩
end
section
variable {X:Cx}{g:Heap}{xr:XR}{e:Expr}{es:List Expr}{mr:Ea}{x top:Str}{np cpos pos:Pos}{n:Nat}
end
section
variable {X:Cx}{xr:XR}{e:Expr}{es:List Expr}{m:Ev}{ms:List Ev}
end
noncomputable def VA (M:List Str)(sc:Scope)(t:Lm):Bool:=t.idx.length==t.N.length&&((List.range t.N.length).all λ i=>match t.N[i]?,t.idx[i]? with
 | some x,some j=>M[j]?==some x&&t.scope.names.lookup x==some .free
 | _,_=>false)&&t.scope.names.all λ y=>!(y.2==.free) || (sc.names.lookup y.1==some .cell || sc.names.lookup y.1==some .free)
theorem wU {X:Cx}{t:Lm}(h:VA X.N X.env.scope t=true):JK X t:=by
 unfold VA at h
 rw [Bool.and_eq_true,Bool.and_eq_true] at h
 obtain ⟨⟨h1,h2⟩,h3⟩:=h
 refine ⟨beq_iff_eq.mp h1,λ i x j e1 e2=>?_,λ y hy e=>?_⟩
 ·have hi:i<t.N.length:=(List.getElem?_eq_some_iff.mp e1).1
  have q:=List.all_eq_true.mp h2 i (List.mem_range.mpr hi)
  rw [e1,e2] at q
  dsimp only at q
  rw [Bool.and_eq_true] at q
  exact ⟨beq_iff_eq.mp q.1,beq_iff_eq.mp q.2⟩
 ·have q:=List.all_eq_true.mp h3 y hy
  rw [e] at q
  rw [Bool.or_eq_true,Bool.or_eq_true] at q
  rcases q with q | q | q
  ·cases q
  ·exact .inl (beq_iff_eq.mp q)
  ·exact .inr (beq_iff_eq.mp q)
theorem all_nil {α:Type}{p:α->Prop}:∀t∈([]:List α),p t:=λ _ h=>nomatch h
theorem all_cons {α:Type}{p:α->Prop}{a:α}{l:List α}(h:p a)(r:∀t∈l,p t):∀t∈a::l,p t:=λ t ht=>by
 rcases List.mem_cons.mp ht with e | e
 ·rw [e];exact h
 ·exact r t e
theorem E8 {env:Env}{q:Str}{ls:List Lm}{k:Nat}{t:Lm}(ht:ls[k]? =some t):kM env q ls k=KP q t.params t.body t.scope (yy env t.scope.names []):=by
 funext ob c oc vs
 refine propext ⟨λ ⟨t',e,h⟩=>?_,λ h=>⟨t,ht,h⟩⟩
 rw [ht] at e
 cases e
 exact h
section
variable {X:Cx}{xr:XR}{n k:Nat}{q:Str}{Pt c:Addr}{ls:List Lm}{t:Lm}{pos:Pos}
end
noncomputable def Z1:Stmt:=.Pass ⟨0,0,0,0⟩
noncomputable def gT:Expr:=.Constant .none 0 ⟨0,0,0,0⟩
noncomputable def JI (s:Stmt)(i:Nat):Stmt:=match s with
 | .For _ _ b _ _=>b.getD i Z1
 | .If _ b _ _=>b.getD i Z1
 | .While _ b _ _=>b.getD i Z1
 | _=>Z1
noncomputable def V3 (e:Expr)(i:Nat):Expr:=match e with
 | .Call _ a _ _=>a.getD i gT
 | .List es _=>es.getD i gT
 | .Tuple es _ _=>es.getD i gT
 | .BinOp a _ b _=>if i=0 then a else b
 | _=>gT
noncomputable def CZ (e:Expr):Arguments:=match e with
 | .Lambda a _ _ _=>a
 | _=>{ posonlyargs:=[],args:=[],vararg:=none,kwonlyargs:=[],kw_defaults:=[],kwarg:=none,defaults:=[] }
noncomputable def Cw (e:Expr):Expr:=match e with
 | .Lambda _ b _ _=>b
 | _=>gT
noncomputable def C4 (e:Expr):Scope:=match e with
 | .Lambda _ _ s _=>s
 | _=>{ kind:=.function,names:=[],isGenerator:=false,isCoroutine:=false }
noncomputable def QS (e:Expr)(N:List Str)(idx:List Nat)(m:Ev):Lm:=⟨N,idx,CZ e,Cw e,C4 e,m⟩
theorem Cj {P:Program}{w:World}{K:Frag}{mg:Str->Option Value}{base:Heap}{x:Str}{st:Stmt}{f:Addr}{fd:FuncData}{ps:List Str}{k:Nat}(F:qH K x x st f fd)(hm:mg x=some (.ref f))
  (hb:∀(kV doc pm:Value) (an:Option Addr) (cdv ct:Value) (us:List Value),us.length=ps.length->bindArgs (PySem.W.fnOf x x (Zn st) (yP st) (qh st) .none kV doc pm an cdv ct) ⟨us,[]⟩=pure (ps.zip us)):zE P w K mg base k x ps.length (λ _ _=>.bad):=
 ⟨f,fd,ps,⟨λ vs H Q E h=>h.1,λ A outer s H args us vs Q E _ _ _ _ h=>by obtain ⟨_,_,_,_,_,_,z⟩:=h;exact z.elim⟩,hm,F.kp,F.binds hb⟩
theorem IS {K:Frag}(t a b:Ty):PySem.W.kitAny K (.type t.nm) [.type a.nm,.type b.nm]=some (ym t a || ym t b):=by
 unfold PySem.W.kitAny
 rw [Y4]
 cases ym t a with
 | true=>rfl
 | false=>
  dsimp only
  unfold PySem.W.kitAny
  rw [Y4]
  cases ym t b<;>rfl
section
variable {X:Cx}{xr:XR}{e a b:Expr}{m ma mb:Ev}{pos p p1 p2 pt:Pos}{x x1 x2:Str}{kt:Nat}
theorem Ql.kitx {pins:List (Addr × Obj)}{σ:St}{H:Hp}{s:Shared}{x:V}{u:Value}{t:Ty}(I:Inv X pins σ H s)(r:RelV x u)(h:Ql X.K H x t):∃Hq:Heap->Prop,PySem.W.KitX X.K u (.type t.nm) Hq/\Hq s.heap/\u≠.builtin "__main__.__loader__#opaque" := by
 rcases h with h | ⟨a,xs,rfl,h,rfl⟩
 ·generalize hT:Value.type t.nm=T at h
  cases h with
  | non=>cases (show u=Value.none from r);exact ⟨_,PySem.W.kitx_none,True.intro,λ z=>nomatch z⟩
  | bl y=>cases (show u=Value.bool y from r);exact ⟨_,PySem.W.kitx_bool,True.intro,λ z=>nomatch z⟩
  | int i=>obtain ⟨t,q⟩:=(show ∃t,u=Value.int i t from r);cases q;exact ⟨_,PySem.W.kitx_int,True.intro,λ z=>nomatch z⟩
  | str y=>obtain ⟨t,q⟩:=(show ∃t,u=Value.str y t from r);cases q;exact ⟨_,PySem.W.kitx_str,True.intro,λ z=>nomatch z⟩
  | flt y=>obtain ⟨t,q⟩:=(show ∃t,u=Value.float y t from r);cases q;exact ⟨_,PySem.W.kitx_float,True.intro,λ z=>nomatch z⟩
  | @lst a xs ea=>
   cases (show u=Value.ref a from r)
   obtain ⟨_,_,n,_,h1⟩:=(show qY X.prog X.w H s.heap a (.lst xs) from I.hok a _ ea)
   exact ⟨_,PySem.W.kitx_list,⟨_,h1,rfl⟩,λ z=>nomatch z⟩
  | @frz a ob xs ea=>
   cases (show u=Value.ref a from r)
   obtain ⟨_,_,_,n,_,h1⟩:=(show qY X.prog X.w H s.heap a (.frz ob (.lst xs)) from I.hok a _ ea)
   exact ⟨_,PySem.W.kitx_list,⟨_,h1,rfl⟩,λ z=>nomatch z⟩
  | @tup a xs ea=>
   cases (show u=Value.ref a from r)
   obtain ⟨_,_,_,p⟩:=(show qY X.prog X.w H s.heap a (.tup xs) from I.hok a _ ea)
   obtain ⟨o,h1,h2,_⟩:=p
   exact ⟨_,PySem.W.kitx_tuple,⟨o,h1,h2.1⟩,λ z=>nomatch z⟩
  | @dK a kvs ea=>
   cases (show u=Value.ref a from r)
   obtain ⟨_,_,_,_,o,_,_,h1,h2,_⟩:=(show qY X.prog X.w H s.heap a (.dK kvs) from I.hok a _ ea)
   exact ⟨_,PySem.W.kitx_dict,⟨o,h1,h2.1⟩,λ z=>nomatch z⟩
  | @dT a kvs ea=>
   cases (show u=Value.ref a from r)
   obtain ⟨_,_,_,_,o,_,_,h1,h2,_⟩:=(show qY X.prog X.w H s.heap a (.dT kvs) from I.hok a _ ea)
   exact ⟨_,PySem.W.kitx_dict,⟨o,h1,h2.1⟩,λ z=>nomatch z⟩
  | ins=>cases hT
 ·cases (show u=Value.ref a from r)
  obtain ⟨its,_,⟨o,h1,h2,_⟩,_⟩:=I.tuple h
  exact ⟨_,PySem.W.kitx_tuple,⟨o,h1,h2⟩,λ z=>nomatch z⟩
noncomputable def CB (K:Frag)(a b:Ty):List V->Hp->VK->Prop:=λ xs H Q=>∃x t l,xs=[x,.ref l]/\qp K H l [.ty (Ty.nm a),.ty (Ty.nm b)]/\Ql K H x t/\Q (.bl (ym t a || ym t b)) H
theorem Iv {a b:Ty}:jK X (.builtin "isinstance") (CB X.K a b):=by
 intro pins s σ H xs us Q I r h
 obtain ⟨x,t,l,rfl,hs,ht,q⟩:=h
 obtain ⟨u,u',rfl,ru,ru'⟩:=vals2 r
 cases (show u'=Value.ref l from ru')
 obtain ⟨its,rv,⟨o,h1,h2,k,h3⟩,_⟩:=I.tuple hs
 obtain ⟨u1,u2,rfl,r1,r2⟩:=vals2 rv
 cases (show u1=Value.type a.nm from r1)
 cases (show u2=Value.type b.nm from r2)
 obtain ⟨Hq,Z,hz,ne⟩:=ht.kitx I ru
 obtain ⟨o1,o2,o3,o4⟩:=o
 cases (show o1=_ from h2)
 cases (show o3=_ from h3)
 exact PySem.W.kia_tup Z I.kIn hz h1 (IS t a b) ne λ tk=>⟨.bl (ym t a || ym t b),H,I.tok tk,rfl,q⟩
noncomputable def Pa (t t2:Ty)(m:Ev):Ev:=λ ρ A=>(m ρ A).bind λ w A1=>match qW w A1 with
 | some t'=>.ok (.bl (ym t' t || ym t' t2)) A1
 | none=>.bad
noncomputable def KD (m:Ev)(tw:Tg):Ex:=λ ρ A=>(m ρ A).bind λ w A1=>match tw w ρ with
 | some ρ'=>.ok (.nx ρ') A1
 | none=>.bad
end
section
variable {X:Cx}{xr:XR}{i kk:Nat}{x:Str}{PG:jy}{lam:Nat->Fn}{np cp:Pos}
end
noncomputable def Ks (PG:jy):W->W
 | .clo k ws _=>.clo k ws (PG k)
 | w=>w
open Classical in
noncomputable def JQ (ls:List Lm)(PF:jy)(ρ:En):W->Option W
 | .clo k [] P=>if P=PF k then (match ls[k]? with
  | some t=>(gi t.idx ρ).map λ ws=>.clo k ws P
  | none=>none) else none
 | .clo _ _ _=>none
 | w=>some w
noncomputable def gf (ls:List Lm)(PF:jy)(ρ:En):List W->Option (List W)
 | []=>some []
 | w::r=>match JQ ls PF ρ w,gf ls PF ρ r with
  | some u,some us=>some (u::us)
  | _,_=>none
noncomputable def wz (ls:List Lm)(PF:jy)(f:Fn)(a:Ea):Ev:=λ ρ A=>(a ρ A).bind λ ws A1=>match gf ls PF ρ ws with
 | some us=>f us A1
 | none=>.bad
section
variable {X:Cx}{pins:List (Addr × Obj)}{σ:St}{H:Hp}{s:Shared}{ls:List Lm}{j kk n:Nat}{q x:Str}{e:Expr}{es:List Expr}{p pos:Pos}{mr:Ea}{f0:Fn}{fG:jy->Fn}
theorem TY (I:Inv X pins σ H s)(hfn:∀x,X.fn x=true)(hl:∀t∈ls,ZD X.prog X.w X.K X.mg j q t)(hix:∀t∈ls,JK X t):
  QU X.prog X.w X.K X.mg (gh X.base s.heap X.env.cells) X.A X.stack s H/\∀k,Z3 X.prog X.w X.K X.mg (gh X.base s.heap X.env.cells) (j+1) (QX X.env q ls σ k) (yn ls k):=by
 have kb:∀b o,X.base.get? b=some o->(gh X.base s.heap X.env.cells).get? b=some o:=λ b o e=>Ny I.bk e
 have md:Mod X.K X.mg (gh X.base s.heap X.env.cells):=by
  obtain ⟨mb,b1,b2⟩:=I.mod.blt
  exact ⟨I.mod.kin.keeps kb,I.mod.glob.keeps kb,⟨mb,b1.keeps kb,b2⟩,I.mod.nolimit.keeps kb⟩
 have bs:∀b o,(gh X.base s.heap X.env.cells).get? b=some o->s.heap.get? b=some o/\H b=none:=λ b o e=>by
  obtain ⟨e1,e2⟩:=TR e
  refine ⟨e1,?_⟩
  rcases e2 with ⟨o',e2⟩ | ⟨y,e2⟩
  ·exact (I.bs b o' e2).2
  ·exact I.freeC y b e2
 refine ⟨⟨I.ok.frames,md,bs,Nat.le_of_eq (PySem.W.hideAll_size _ _),frames_at I.stack λ b hb=>?_,I.stkFree,I.hok,I.bare⟩,
  λ k=>FR hl (λ t ht vs hvs=>Lb I (λ y cc v e ⟨o,ho,hd⟩=>⟨o,NF e ho,hd⟩) (hix t ht) hvs) k⟩
 cases e:(gh X.base s.heap X.env.cells).get? b with
 | none=>rfl
 | some o=>
  exfalso
  rcases (TR e).2 with ⟨o',e2⟩ | ⟨y,e2⟩
  ·have:=(I.stack.mem hb).1
   rw [e2] at this;cases this
  ·exact IX I hfn e2 hb
theorem U5 {K:Frag}{φ:List Addr}{env:Env}{ρ:En}(re:RE K φ H ρ σ):∀{ws us:List W} {vs:List V},gf ls (kM env q ls) ρ ws=some us->zB K φ H ws vs->zB K φ H (us.map (Ks (QX env q ls σ))) vs
 | [],us,vs,e,r=>by cases e;exact r
 | w::r,us,vs,e,⟨v,r',ev,hv,hr⟩=>by
  subst ev
  unfold gf at e
  cases e1:JQ ls (kM env q ls) ρ w with
  | none=>rw [e1] at e;cases e
  | some u=>
   cases e2:gf ls (kM env q ls) ρ r with
   | none=>rw [e1,e2] at e;cases e
   | some us'=>
    rw [e1,e2] at e
    cases e
    rw [List.map_cons]
    refine .cons ?_ (U5 re e2 hr)
    cases w with
    | clo k xs P=>
     cases xs with
     | cons x xs=>unfold JQ at e1;cases e1
     | nil=>
      unfold JQ at e1
      dsimp only at e1
      by_cases hP:P=kM env q ls k
      ·rw [if_pos hP] at e1
       subst hP
       cases et:ls[k]? with
       | none=>rw [et] at e1;cases e1
       | some t=>
        rw [et] at e1
        dsimp only at e1
        cases ec:gi t.idx ρ with
        | none=>rw [ec] at e1;cases e1
        | some ws'=>
         rw [ec] at e1
         cases e1
         obtain ⟨a,ob,u0,c,oc,uc,vs0,rfl,g1,g2,⟨t',et',gp⟩,_⟩:=hv
         rw [et] at et';cases et'
         obtain ⟨vs1,cv,rv⟩:=Tw re ec
         exact ⟨a,ob,u0,c,oc,uc,vs1,rfl,g1,g2,⟨t,et,gp,cv⟩,rv⟩
      ·rw [if_neg hP] at e1;cases e1
    | _=>cases e1;exact hv
end
section
variable {X:Cx}{xr:XR}{a b c:Expr}{ma mb mc:Ev}{pos:Pos}
end
section
variable {prog:Program}{w:World}{A:Around}{E:Value->Shared->Prop}{s:Shared}
noncomputable abbrev kH (led:Bool):Obj:={ cls:=.type "set",dict:=none,data:=.set #[] 0 (.fresh 0 0 led) }
end
theorem intsAre_of:∀{ns:List Int} {its:List Value},Vals (ns.map V.int) its->IntsAre its ns:=by
 intro ns
 induction ns with
 | nil=>intro its h;cases h;exact .nil
 | cons n ns ih=>
  intro its h
  cases h with
  | cons r t=>obtain ⟨tk,rfl⟩:=r;exact .cons n tk (ih t)
section
variable {X:Cx}{xr:XR}{e:Expr}{m:Ev}{pos:Pos}
end
noncomputable def VT (s:Stmt):Expr:=match s with
 | .If t _ _ _=>t
 | _=>gT
section
variable {X:Cx}{xr:XR}{a b:Expr}{ma mb:Ev}{pos:Pos}
end
section
variable {X:Cx}{xr:XR}{e:Expr}{m:Ev}{pos:Pos}
end
theorem UB:fillsNumberSlot (.type "tuple") "mul" = pure false:=
 PySem.fillsNumberSlot_seq (id := "tuple.__mul__") (r:=some (.builtin "tuple.__rmul__")) F.slot_tuple_mul.lookup (by decide +kernel) F.slot_tuple_rmul.lookup (by decide +kernel)
theorem UM:seqRepeat? (.type "tuple")=pure (some (.builtin "tuple.__mul__")):=by
 unfold seqRepeat?
 rw [PySem.seqSlot_of (T := "tuple") (name := "__mul__") (id := "tuple.__mul__") F.slot_tuple_mul.lookup (by decide +kernel),PySem.seqSlot_of (T := "tuple") (name := "__rmul__") (id := "tuple.__rmul__") F.slot_tuple_rmul.lookup (by decide +kernel)]
 rfl
theorem US (a:Int)(t:Tok)(l:Addr)(od:Option Addr)(items:Array Value)(n:Nat)(sl:Array (Option Value)):
  Meets (Builtin.«int.__rmul__» ⟨[.int a t,.ref l],[]⟩) (λ _ R s=>s.heap.get? l=some ⟨.type "tuple",od,.seq items n,sl⟩/\R (.ok (.ret Value.notImplemented)) s):=
 .of_wp λ prog w A R s h=>by
  obtain ⟨hp,g,d,tk,os⟩:=s;obtain ⟨hl,h⟩:=h
  wp_walk
  exact ⟨_,rfl,h⟩
theorem Mn (k:Int)(t:Tok)(l:Addr)(od:Option Addr)(items:Array Value)(n:Nat)(sl:Array (Option Value))(h2:2<=k)(h3:k<1000)(hi:0<items.size)(hz:items.size<1000):
  Meets (Builtin.«tuple.__mul__» ⟨[.ref l,.int k t],[]⟩) (λ _ R s=>s.heap.get? l=some ⟨.type "tuple",od,.seq items n,sl⟩/\R (.ok (.ret (.ref s.heap.objs.size))) { s with heap:=s.heap.push { cls:=.type "tuple",data:=.seq ((List.replicate k.toNat items).foldl (·++·) #[]) } }):=
 .of_wp λ prog w A R s h=>by
  obtain ⟨hp,g,d,tk,os⟩:=s;obtain ⟨hl,h⟩:=h
  have e0:items.isEmpty=false:=by
   cases he:items.isEmpty with
   | false=>rfl
   | true=>rw [Array.isEmpty_iff_size_eq_zero] at he;omega
  have e1:(k==1)=false:=by rw [beq_eq_false_iff_ne];omega
  have e2:(decide (k < -2 ^ 63) || decide (k ≥ 2 ^ 63))=false:=by
   rw [Bool.or_eq_false_iff,decide_eq_false_iff_not,decide_eq_false_iff_not];omega
  have e3:decide (k<=0)=false:=by rw [decide_eq_false_iff_not];omega
  have hm:(items.size:Int) * k<=1000 * 1000:=Int.mul_le_mul (by omega) (by omega) (by omega) (by omega)
  have e4:¬(items.size:Int) * k > (2 ^ 63 - 1) / 8:=by omega
  have e5:Builtin.Tuple.tupleTooMany ((items.size:Int) * k)=false:=by
   unfold Builtin.Tuple.tupleTooMany
   have:sizeLine=16777216:=sizeLine_eq
   rw [decide_eq_false_iff_not];omega
  wp_walk
  rw [e2]
  rw [if_neg (by decide)]
  dsimp only
  wp_walk
  rw [if_neg e4,e5,if_neg (by decide)]
  have hs:(List.foldl (λ x1 x2=>x1++x2) #[] (List.replicate k.toNat items)).size<=sizeLine:=by
   have hf:=foldl_rep items.toList k.toNat []
   rw [List.nil_append] at hf
   have e6:items.toList.toArray=items:=by simp
   rw [e6] at hf
   rw [hf,List.size_toArray,len_rep]
   have:sizeLine=16777216:=sizeLine_eq
   have:k.toNat * items.toList.length<=1000 * 1000:=Nat.mul_le_mul (by omega) (by rw [Array.length_toList];omega)
   omega
  refine wpAny_bind (m:=Builtin.Tuple.tupleExact _) (wpAny_newObj_type ?_ hs)
  exact wpAny_pure ⟨_,rfl,h⟩
section
variable {X:Cx}{xr:XR}{K:Frag}{a b:Expr}{ma mb:Ev}{pos:Pos}
noncomputable def Vu (K:Frag):R2:=λ x y H Q=>∃l k xs,x=.ref l/\y=.int k/\qp K H l xs/\2<=k/\k<1000/\0<xs.length/\xs.length<1000/\
 ∀p,H p=none->Q (.ref p) (upd H p (.tup (List.replicate k.toNat xs).flatten))
theorem Fy:qA X (binaryOp .Mult) (Vu X.K):=by
 intro pins s σ H x y v u Q I rx ry h
 obtain ⟨l,k,xs,rfl,rfl,hH,h1,h2,h3,h4,q⟩:=h
 cases rx
 obtain ⟨t,rfl⟩:=ry
 obtain ⟨its,r,p1,_⟩:=I.tuple hH
 obtain ⟨⟨cls,dd,data,sl⟩,ho,hc,n,hd⟩:=id p1
 simp only at hc hd
 subst hc hd
 have hnew:List.foldl (λ x1 x2=>x1++x2) #[] (List.replicate k.toNat its.toArray)=(List.replicate k.toNat its).flatten.toArray:=by
  have:=foldl_rep its k.toNat []
  rw [List.nil_append] at this
  exact this
 have hlen:=r.length
 refine wpAny_binaryOp_repeat_ref (T := "tuple") (U := "int") (by decide) ⟨_,ho,rfl⟩ (λ s'=>typeIs_int s' k t) UB F.fills_int_mul F.slot_int_rmul UM F.slot_int_index.lookup
  (call_meets F.slot_int_rmul (typeIs_int s k t) F.entry_int_rmul (F.args_int_rmul_2 _ _) (US k t l dd its.toArray n sl)
   ⟨ho,rfl,⟨_,ho,rfl⟩,call_meets F.slot_tuple_mul ⟨_,ho,rfl⟩ F.entry_tuple_mul (F.args_tuple_mul_2 _ _) (Mn k t l dd its.toArray n sl h1 h2 (by rw [List.size_toArray];omega) (by rw [List.size_toArray];omega)) ⟨ho,?_⟩⟩)
 rw [hnew]
 refine ⟨.ref s.heap.objs.size,_,I.laid (t':=s.toks) (o:=.tup (List.replicate k.toNat xs).flatten) (λ b ob q=>Heap.get?_push_of_some _ q) (Nat.le_refl _) ?_,rfl,q _ (I.hok.fresh (Nat.le_refl _))⟩
 refine ⟨?_,_,r.rep k.toNat,gQ.new _ _⟩
 rw [len_rep]
 have hs:sizeLine=16777216:=sizeLine_eq
 have:k.toNat * xs.length<=1000 * 1000:=Nat.mul_le_mul (by omega) (by omega)
 omega
noncomputable def VC:W->W->Hx->R W:=λ x y A=>match x,y with
 | .tup xs,.int k=>if decide (2<=k)&&(decide (k<1000)&&(decide (0<xs.length)&&decide (xs.length<1000))) then .ok (.tup (List.replicate k.toNat xs).flatten) A else .bad
 | _,_=>.bad
theorem IB:jQ K (Vu K) VC:=λ φ A H x y u v Q S q1 q2 p=>by
 cases u with
 | tup xs=>cases v with
  | int j=>
   obtain ⟨a1,vs1,rfl,t1,r1⟩:=q1
   obtain rfl:=q2
   unfold VC at p
   dsimp only at p
   by_cases hz:(decide (2<=j)&&(decide (j<1000)&&(decide (0<xs.length)&&decide (xs.length<1000))))=true
   ·rw [if_pos hz] at p
    simp only [Bool.and_eq_true,decide_eq_true_iff] at hz
    refine ⟨a1,j,vs1,rfl,rfl,t1,hz.1,hz.2.1,by rw [<- r1.length];exact hz.2.2.1,by rw [<- r1.length];exact hz.2.2.2,λ l hl=>?_⟩
    obtain ⟨c1,c2,c3⟩:=Z0 S hl (r1.rep j.toNat)
    exact p _ _ _ c1 c2 c3
   ·rw [if_neg hz] at p;exact p.elim
  | _=>exact p.elim
 | _=>cases v<;>exact p.elim
end
section
open PySem.SeqAt
open PySem.AutoSeq1 (wpAny_loadPart')
open PySem.MeetsSeq PySem.MeetsSeq2 PySem.MeetsSeq3
end
section
variable {prog:Program}{w:World}{A:Around}{E:Value->Shared->Prop}{s:Shared}
end
section
variable {prog:Program}{w:World}{A:Around}{I S:Addr}{fp wr:List Addr}{n:Nat}{P:Nat->Value->Prop}{St:Nat->Heap->Prop}
end
section
variable {X:Cx}{xr:XR}{K:Frag}{e:Expr}{pos:Pos}{pins:List (Addr × Obj)}{σ:St}{H:Hp}{s:Shared}{φ:List Addr}
end
section
variable {X:Cx}{xr:XR}{K:Frag}{a b e:Expr}{ma mb:Ev}{pos:Pos}
theorem Iw {A:Hx}{w:W}{ds:List PyData}(h:qd A 8 w=some (.list ds)):PyData.canLayAll0 ds=true/\PyData.depthAll ds<=8:=by
 obtain ⟨h1,h2⟩:=GV 8 w _ h
 simp only [PyData.canLay0,PyData.depth] at h1 h2
 exact ⟨h1,by omega⟩
noncomputable def Bm:W->W->Hx->R W:=λ x y A=>match qd A 8 x,qd A 8 y with
 | some d,some (.list ds)=>.ok (.bl (ds.any λ z=>PyData.eqv z d)) A
 | _,_=>.bad
noncomputable def w8 (p:PyData->Bool):List PyData->Option Nat
 | []=>none
 | d::ds=>if p d then some 0 else (w8 p ds).map (· + 1)
theorem Sh {p:PyData->Bool}:∀{ds:List PyData} {j:Nat},w8 p ds=some j->∃h:j<ds.length,p ds[j]=true/\∀m (hm:m<ds.length),m<j->p ds[m]=false
 | [],_,e=>by cases e
 | d::ds,j,e=>by
  unfold w8 at e
  by_cases hd:p d=true
  ·rw [if_pos hd] at e
   cases e
   exact ⟨Nat.zero_lt_succ _,hd,λ m _ z=>absurd z (Nat.not_lt_zero _)⟩
  ·rw [if_neg hd] at e
   cases e1:w8 p ds with
   | none=>rw [e1] at e;cases e
   | some j'=>
    rw [e1] at e
    cases e
    obtain ⟨h1,h2,h3⟩:=Sh e1
    refine ⟨Nat.succ_lt_succ h1,h2,λ m hm z=>?_⟩
    cases m with
    | zero=>exact Bool.eq_false_iff.mpr hd
    | succ m=>exact h3 m (Nat.lt_of_succ_lt_succ hm) (Nat.lt_of_succ_lt_succ z)
noncomputable def HN (K:Frag):V->List V->Hp->VK->Prop:=λ x vs H Q=>∃φ A u v y d ds j,vs=[y]/\zF K φ A H/\RV K φ H u x/\RV K φ H v y/\qd A 8 u=some (.list ds)/\qd A 8 v=some d/\w8 (λ z=>PyData.eqv z d) ds=some j/\j<1000000/\Q (.int j) H
theorem N0 (hu:X.A.units+64<cLine):Uh X "list.index" (HN X.K):=by
 intro pins s σ H x vs v us Q I rx rv h
 obtain ⟨φ,A,w1,w2,y,d,ds,j,rfl,S,q1,q2,e1,e2,ej,hj,q⟩:=h
 obtain ⟨u,rfl,ru⟩:=rv.one
 obtain ⟨as,h1⟩:=QB I S 8 w1 x v _ q1 rx e1
 obtain ⟨bs,h2⟩:=QB I S 8 w2 y u d q2 ru e2
 obtain ⟨g1,g2⟩:=GV 8 w2 d e2
 obtain ⟨g3,g4⟩:=Iw e1
 obtain ⟨f1,f2,f3⟩:=Sh ej
 cases h1 with
 | list a1 a2 a3 a4=>
  rename_i l o items n as'
  obtain ⟨cls,dd,data,sl⟩:=o
  simp only at a2 a3
  subst a2 a3
  have hm:=SeqAt.readsAll_map _ _ _ g3 a4
  have hlen:items.size=ds.length:=by rw [<- hm];simp
  have at_:∀m (h:m<items.size) (h':m<ds.length),SeqAt.readOf s.heap items[m]=ds[m]:=λ m h h'=>by
   have e:(items.toList.map (SeqAt.readOf s.heap))[m]? =ds[m]?:=by rw [hm]
   rw [List.getElem?_map,List.getElem?_eq_getElem h',Array.getElem?_toList,Array.getElem?_eq_getElem h] at e
   exact Option.some.inj e
  refine call_meets F.slot_list_index ⟨_,a1,rfl⟩ F.entry_list_index (F.args_list_index_2 _ _)
   (SeqAt.list_indexAt l items n dd sl u (λ z=>PyData.eqv (SeqAt.readOf s.heap z) d) j (by omega) (by omega) (by rw [at_ j (by omega) f1];exact f2) (λ m h z=>by rw [at_ m h (by omega)];exact f3 m (by omega) z)) ⟨a1,SeqAt.items_eqAt a4 h2 g3 g1 (by omega),?_⟩
  exact ⟨.int j,H,I.tok _,⟨_,rfl⟩,q⟩
noncomputable def wY:W->W->Hx->R W:=λ x y A=>match qd A 8 x,qd A 8 y with
 | some (.list ds),some d=>(match w8 (λ z=>PyData.eqv z d) ds with
  | some j=>if j<1000000 then .ok (.int j) A else .bad
  | none=>.bad)
 | _,_=>.bad
theorem LU:∀x y A,qz (wY x y A):=λ x y A=>by
 unfold wY
 split
 ·split
  ·exact wZ jM qJ
  ·exact qJ
 ·exact qJ
end
section
variable {X:Cx}{xr:XR}{K:Frag}{e:Expr}{m:Ev}{pos:Pos}
end
end Mi
namespace Mi
open PySem
noncomputable def zQ (n:Nat):List Nat:=(List.range 8).filter λ i=>n.testBit i
noncomputable def qM (led:Bool)(n:Nat):SetTable:=if (zQ n).length<5 then ⟨7,(zQ n).toArray,#[],0,led,0,true⟩ else ⟨31,(zQ n).toArray,#[],0,led,1,true⟩
noncomputable def jc (n v:Nat):Nat:=n ||| (1 <<< v)
noncomputable def wH (n v:Nat):Nat:=((zQ n).filter λ i=>decide (i<v)).length
noncomputable def yM (led:Bool)(n v:Nat):SetTable:={ qM led n with place:=(zQ (jc n v)).toArray }
noncomputable def Kt (led:Bool)(n v:Nat):Bool:=n.testBit v || (((qM led n).freeSlot (v:Int)==some (v,false))&&((qM led n).put v==(yM led n v,wH n v))&&(zQ (jc n v)==(zQ n).take (wH n v)++v::(zQ n).drop (wH n v))&&
 (yM led n v).fits (zQ (jc n v)).length&&((yM led n v).tooFull==((zQ (jc n v)).length==5))&&
 (if (zQ (jc n v)).length==5 then (yM led n v).relaid ((zQ (jc n v)).map λ (i:Nat)=>(i:Int)).toArray 20==some (qM led (jc n v),#[0,1,2,3,4]) else qM led (jc n v)==yM led n v)&&
 (qM led (jc n v)).fits (zQ (jc n v)).length&&decide (jc n v<256))
theorem HL:((List.range 256).all λ n=>(List.range 8).all λ v=>Kt true n v&&Kt false n v)=true:=by decide +kernel
open PySem PySem.Spec PyProof.Rows
inductive q9:List (Int × Value)->List Nat->Prop
 | nil:q9 [] []
 | cons {es:List (Int × Value)} {vs:List Nat} (v:Nat) (tk:Tok) (h:q9 es vs):q9 (((v:Int),.int (v:Int) tk)::es) (v::vs)
theorem q9.length {es:List (Int × Value)}{vs:List Nat}(h:q9 es vs):es.length=vs.length:=by
 induction h with
 | nil=>rfl
 | cons v tk h ih=>simp [ih]
theorem q9.map1 {es:List (Int × Value)}{vs:List Nat}(h:q9 es vs):es.map (·.1)=vs.map λ (i:Nat)=>(i:Int):=by
 induction h with
 | nil=>rfl
 | cons v tk h ih=>simp [ih]
theorem q9.take {es:List (Int × Value)}{vs:List Nat}(h:q9 es vs):∀k,q9 (es.take k) (vs.take k):=by
 induction h with
 | nil=>intro k;simp;exact .nil
 | cons v tk h ih=>
  intro k
  cases k with
  | zero=>exact .nil
  | succ k=>exact .cons v tk (ih k)
theorem q9.drop {es:List (Int × Value)}{vs:List Nat}(h:q9 es vs):∀k,q9 (es.drop k) (vs.drop k):=by
 induction h with
 | nil=>intro k;simp;exact .nil
 | cons v tk h ih=>
  intro k
  cases k with
  | zero=>exact .cons v tk h
  | succ k=>exact ih k
theorem q9.app {es es':List (Int × Value)}{vs vs':List Nat}(h:q9 es vs)(h':q9 es' vs'):q9 (es++es') (vs++vs'):=by
 induction h with
 | nil=>exact h'
 | cons v tk h ih=>exact .cons v tk ih
theorem U4:∀v,v<8->hashInt ((v:Nat):Int)=(v:Int):=by decide
section
variable {prog:Program}{w:World}
theorem q9.elems {es:List (Int × Value)}{vs:List Nat}(h:q9 es vs)(hv:∀v∈vs,v<8):ElemsOf (intKind prog w) es:=by
 induction h with
 | nil=>intro e he;cases he
 | cons v tk h ih=>
  intro e he
  rcases List.mem_cons.mp he with rfl | he
  ·exact ⟨⟨(v:Int),intKind_is _ _ _ _,(U4 v (hv v (List.mem_cons_self ..))).symm⟩,rfl⟩
  ·exact ih (λ u hu=>hv u (List.mem_cons_of_mem _ hu)) e he
theorem q9.find {es:List (Int × Value)}{vs:List Nat}(h:q9 es vs)(v:Nat):(es.findIdx? λ e=>(intKind prog w).is (v:Int) e.2)=vs.findIdx? λ u=>decide (u=v):=by
 induction h with
 | nil=>rfl
 | cons u tk h ih=>
  rw [List.findIdx?_cons,List.findIdx?_cons,ih]
  have:(intKind prog w).is (v:Int) (Value.int (u:Int) tk)=decide (u=v):=by
   show Value.isInt (v:Int) (Value.int (u:Int) tk)=_
   unfold Value.isInt
   rw [Bool.eq_iff_iff]
   simp
   omega
  rw [this]
end
theorem X4 {n v:Nat}:v∈zQ n↔v<8/\n.testBit v=true:=by
 unfold zQ
 rw [List.mem_filter,List.mem_range]
noncomputable def j5 (h:Heap)(a:Addr)(led:Bool)(n:Nat):Prop:=∃o es ep,h.get? a=some o/\o.ExactSet/\o.data=.set es ep (qM led n)/\q9 es.toList (zQ n)/\n<256
theorem j5.keep {h h':Heap}{a:Addr}{led:Bool}{n:Nat}(x:j5 h a led n)(k:∀o,h.get? a=some o->h'.get? a=some o):j5 h' a led n:=
 let ⟨o,es,ep,ho,r⟩:=x;⟨o,es,ep,k o ho,r⟩
theorem Ln {n v:Nat}(hn:n<256)(hv:v<8)(led:Bool):Kt led n v=true:=by
 have h:=List.all_eq_true.mp (List.all_eq_true.mp HL n (List.mem_range.mpr hn)) v (List.mem_range.mpr hv)
 rw [Bool.and_eq_true] at h
 cases led
 ·exact h.2
 ·exact h.1
theorem L6:((List.range 256).all λ n=>(qM true n).fits (zQ n).length&&(qM false n).fits (zQ n).length)=true:=by decide +kernel
theorem GR (led:Bool)(n:Nat):(qM led n).plain=true:=by unfold qM;split<;>rfl
theorem IE (led:Bool)(n:Nat):(qM led n).led=led:=by unfold qM;split<;>rfl
theorem Tq (led:Bool)(n:Nat):(qM led n).place=(zQ n).toArray:=by unfold qM;split<;>rfl
theorem fits_of {n:Nat}(hn:n<256)(led:Bool):(qM led n).fits (zQ n).length=true:=by
 have h:=List.all_eq_true.mp L6 n (List.mem_range.mpr hn)
 rw [Bool.and_eq_true] at h
 cases led
 ·exact h.2
 ·exact h.1
theorem QK (n:Nat):(zQ n).length<=8:=by
 unfold zQ
 exact Nat.le_trans (List.length_filter_le _ _) (by simp)
structure KL (led:Bool)(n v:Nat):Prop where
 free:(qM led n).freeSlot (v:Int)=some (v,false)
 put:(qM led n).put v=(yM led n v,wH n v)
 vs:zQ (jc n v)=(zQ n).take (wH n v)++v::(zQ n).drop (wH n v)
 fits:(yM led n v).fits (zQ (jc n v)).length=true
 full:(yM led n v).tooFull=((zQ (jc n v)).length==5)
 V9:(zQ (jc n v)).length=5->(yM led n v).relaid ((zQ (jc n v)).map λ (i:Nat)=>(i:Int)).toArray 20=some (qM led (jc n v),#[0,1,2,3,4])
 less:(zQ (jc n v)).length≠5->qM led (jc n v)=yM led n v
 lt:jc n v<256
theorem MO {n v:Nat}(hn:n<256)(hv:v<8)(led:Bool)(hb:n.testBit v=false):KL led n v:=by
 have h:=Ln hn hv led
 unfold Kt at h
 rw [hb,Bool.false_or] at h
 simp only [Bool.and_eq_true,beq_iff_eq,decide_eq_true_iff] at h
 obtain ⟨⟨⟨⟨⟨⟨⟨h1,h2⟩,h3⟩,h4⟩,h5⟩,h6⟩,h7⟩,h8⟩:=h
 refine ⟨h1,h2,h3,h4,h5,λ e=>?_,λ e=>?_,h8⟩
 ·rw [if_pos e] at h6;exact of_decide_eq_true (by simpa using h6)
 ·rw [if_neg e] at h6;simpa using h6
noncomputable def j6 (n v:Nat):Nat:=if n.testBit v then n else jc n v
section
variable {prog:Program}{w:World}{A:Around}{E:Value->Shared->Prop}{s:Shared}
theorem LI {es:Array (Int × Value)}{n v:Nat}{led:Bool}{x:Value}(f:KL led n v)(he:q9 es.toList (zQ n)):layNew (qM led n) es (v:Int) x=(SetTable.insertAt es (wH n v) ((v:Int),x),yM led n v,false,false):=by
 have hsz:(SetTable.insertAt es (wH n v) ((v:Int),x)).size=(zQ (jc n v)).length:=by
  rw [<- Array.length_toList,SetTable.toList_insertAt,f.vs,List.length_append,List.length_append,List.length_cons,List.length_cons,List.length_take,List.length_take,List.length_drop,List.length_drop,he.length]
 unfold layNew
 rw [f.free]
 dsimp only
 rw [f.put]
 dsimp only
 rw [hsz]
 unfold SetTable.orStandIn
 rw [if_pos f.fits,f.fits]
 rfl
theorem IH {es:Array (Int × Value)}{n v:Nat}{led:Bool}(f:KL led n v)(h5:(zQ (jc n v)).length=5)(he:q9 es.toList (zQ (jc n v))):relayAll (yM led n v) es 20=(es,qM led (jc n v),false):=by
 have hm:es.map (·.1)=((zQ (jc n v)).map λ (i:Nat)=>(i:Int)).toArray:=by
  apply Array.toList_inj.mp
  rw [Array.toList_map,he.map1]
 have hsz:es.size=5:=by rw [<- Array.length_toList,he.length,h5]
 have hfm:(#[0,1,2,3,4]:Array Nat).filterMap (es[·]?)=es:=by
  apply Array.toList_inj.mp
  rw [Array.toList_filterMap]
  have h0:es.toList.length=5:=by rw [Array.length_toList];exact hsz
  have hg:∀i,es[i]? =es.toList[i]?:=λ i=>by rw [Array.getElem?_toList]
  simp only [hg]
  generalize es.toList=l at h0
  obtain ⟨a,b,c,d,e,rfl⟩:∃a b c d e,l=[a,b,c,d,e]:=by
   match l,h0 with
   | [a,b,c,d,e],_=>exact ⟨a,b,c,d,e,rfl⟩
  rfl
 unfold relayAll
 rw [hm,f.V9 h5]
 dsimp only
 rw [hfm]
 have hc:coversAll #[0,1,2,3,4] es.size=true:=by rw [hsz];decide +kernel
 have hf:(qM led (jc n v)).fits es.size=true:=by rw [hsz,<- h5];exact fits_of f.lt led
 rw [hc,hf]
 rfl
theorem q9.insert {es:Array (Int × Value)}{n v:Nat}{led:Bool}{tk:Tok}(f:KL led n v)(he:q9 es.toList (zQ n)):q9 (SetTable.insertAt es (wH n v) ((v:Int),.int (v:Int) tk)).toList (zQ (jc n v)):=by
 rw [SetTable.toList_insertAt,f.vs]
 exact (he.take _).app (.cons v tk (he.drop _))
theorem U6 {h:Heap}{a:Addr}{o:Obj}{es es':Array (Int × Value)}{ep:Nat}{t:SetTable}{t':SetTable}(ho:h.get? a=some o)(hd:o.data=.set es ep t):(h.update a (Obj.putSet es' t')).get? a=some { o with data:=.set es' (ep+1) t' }:=by
 have:=Heap.get?_update_self (Obj.putSet es' t') ho (by rw [putSet_of es' t' hd];rfl)
 rw [putSet_of es' t' hd] at this;exact this
theorem Nr {a:Addr}{led:Bool}{n v:Nat}{tk:Tok}{Q:Bool->Shared->Prop}(hS:j5 s.heap a led n)(hv:v<8)
  (h:∀h' b,Heap.SameBut a s.heap h'->j5 h' a led (j6 n v)->Q b { s with heap:=h' }):
  wpAny (model prog w) A (setAddHashed a (.int (v:Int) tk) ((intKind prog w).hash (v:Int))) Q E s:=by
 obtain ⟨o,es,ep,ho,hex,hd,he,hn⟩:=hS
 have hlen:es.size=(zQ n).length:=by rw [<- Array.length_toList,he.length]
 have hf:(qM led n).fits es.size=true:=by rw [hlen];exact fits_of hn led
 have hel:ElemsOf (intKind prog w) es.toList:=he.elems λ u hu=>(X4.mp hu).1
 have hb:es.size<scanBound:=by rw [hlen];have:=QK n;unfold scanBound;omega
 unfold setAddHashed setAddHashedIn
 refine wpAny_holding (wpAny_bind (wpAny_setState_of ho hd hf ?_))
 dsimp only
 rw [byScan_of (x:=.int (v:Int) tk) rfl hb hel]
 simp only [↓reduceIte]
 unfold setAddByScan
 refine wpAny_bind ?_
 refine wpAny_bind (wpAny_rule ?_)
 refine wpAny_bind (wpAny_setScan_of (knd:=intKind prog w) (intKind_is _ _ _ _) ho hd hf hel ?_)
 rw [he.find]
 cases hr:(zQ n).findIdx? λ u=>decide (u=v) with
 | some j=>
  dsimp only
  have hb:n.testBit v=true:=by
   obtain ⟨hj,hpj,_⟩:=List.findIdx?_eq_some_iff_getElem.mp hr
   have:=of_decide_eq_true hpj
   exact (X4.mp (this ▸ List.getElem_mem hj)).2
  refine wpAny_pure (wpAny_pure ?_)
  have e:s={ s with heap:=s.heap }:=by cases s;rfl
  rw [e]
  refine h s.heap false (Heap.SameBut.refl a s.heap) ?_
  unfold j6
  rw [if_pos hb]
  exact ⟨o,es,ep,ho,hex,hd,he,hn⟩
 | none=>
  dsimp only
  have hb:n.testBit v=false:=by
   cases hk:n.testBit v with
   | false=>rfl
   | true=>
    have:=List.findIdx?_eq_none_iff.mp hr v (X4.mpr ⟨hv,hk⟩)
    simp at this
  have f:=MO hn hv led hb
  have hh:(intKind prog w).hash (v:Int)=(v:Int):=U4 v hv
  rw [hh]
  rw [LI f he]
  have he1:=he.insert (tk:=tk) f
  have hl1:(SetTable.insertAt es (wH n v) ((v:Int),Value.int (v:Int) tk)).size=(zQ (jc n v)).length:=by rw [<- Array.length_toList,he1.length]
  generalize SetTable.insertAt es (wH n v) ((v:Int),Value.int (v:Int) tk)=es1 at he1 hl1
  dsimp only
  refine wpAny_bind (wpAny_pure ?_)
  have hp:(yM led n v).plain=true:=by unfold yM;exact GR led n
  rw [hp]
  simp only [↓reduceIte]
  refine wpAny_bind ?_
  rw [hashByValue_scannable 8 (x:=.int (v:Int) tk) rfl]
  refine wpAny_pure ?_
  have hpk:plainKind (.int (v:Int) tk)=true:=rfl
  rw [hpk]
  simp only [↓reduceIte]
  have hz1:es1.size<=sizeLine:=by rw [hl1,sizeLine_eq];have:=QK (jc n v);omega
  refine wpAny_bind (wpAny_storeSet_of ho hd ?_ hz1)
  have ho1:=U6 (es':=es1) (t':=yM led n v) ho hd
  have hsb1:=Heap.SameBut.update s.heap a (Obj.putSet es1 (yM led n v))
  rw [f.full]
  by_cases h5:(zQ (jc n v)).length=5
  ·have hg:SetTable.grown es1.size=20:=by rw [hl1,h5];rfl
   rw [hg,IH f h5 he1,h5]
   simp only [Bool.not_false,Bool.true_and,beq_self_eq_true,↓reduceIte]
   refine wpAny_bind (wpAny_pure ?_)
   refine wpAny_bind (wpAny_storeSet_of ho1 rfl ?_ hz1)
   refine wpAny_pure ?_
   dsimp only
   refine wpAny_pure ?_
   have ho2:=U6 (es':=es1) (t':=qM led (jc n v)) ho1 rfl
   refine h _ true (hsb1.trans (Heap.SameBut.update _ a _)) ?_
   unfold j6
   rw [hb]
   exact ⟨_,es1,ep+1+1,ho2,hex,rfl,he1,f.lt⟩
  ·have hq:((zQ (jc n v)).length==5)=false:=by simpa using h5
   rw [hq]
   simp only [Bool.not_false,Bool.and_false,Bool.false_eq_true,↓reduceIte]
   refine wpAny_pure ?_
   dsimp only
   refine wpAny_pure ?_
   refine h _ true hsb1 ?_
   unfold j6
   rw [hb,if_neg Bool.false_ne_true,]
   refine ⟨_,es1,ep+1,ho1,hex,?_,he1,f.lt⟩
   rw [f.less h5]
end
noncomputable abbrev ju (w:World):Bool:=!w.params.followText "set-order"
noncomputable def gZ (val:Nat->Nat)(i:Nat):Nat:=((List.range i).map val).foldl j6 0
theorem Ma (val:Nat->Nat)(i:Nat):gZ val (i+1)=j6 (gZ val i) (val i):=by
 unfold gZ
 rw [List.range_succ,List.map_append,List.foldl_append]
 rfl
section
variable {prog:Program}{w:World}{A:Around}{E:Value->Shared->Prop}{s:Shared}
theorem Ol (a:Value){Q1:Value->Shared->Prop}(h:Q1 (.ref s.heap.objs.size) { s with heap:=s.heap.push (kH (ju w)) }):
  codeAny (model prog w) A (.call (.builtin "set.__new__") ⟨[.type "set",a],[]⟩) (wants Q1 E) s:=by
 refine codeAny_of_tree ?_
 show wpAny _ A.in1 (do checkBuiltinCall "set.__new__" ⟨[.type "set",a],[]⟩;again (.builtin "set.__new__" ⟨[.type "set",a],[]⟩)) _ _ s
 refine wpAny_bind (wpAny_of_eq (F.newCall_set_1 a) (wpAny_pure ⟨plainId_quiet F.plain_set_new _,codeAny_builtin F.entry_set_new ?_⟩))
 rw [Around.under_plainId F.plain_set_new _]
 unfold Builtin.«set.__new__» Builtin.Frozenset.newClass
 have hsub:=sub_set_self
 obtain ⟨hp,g,d,tk,os⟩:=s
 dsimp only
 wp_walk
 refine wpAny_askSetting (wpAny_pure ?_)
 dsimp only
 simp only [newObj]
 refine wpAny_bind (wpAny_alloc (wpAny_pure ?_))
 exact wpAny_pure h
end
section
variable {prog:Program}{w:World}{A:Around}{R:Result->Shared->Prop}{I:Addr}{fp wr:List Addr}{G:Array GenState->Array GenState->Prop}{n:Nat}{P:Nat->Value->Prop}{St:Nat->Shared->Prop}
theorem Mo (W:WalksS prog w A.in1 I fp wr G n P St)(S:Addr)(hSf:S∉fp)(led:Bool)(val:Nat->Nat)(hval:∀i v,P i v->∃t,v=.int ((val i:Nat):Int) t)(h8:∀i,i<n->val i<8):
  ∀(k i:Nat) (s:Shared),n - i=k->i<=n->St i s->j5 s.heap S led (gZ val i)->
   (∀s',Moved (S::wr) G s s'->j5 s'.heap S led (gZ val n)->R (.ok (.ret .none)) s')->
   codeAny (model prog w) A (.builtin "set.update.loop" ⟨[.ref S,.ref I],[]⟩) R s:=by
 have hSw:S∉wr:=λ h=>hSf (W.sub _ h)
 have hsub:∀b∈wr,b∈S::wr:=λ b hb=>List.mem_cons_of_mem _ hb
 intro k
 induction k with
 | zero=>
  intro i s hk hi hst hS hR
  have hin:i=n:=by omega
  subst hin
  refine codeAny_builtin F.entry_set_update_loop ?_
  rw [Around.under_plainId F.plain_set_update_loop _]
  show wpAny _ A.in1 (pyNext (.ref I) >>= _) _ _ s
  refine wpAny_bind (W.done s _ _ hst λ s' hm=>?_)
  show wpAny _ A.in1 (ret Value.none) _ _ s'
  exact wpAny_pure (hR s' (hm.mono hsub) (hS.keep λ o ho=>hm.heap S _ hSw ho))
 | succ k ih=>
  intro i s hk hi hst hS hR
  have hlt:i<n:=by omega
  refine codeAny_builtin F.entry_set_update_loop ?_
  rw [Around.under_plainId F.plain_set_update_loop _]
  show wpAny _ A.in1 (pyNext (.ref I) >>= _) _ _ s
  refine wpAny_bind (W.item i s _ _ hlt hst λ v s' hP hst' hm=>?_)
  obtain ⟨t,rfl⟩:=hval i v hP
  have hS':j5 s'.heap S led (gZ val i):=hS.keep λ o ho=>hm.heap S _ hSw ho
  show wpAny _ A.in1 (holding [Value.int ((val i:Nat):Int) t] (setAdd S (.int ((val i:Nat):Int) t)) >>= _) _ _ s'
  refine wpAny_bind (wpAny_holding ?_)
  unfold setAdd
  refine wpAny_holding ?_
  refine wpAny_bind ((intKind prog w).pyHash (k:=((val i:Nat):Int)) (intKind_is _ _ _ _) ?_)
  refine Nr (s:={ s' with toks:=s'.toks+1 }) hS' (h8 i hlt) λ h' b hsb hS2=>?_
  have hSi:j5 h' S led (gZ val (i+1)):=by rw [Ma];exact hS2
  refine wpAny_pure ⟨plainId_quiet F.plain_set_update_loop _,ih (i+1) _ (by omega) hlt (W.frame _ s' _ _ hst' (Nat.le_succ _) λ b hb o e=>?_) hSi λ s'' hm'' hS''=>?_⟩
  ·rw [hsb.2 b (λ h:b=S=>hSf (by rw [<- h];exact hb))];exact e
  ·refine hR s'' (Moved.trans W.gtrans ((hm.mono hsub).then_heap (Nat.le_succ _) λ b o hb e=>?_) hm'') hS''
   rw [hsb.2 b (λ h:b=S=>hb (by rw [h];exact List.mem_cons_self))];exact e
end
section
variable {prog:Program}{w:World}{A:Around}{E:Value->Shared->Prop}{s:Shared}
theorem EN (led:Bool){h:Heap}{a:Addr}(g:h.get? a=some (kH led)):j5 h a led 0:=
 ⟨_,#[],0,g,⟨rfl,rfl,rfl⟩,(by cases led<;>rfl),.nil,by decide⟩
theorem Oc {led:Bool}{l:Addr}{its:List Value}{vs:List Nat}{Q:Value->Shared->Prop}(hh:A.handled=none)(ht:s.heap.IsList l its.toArray)(hv:IntsAre its (vs.map λ (v:Nat)=>(v:Int)))(h8:∀v∈vs,v<8)
  (h:∀(h':Heap) (tk:Nat),j5 h' s.heap.objs.size led (vs.foldl j6 0)->
   (∀b o,b<s.heap.objs.size->s.heap.get? b=some o->h'.get? b=some o)->Q .none { s with heap:=h',toks:=tk }):
  codeAny (model prog w) A (.call (.builtin "set.__init__") ⟨[.ref s.heap.objs.size,.ref l],[]⟩) (wants Q E) { s with heap:=s.heap.push (kH led) }:=by
 have hlen:its.length=vs.length:=by
  have:∀{its:List Value} {ns:List Int},IntsAre its ns->its.length=ns.length:=λ h=>by
   induction h with
   | nil=>rfl
   | cons _ _ _ ih=>simp [ih]
  rw [this hv,List.length_map]
 have gS:(s.heap.push (kH led)).get? s.heap.objs.size=some (kH led):=Heap.get?_push_size _ rfl
 refine codeAny_call_builtin F.called_set.init.plain F.entry_set_init (check_set_init_1 ⟨_,gS,rfl⟩ ?_)
 obtain ⟨ob,h1,h2,n,h3⟩:=ht
 obtain ⟨oc,od,odt,osl⟩:=ob
 dsimp only at h2 h3
 cases h2;cases h3
 have g1:=Heap.get?_push_of_some (kH led) h1
 have n1:=F.sub_list_set
 have n2:=F.sub_list_frozenset
 have n3:(Value.type "list" == Value.type "dict")=false:=by decide
 have T1:(s.heap.push (kH led)).IsList l its.toArray:=⟨_,g1,rfl,n,rfl⟩
 unfold Builtin.«set.__init__» noKeywords Builtin.Frozenset.updateFrom
 generalize hp:pyIter=PI
 wp_walk
 subst hp
 refine wpAny_pyIter_list T1 (wpAny_bind (wpAny_runValue ?_))
 have lt:l<s.heap.objs.size:=Heap.lt_size h1
 have sz:(s.heap.push (kH led)).objs.size=s.heap.objs.size+1:=Heap.size_push ..
 have ne:l≠(s.heap.push (kH led)).objs.size:=by rw [sz];exact Nat.ne_of_lt (Nat.lt_succ_of_lt lt)
 have W:=(Walks.list (prog:=prog) (w:=w) (A:=A.in1.in1) (by simp [hh]) (s.heap.push (kH led)).objs.size l ne its.toArray).toS
 have esz:its.toArray.size=vs.length:=by rw [List.size_toArray];exact hlen
 rw [esz] at W
 have off:s.heap.objs.size∉[(s.heap.push (kH led)).objs.size,l]:=by
  rw [sz];intro hm
  rcases List.mem_cons.mp hm with z | hm
  ·exact Nat.ne_of_lt (Nat.lt_succ_self _) z
  ·exact Nat.ne_of_gt lt (List.mem_singleton.mp hm)
 have hacc:gZ (λ i=>vs.getD i 0) vs.length=vs.foldl j6 0:=by
  unfold gZ
  congr 1
  apply List.ext_getElem
  ·simp
  ·intro i h1 h2
   have hi:i<vs.length:=by simpa using h2
   simp [List.getD_eq_getElem?_getD,List.getElem?_eq_getElem hi]
 refine Mo W s.heap.objs.size off led (λ i=>vs.getD i 0) (λ i v e=>?_) (λ i hi=>?_) vs.length 0 _ rfl (Nat.zero_le _) ⟨⟨_,Heap.get?_push_size _ rfl,rfl,rfl⟩,T1.push _⟩ ?_ ?_
 ·obtain ⟨t,e2⟩:=IntsAre.int_at hv i v (by simpa using e)
  refine ⟨t,e2.trans ?_⟩
  have hi:i<vs.length:=by
   have:=(List.getElem?_eq_some_iff.mp (show its[i]? =some v by simpa using e)).1
   omega
  congr 1
  simp [List.getD_eq_getElem?_getD,List.getElem?_map,List.getElem?_eq_getElem hi]
 ·rw [List.getD_eq_getElem?_getD,List.getElem?_eq_getElem hi]
  exact h8 _ (List.getElem_mem hi)
 ·exact EN led (Heap.get?_push_of_some _ gS)
 ·intro s' mv S'
  rw [hacc] at S'
  obtain ⟨h',g',d',tk',os'⟩:=s'
  have e1:g'=s.gens:=mv.gens
  have e2:d'=s.drawn:=mv.drawn
  have e3:os'=s.os:=mv.os
  subst e1 e2 e3
  refine wpAny_pure ?_
  show wpAny _ _ (ret Value.none) _ _ _
  refine wpAny_pure (h h' tk' S' λ b o lb e=>mv.heap b o (λ hm=>?_) (Heap.get?_push_of_some _ (Heap.get?_push_of_some _ e)))
  rcases List.mem_cons.mp hm with z | hm
  ·exact Nat.ne_of_lt lb z
  ·exact Nat.ne_of_lt (Nat.lt_succ_of_lt lb) ((List.mem_singleton.mp hm).trans sz)
theorem Oh {l:Addr}{its:List Value}{vs:List Nat}{Q:Value->Shared->Prop}(hh:A.handled=none)(ht:s.heap.IsList l its.toArray)(hv:IntsAre its (vs.map λ (v:Nat)=>(v:Int)))(h8:∀v∈vs,v<8)
  (h:∀(h':Heap) (tk:Nat),j5 h' s.heap.objs.size (ju w) (vs.foldl j6 0)->
   (∀b o,b<s.heap.objs.size->s.heap.get? b=some o->h'.get? b=some o)->Q (.ref s.heap.objs.size) { s with heap:=h',toks:=tk }):
  wpAny (model prog w) A (call (.type "set") [.ref l]) Q E s:=by
 obtain ⟨c,tl,hmro⟩:=F.called_set.mro
 have a1:=F.called_set.made
 have a2:=F.called_set.sub
 have a3:=F.called_set.notType
 have a4:=F.called_set.canCreate
 have a5:=F.typeCall_set_1 (.ref l)
 refine wpAny_call (codeAny_of_tree ?_)
 show wpAny _ _ (callAny (.type "set") _) _ _ _
 refine wpAny_pure ⟨Code.quiet_builtin _ (by decide +kernel),codeAny_builtin F.entry_type_call ?_⟩
 rw [Around.under_plain (weight_type_call_type "set" [.ref l] []) rfl]
 repeat (any_goals (first | assumption | wp_step))
 refine codeAny_mono (Ol (.ref l) (E:=E) (Q1:=λ u s1=>u=.ref s.heap.objs.size/\s1={ s with heap:=s.heap.push (kH (ju w)) }) ⟨rfl,rfl⟩) λ r s1 hr=>?_
 cases r with
 | error e=>exact hr
 | ok fl=>
  cases fl with
  | ret u=>
   obtain ⟨rfl,rfl⟩:=hr
   have T:Shared.TypeIs { s with heap:=s.heap.push (kH (ju w)) } (.ref s.heap.objs.size) "set" := ⟨_,Heap.get?_push_size _ rfl,rfl⟩
   have b1:=F.called_set.init.lookup
   have b2:=F.called_set.init.bind (.ref s.heap.objs.size)
   repeat (any_goals (first | assumption | wp_step))
   refine codeAny_mono (Oc (E:=E) (Q:=λ v s2=>v=.none/\∃h' tk,s2={ s with heap:=h',toks:=tk }/\j5 h' s.heap.objs.size (ju w) (vs.foldl j6 0)/\
    ∀b o,b<s.heap.objs.size->s.heap.get? b=some o->h'.get? b=some o) (by simp [hh]) ht hv h8 λ h' tk S' k'=>⟨rfl,h',tk,rfl,S',k'⟩) λ r2 s2 hr2=>?_
   cases r2 with
   | error e=>exact hr2
   | ok fl2=>
    cases fl2 with
    | ret v=>
     obtain ⟨rfl,h',tk,rfl,S',k'⟩:=hr2
     repeat (any_goals (first | assumption | wp_step))
     exact h _ _ S' k'
    | _=>exact hr2.elim
  | _=>exact hr.elim
end
theorem U0 {α:Type}:∀{l:List α} {k:Nat} {w:α},l[k]? =some w->l.Perm (w::l.eraseIdx k)
 | [],_,_,h=>by simp at h
 | x::l,0,w,h=>by
  simp at h
  subst h
  simp
 | x::l,k+1,w,h=>by
  rw [List.getElem?_cons_succ] at h
  rw [List.eraseIdx_cons_succ]
  exact ((U0 h).cons x).trans (List.Perm.swap w x _)
theorem HC {α:Type}(next:Nat->Nat):∀(f k:Nat) (left:List α) (out:Array α),left.length=f->(pickOrder.go next f k left out).toList.Perm (out.toList++left):=by
 intro f
 induction f with
 | zero=>
  intro k left out h
  have:left=[]:=List.length_eq_zero_iff.mp h
  subst this
  unfold pickOrder.go
  simp
 | succ f ih=>
  intro k left out h
  have hlt:next k % left.length<left.length:=Nat.mod_lt _ (by omega)
  unfold pickOrder.go
  rw [List.getElem?_eq_getElem hlt]
  dsimp only
  refine (ih (k+1) _ _ (by rw [List.length_eraseIdx_of_lt hlt];omega)).trans ?_
  rw [Array.toList_push,List.append_assoc]
  exact List.Perm.append_left _ (U0 (List.getElem?_eq_getElem hlt)).symm
theorem Me {α:Type}(next:Nat->Nat)(xs:Array α):(pickOrder next xs).toList.Perm xs.toList:=by
 unfold pickOrder
 have:=HC next xs.size 0 xs.toList #[] (by simp)
 simpa using this
namespace F
theorem Og:entryFor table "set.__iter__" = some Builtin.«frozenset.__iter__»:=entryFor_alias (id' := "frozenset.__iter__") (by kernel_rfl) rfl (by decide +kernel) (by kernel_rfl)
theorem Pw:entryFor table "set_iterator.__iter__" = some Builtin.«dict_keyiterator.__iter__»:=entryFor_alias (id' := "dict_keyiterator.__iter__") (by kernel_rfl) rfl (by decide +kernel) (by kernel_rfl)
theorem Uw:Manifest.owners.lookup (String.ofList ['r','o','t','a','r','e','t','i','_','t','e','s'].reverse)=some Manifest.sig_set_iterator:=by kernel_rfl
theorem Qm:Slot "set_iterator" "__next__" "set_iterator.__next__" :=
 .of (owner := "set_iterator") (n := "__next__") (by rw [typeLookup_type,builtinLookup_eq_fast];kernel_rfl) (by decide +kernel) (by decide +kernel) (by decide +kernel)
  (by first | exact .inl (by decide +kernel) | exact .inr (by decide +kernel)) (by rw [isSubtype_type];kernel_rfl)
theorem Us:entryFor table "set_iterator.__next__" = some Builtin.«set_iterator.__next__»:=entryFor_of_tree (by kernel_rfl)
theorem Ur (a:Value):argsOk "set_iterator.__next__" ⟨[a],[]⟩:=by
 unfold argsOk;rw [signature?_of (id := "set_iterator.__next__") (n:=['_','_','t','x','e','n','_','_']) (o:=['r','o','t','a','r','e','t','i','_','t','e','s']) (by kernel_rfl) Uw];kernel_rfl
theorem Pu (a:Value):argsOk "set_iterator.__iter__" ⟨[a],[]⟩:=by
 unfold argsOk;rw [signature?_of (id := "set_iterator.__iter__") (n:=['_','_','r','e','t','i','_','_']) (o:=['r','o','t','a','r','e','t','i','_','t','e','s']) (by kernel_rfl) Uw];kernel_rfl
theorem Ut:Slot "set_iterator" "__iter__" "set_iterator.__iter__" :=
 .of (owner := "set_iterator") (n := "__iter__") (by rw [typeLookup_type,builtinLookup_eq_fast];kernel_rfl) (by decide +kernel) (by decide +kernel) (by decide +kernel)
  (by first | exact .inl (by decide +kernel) | exact .inr (by decide +kernel)) (by rw [isSubtype_type];kernel_rfl)
end F
noncomputable def JD (n i:Nat):Nat:=match i with
 | 0=>0
 | i+1=>(zQ n).getD i 0+1
noncomputable def Rm (n i:Nat):Bool:=decide ((zQ n).length<i) || (SetTable.below (zQ n).toArray (JD n i)==i)
theorem Im:((List.range 256).all λ n=>(List.range 9).all λ i=>Rm n i)=true:=by decide +kernel
theorem L1 {n i:Nat}(hn:n<256)(hi:i<=(zQ n).length):SetTable.below (zQ n).toArray (JD n i)=i:=by
 have h8:=QK n
 have h:=List.all_eq_true.mp (List.all_eq_true.mp Im n (List.mem_range.mpr hn)) i (List.mem_range.mpr (by omega))
 unfold Rm at h
 rw [decide_eq_false (by omega),Bool.false_or,beq_iff_eq] at h
 exact h
noncomputable def ZO (h:Heap)(I S:Addr)(slot i n ep:Nat):Prop:=∃o,h.get? I=some o/\o.cls=.type "set_iterator" /\ o.data=.fields #[.int slot 0,.int i 0,.ref S,.int n 0,.int ep 0]
noncomputable def yo (w:World)(a:Addr)(ep:Nat)(es:Array (Int × Value)):Array (Int × Value):=if w.params.followText "set-order" then pickOrder (w.params.setOrder a ep) es else es
theorem Jd (w:World)(a:Addr)(ep:Nat)(es:Array (Int × Value)):(yo w a ep es).toList.Perm es.toList:=by
 unfold yo
 split
 ·exact Me _ _
 ·exact List.Perm.refl _
noncomputable def ko (w:World)(n i:Nat):Nat:=if w.params.followText "set-order" then 0 else JD n i
section
variable {prog:Program}{w:World}{A:Around}{E:Value->Shared->Prop}{s:Shared}{a:Addr}{o:Obj}{es:Array (Int × Value)}{ep n:Nat}
theorem Gi {Q:Bool->Shared->Prop}(h:Q (w.params.followText "set-order") s):wpAny (model prog w) A setsByText Q E s:=by
 unfold setsByText
 exact wpAny_bind (wpAny_askSetting (wpAny_pure h))
theorem PQ {Q:Value->Shared->Prop}(ho:s.heap.get? a=some o)(hex:o.ExactSet)(hd:o.data=.set es ep (qM (ju w) n))(he:q9 es.toList (zQ n))(hn:n<256)
  (hQ:Q (.ref s.heap.objs.size) { s with heap:=s.heap.push { cls:=.type "set_iterator",data:=.fields #[.int 0 0,.int 0 0,.ref a,.int es.size 0,.int ep 0] } }):
  wpAny (model prog w) A (pyIter (.ref a)) Q E s:=by
 have hT:s.TypeIs (.ref a) "set" := ⟨o,ho,hex.1⟩
 have hlen:es.size=(zQ n).length:=by rw [<- Array.length_toList,he.length]
 have hf:(qM (ju w) n).fits es.size=true:=by rw [hlen];exact fits_of hn _
 refine wpAny_pyIter_slot hT PySem.F.slot_set_iter (wpAny_call_entry PySem.F.slot_set_iter hT F.Og ?_ (PySem.F.args_set_iter_1 _))
 unfold Builtin.«frozenset.__iter__»
 show wpAny _ _ (Builtin.Frozenset.sizeOf a >>= _) _ _ s
 unfold Builtin.Frozenset.sizeOf
 refine wpAny_bind (wpAny_bind (wpAny_setEntries_of ho hd hf (wpAny_pure ?_)))
 unfold setDrawn
 refine wpAny_bind (wpAny_bind (wpAny_setState_of ho hd hf ?_))
 dsimp only
 refine wpAny_bind (Gi (wpAny_pure ?_))
 rw [if_neg (λ h=>by
  have h2:(!w.params.followText "set-order" && (!(qM (ju w) n).plain&&decide (es.size > 1)))=true:=h
  rw [GR] at h2
  simp at h2)]
 refine wpAny_bind (wpAny_pure ?_)
 refine wpAny_bind (wpAny_setEpoch_of ho hd hf ?_)
 exact wpAny_bind (wpAny_newObj_type (wpAny_pure ⟨_,rfl, "set_iterator",_,⟨_,Heap.get?_push_size _ rfl,rfl⟩,F.Qm.lookup,hQ⟩))
theorem UE {i:Nat}{Q:Option (Value × Nat)->Shared->Prop}(ho:s.heap.get? a=some o)(hd:o.data=.set es ep (qM (ju w) n))(he:q9 es.toList (zQ n))(hn:n<256)(hi:i<=es.size)
  (h:Q (((yo w a ep es)[i]?).map λ e=>(e.2,ko w n (i+1))) s):wpAny (model prog w) A (setNext a (ko w n i) i ep) Q E s:=by
 have hlen:es.size=(zQ n).length:=by rw [<- Array.length_toList,he.length]
 have hf:(qM (ju w) n).fits es.size=true:=by rw [hlen];exact fits_of hn _
 unfold setNext
 refine wpAny_bind (wpAny_setState_of ho hd hf ?_)
 dsimp only
 refine wpAny_bind (Gi ?_)
 unfold yo ko at h
 cases ht:w.params.followText "set-order" with
 | true=>
  rw [ht] at h
  simp only [↓reduceIte] at h ⊢
  have hep:¬((ep != ep)=true):=by simp
  rw [if_neg hep]
  unfold setWalk
  refine wpAny_bind (wpAny_bind (wpAny_setState_of ho hd hf ?_))
  dsimp only
  refine wpAny_bind (Gi ?_)
  rw [ht]
  simp only [↓reduceIte]
  refine wpAny_bind (wpAny_askSetting (wpAny_pure (wpAny_pure ?_)))
  unfold ko
  rw [ht]
  exact h
 | false=>
  rw [ht] at h
  simp only [Bool.false_eq_true,↓reduceIte] at h ⊢
  rw [if_neg (λ h=>by
   have h2:(!(qM (ju w) n).plain&&decide (es.size > 1))=true:=h
   rw [GR] at h2
   simp at h2)]
  have hled:(qM (ju w) n).led=true:=by rw [IE];unfold ju;rw [ht];rfl
  refine wpAny_bind ?_
  show wpAny _ _ (if (!(qM (ju w) n).led&&!es.isEmpty)=true then unsupported "set:maker-not-led" else pure ()) _ _ _
  rw [hled]
  simp only [Bool.not_true,Bool.false_and,Bool.false_eq_true,↓reduceIte]
  refine wpAny_pure ?_
  have hb:SetTable.below (qM (ju w) n).place (ko w n i)=i:=by
   rw [Tq]
   unfold ko
   rw [ht]
   exact L1 hn (by omega)
  rw [hb,Tq]
  refine wpAny_pure ?_
  by_cases hlt:i<es.size
  ·have hv:(zQ n)[i]? =some ((zQ n)[i]'(by omega)):=List.getElem?_eq_getElem (by omega)
   have hp:(zQ n).toArray[i]? =some ((zQ n)[i]'(by omega)):=by rw [List.getElem?_toArray];exact hv
   have hee:es[i]? =some es[i]:=Array.getElem?_eq_getElem hlt
   rw [hee] at h
   rw [hee,hp]
   dsimp only
   have hs:JD n (i+1)=(zQ n)[i]'(by omega)+1:=by
    show (zQ n).getD i 0+1=_
    rw [List.getD_eq_getElem?_getD,hv]
    rfl
   rw [hs] at h
   exact h
  ·have hee:es[i]? =none:=Array.getElem?_eq_none (by omega)
   rw [hee] at h
   rw [hee]
   exact h
theorem Px {I:Addr}{i:Nat}{e:Int × Value}{Q:Option Value->Shared->Prop}(hit:ZO s.heap I a (ko w n i) i es.size ep)(ho:s.heap.get? a=some o)(hex:o.ExactSet)(hd:o.data=.set es ep (qM (ju w) n))(he:q9 es.toList (zQ n))(hn:n<256)(hx:(yo w a ep es)[i]? =some e)
  (hQ:∀h',ZO h' I a (ko w n (i+1)) (i+1) es.size ep->Heap.SameBut I s.heap h'->Q (some e.2) { s with heap:=h' }):
  wpAny (model prog w) A (pyNext (.ref I)) Q E s:=by
 obtain ⟨oi,hoi,hc,hdi⟩:=id hit
 have hT:s.TypeIs (.ref I) "set_iterator" := ⟨oi,hoi,hc⟩
 have hlen:es.size=(zQ n).length:=by rw [<- Array.length_toList,he.length]
 have hf:(qM (ju w) n).fits es.size=true:=by rw [hlen];exact fits_of hn _
 unfold pyNext
 refine wpAny_bind (wpAny_attempt (wpAny_callSpecial?_slot (name:=Str.ofString "__next__") hT F.Qm
  (wpAny_call_entry F.Qm hT F.Us ?_ (F.Ur _))))
 unfold Builtin.«set_iterator.__next__»
 show wpAny _ _ (fieldsOf (.ref I) >>= _) _ _ s
 refine wpAny_bind (wpAny_fieldsOf hoi hdi ?_)
 dsimp only
 refine wpAny_bind (wpAny_setEntries_of ho hd hf ?_)
 rw [if_neg (by simp)]
 have hi:i<es.size:=by
  have h1:=(Array.getElem?_eq_some_iff.mp hx).1
  have h2:=(Jd w a ep es).length_eq
  simp at h2
  omega
 simp only [Int.toNat_natCast]
 refine wpAny_bind (UE ho hd he hn (Nat.le_of_lt hi) ?_)
 rw [hx]
 dsimp only [Option.map_some]
 refine wpAny_bind (wpAny_setField hoi hdi (by simp) ?_)
 have h1:(s.heap.update I (Obj.mapFields (·.setIfInBounds 0 (rawInt (ko w n (i+1)))))).get? I=some (Obj.mapFields (·.setIfInBounds 0 (rawInt (ko w n (i+1)))) oi):=Heap.get?_update_self _ hoi (Obj.isFreed_of_fields (Obj.data_mapFields hdi _))
 refine wpAny_bind (wpAny_setField h1 (Obj.data_mapFields hdi _) (by simp) ?_)
 refine wpAny_pure ⟨e.2,rfl,wpAny_pure (hQ _ ?_ ((Heap.SameBut.update ..).trans (Heap.SameBut.update ..)))⟩
 refine ⟨_,Heap.get?_update_self _ h1 (Obj.isFreed_of_fields (Obj.data_mapFields (Obj.data_mapFields hdi _) _)),(Obj.cls_mapFields ..).trans ((Obj.cls_mapFields ..).trans hc),?_⟩
 rw [Obj.data_mapFields (Obj.data_mapFields hdi _)]
 simp [rawInt]
theorem Py {I:Addr}{Q:Option Value->Shared->Prop}(hh:A.handled=none)(hit:ZO s.heap I a (ko w n es.size) es.size es.size ep)(ho:s.heap.get? a=some o)(hex:o.ExactSet)(hd:o.data=.set es ep (qM (ju w) n))(he:q9 es.toList (zQ n))(hn:n<256)
  (hQ:∀h',Heap.ExtBut I s.heap h'->Q none { s with heap:=h' }):wpAny (model prog w) A (pyNext (.ref I)) Q E s:=by
 obtain ⟨oi,hoi,hc,hdi⟩:=id hit
 have hT:s.TypeIs (.ref I) "set_iterator" := ⟨oi,hoi,hc⟩
 have hlen:es.size=(zQ n).length:=by rw [<- Array.length_toList,he.length]
 have hf:(qM (ju w) n).fits es.size=true:=by rw [hlen];exact fits_of hn _
 unfold pyNext
 refine wpAny_bind (wpAny_attempt (wpAny_callSpecial?_slot (name:=Str.ofString "__next__") hT F.Qm
  (wpAny_call_entry F.Qm hT F.Us ?_ (F.Ur _))))
 unfold Builtin.«set_iterator.__next__»
 show wpAny _ _ (fieldsOf (.ref I) >>= _) _ _ s
 refine wpAny_bind (wpAny_fieldsOf hoi hdi ?_)
 dsimp only
 refine wpAny_bind (wpAny_setEntries_of ho hd hf ?_)
 rw [if_neg (by simp)]
 simp only [Int.toNat_natCast]
 refine wpAny_bind (UE ho hd he hn (Nat.le_refl _) ?_)
 have hx:(yo w a ep es)[es.size]? =none:=Array.getElem?_eq_none (by
  have h2:=(Jd w a ep es).length_eq
  simp at h2
  omega)
 rw [hx]
 dsimp only [Option.map_none]
 refine wpAny_bind (wpAny_setField hoi hdi (by simp) ?_)
 show wpAny _ _ (newExc (.type "StopIteration") [] >>= _) _ _ _
 refine wpAny_bind ?_
 simp only [newExc,newTuple]
 refine wpAny_bind (wpAny_newObj_type ?_ (by size_fits))
 refine wpAny_bind (m:=firstArgMember _ _) (wpAny_of_eq (a:=Value.none) (by first | rfl | (simp only [firstArgMember];rfl)) ?_)
 refine wpAny_newObj_type ?_ (by size_fits)
 simp only [raiseNew]
 refine wpAny_bind (wpAny_handled ?_)
 first | rw [show A.in1.handled=none from hh] | rw [hh]
 refine wpAny_bind (wpAny_pure (wpAny_throw ?_))
 refine wpAny_bind (wpAny_isInstance (T := "StopIteration") (b:=true) ⟨_,Heap.get?_push_size _ rfl,rfl⟩ isSubtype_stop ?_)
 exact wpAny_pure (hQ _ (((Heap.SameBut.update ..).extBut.push _).push _))
end
theorem ZO.typeIs {s:Shared}{I S:Addr}{slot i n ep:Nat}(h:ZO s.heap I S slot i n ep):s.TypeIs (.ref I) "set_iterator" := let ⟨o,ho,hc,_⟩:=h;⟨o,ho,hc⟩
section
variable {prog:Program}{w:World}{A:Around}{E:Value->Shared->Prop}{s:Shared}{a:Addr}{o:Obj}{es:Array (Int × Value)}{ep n:Nat}
theorem PC {I S:Addr}{slot i m e:Nat}{Q:Value->Shared->Prop}(hit:ZO s.heap I S slot i m e)(h:Q (.ref I) s):wpAny (model prog w) A (pyIter (.ref I)) Q E s:=by
 refine wpAny_pyIter_slot hit.typeIs F.Ut (wpAny_call_entry F.Ut hit.typeIs F.Pw ?_ (F.Pu _))
 show wpAny _ _ (ret (.ref I)) _ _ s
 exact wpAny_pure ⟨_,rfl, "set_iterator",_,hit.typeIs,F.Qm.lookup,h⟩
theorem Walks.setP (hh:A.handled=none)(I a:Addr)(hne:a≠I)(hex:o.ExactSet)(hd:o.data=.set es ep (qM (ju w) n))(he:q9 es.toList (zQ n))(hn:n<256):
  Walks prog w A I [I,a] [I] es.size (λ i v=>∃e,(yo w a ep es)[i]? =some e/\v=e.2) (λ i h=>ZO h I a (ko w n i) i es.size ep/\h.get? a=some o) where
 sub:=λ b hb=>by simp at hb;simp [hb]
 frame:=λ _ _ _ st hk=>⟨let ⟨x,h1,h2⟩:=st.1;⟨x,hk I (by simp) x h1,h2⟩,hk a (by simp) o st.2⟩
 item:=λ i s Q E hi st hQ=>by
  have hsz:(yo w a ep es).size=es.size:=by have:=(Jd w a ep es).length_eq;simpa using this
  have hx:(yo w a ep es)[i]? =some ((yo w a ep es)[i]'(by omega)):=Array.getElem?_eq_getElem (by omega)
  refine Px st.1 st.2 hex hd he hn hx λ h' hit' hs'=>?_
  refine hQ _ h' s.toks ⟨_,hx,rfl⟩ ⟨hit',?_⟩ λ b o hb e=>hs'.extBut b o (λ h=>hb (by simp [h])) e
  exact hs'.extBut a o hne st.2
 done:=λ s Q E st hQ=>Py hh st.1 st.2 hex hd he hn λ h' he'=>hQ h' s.toks λ b o hb e=>he' b o (λ h=>hb (by simp [h])) e
 self:=λ _ _ _ _ st hQ=>PC st.1 hQ
theorem Np:typeLookup (.type "set") "__len__" = pure (some (.builtin "set.__len__")):=by rw [typeLookup_type,builtinLookup_eq_fast];kernel_rfl
theorem PJ {Q:List Value->Shared->Prop}(hh:A.handled=none)(ho:s.heap.get? a=some o)(hex:o.ExactSet)(hd:o.data=.set es ep (qM (ju w) n))(he:q9 es.toList (zQ n))(hn:n<256)
  (hQ:∀(h':Heap) (tk:Nat),(∀b o,b<s.heap.objs.size->s.heap.get? b=some o->h'.get? b=some o)->s.heap.objs.size<=h'.objs.size->Q ((yo w a ep es).toList.map (·.2)) { s with heap:=h',toks:=tk }):
  wpAny (model prog w) A (collect (.ref a)) Q E s:=by
 have hT0:s.TypeIs (.ref a) "set" := ⟨o,ho,hex.1⟩
 have hlt:a<s.heap.objs.size:=Heap.lt_size ho
 unfold collect
 refine wpAny_bind (wpAny_runValue (codeAny_builtin PySem.F.entry_proto_collect ?_))
 rw [Around.under_plainId PySem.F.plain_proto_collect _]
 show wpAny _ A.in1 (newList [] >>= λ l=>again (.builtin "list.__iadd__" ⟨[l,.ref a],[]⟩)) _ _ s
 refine wpAny_bind (wpAny_newObj_type ?_)
 refine wpAny_pure ⟨plainId_quiet PySem.F.plain_list_iadd _,codeAny_builtin PySem.F.entry_list_iadd ?_⟩
 rw [Around.under_plainId PySem.F.plain_list_iadd _]
 show wpAny _ A.in1 (Builtin.List.listExtendWith (.ref s.heap.objs.size) (.ref a) (.ref s.heap.objs.size)) _ _ _
 have ho1:(s.heap.push { cls:=.type "list",data:=.seq ([]:List Value).toArray }).get? a=some o:=Heap.get?_push_of_some _ ho
 have hT:Shared.TypeIs { s with heap:=s.heap.push { cls:=.type "list",data:=.seq ([]:List Value).toArray } } (.ref a) "set" := ⟨o,ho1,hex.1⟩
 unfold Builtin.List.listExtendWith
 refine wpAny_bind (wpAny_typeOf hT ?_)
 have h1:Builtin.List.listSameRef (.ref s.heap.objs.size) (.ref a)=false:=by simp [Builtin.List.listSameRef];exact Nat.ne_of_gt hlt
 have h2:(Value.type "set" == Value.type "list")=false:=by decide
 have h3:(Value.type "set" == Value.type "tuple")=false:=by decide
 simp only [h1,h2,h3,Bool.or_false,Bool.false_eq_true,if_false]
 refine wpAny_bind (PQ ho1 hex hd he hn ?_)
 refine wpAny_bind (wpAny_holding ?_)
 unfold Builtin.List.listLengthHint
 generalize hH:s.heap.push { cls:=.type "list",data:=.seq ([]:List Value).toArray }=H
 have hHs:H.objs.size=s.heap.objs.size+1:=by rw [<- hH,Heap.size_push]
 have hoH:H.get? a=some o:=by rw [<- hH];exact ho1
 have hLH:H.get? s.heap.objs.size=some { cls:=.type "list",data:=.seq ([]:List Value).toArray }:=by rw [<- hH];exact Heap.get?_push_size _ rfl
 generalize hIo:({ cls:=.type "set_iterator",data:=.fields #[.int 0 0,.int 0 0,.ref a,.int es.size 0,.int ep 0] }:Obj)=io
 have hT2:Shared.TypeIs { s with heap:=H.push io } (.ref a) "set" := ⟨o,Heap.get?_push_of_some _ hoH,hex.1⟩
 have hio:(H.push io).get? H.objs.size=some io:=Heap.get?_push_size _ (by rw [<- hIo];rfl)
 refine wpAny_bind (wpAny_specialOf hT2 Np ?_)
 wp_delta
 refine wpAny_bind (wpAny_isInstance (b:=true) hT2 (by rw [isSubtype_type];kernel_rfl) ?_)
 show wpAny _ A.in1 (typeOf (Value.ref a) >>= _) _ _ _
 refine wpAny_bind (wpAny_typeOf hT2 ?_)
 refine wpAny_pure ?_
 show wpAny _ A.in1 (rule "list.extend.makes-room" >>= λ _=>Builtin.List.listTouch (.ref s.heap.objs.size) >>= λ _=>
  again (.builtin "list.extend.loop" ⟨[.ref s.heap.objs.size,.ref H.objs.size,.ref s.heap.objs.size],[]⟩)) _ _ _
 refine wpAny_bind (wpAny_rule ?_)
 have hS1:(H.push io).get? s.heap.objs.size=some { cls:=.type "list",data:=.seq ([]:List Value).toArray }:=Heap.get?_push_of_some _ hLH
 refine wpAny_bind ?_
 show wpAny _ A.in1 (updateSeq s.heap.objs.size (·.push .none) >>= λ _=>updateSeq s.heap.objs.size (·.pop)) _ _ _
 refine wpAny_bind (wpAny_updateSeq hS1 rfl ?_)
 have hS2:=Heap.get?_update_self (Obj.mapSeq (·.push Value.none)) hS1 rfl
 refine wpAny_updateSeq hS2 rfl ?_
 have hS3:=Heap.get?_update_self (Obj.mapSeq (·.pop)) hS2 rfl
 have oth:∀b o,b≠s.heap.objs.size->(H.push io).get? b=some o->(((H.push io).update s.heap.objs.size (Obj.mapSeq (·.push Value.none))).update s.heap.objs.size (Obj.mapSeq (·.pop))).get? b=some o:=
  λ b o hb e=>(Heap.get?_update_other _ _ (Ne.symm hb)).trans ((Heap.get?_update_other _ _ (Ne.symm hb)).trans e)
 have hne:a≠H.objs.size:=by rw [hHs];exact Nat.ne_of_lt (Nat.lt_succ_of_lt hlt)
 have hIS:H.objs.size≠s.heap.objs.size:=by rw [hHs];exact Nat.succ_ne_self _
 have haS:a≠s.heap.objs.size:=Nat.ne_of_lt hlt
 have W:=(Walks.setP (prog:=prog) (w:=w) (A:=A.in1) (by simp [hh]) H.objs.size a hne hex hd he hn).toS
 have hSf:s.heap.objs.size∉[H.objs.size,a]:=λ hm=>by
  rcases List.mem_cons.mp hm with z | hm
  ·exact hIS z.symm
  ·exact haS (List.mem_singleton.mp hm).symm
 have hlen:es.size=(zQ n).length:=by rw [<- Array.length_toList,he.length]
 have h8:=QK n
 refine wpAny_pure ⟨plainId_quiet PySem.F.plain_extend_loop _,codeAny_extend_loopS W (by rw [sizeLine_eq];omega) _ hSf _ es.size 0 _ _ _ rfl (Nat.zero_le _) ⟨?_,oth a o haS (Heap.get?_push_of_some _ hoH)⟩ hS3 (ItemsOf.nil _) λ s' acc' c' hm hS' hacc=>?_⟩
 ·refine ⟨io,oth _ _ hIS hio,by rw [<- hIo],?_⟩
  rw [<- hIo]
  have:ko w n 0=0:=by unfold ko JD;split<;>rfl
  rw [this]
  rfl
 show wpAny _ A (load s.heap.objs.size >>= _) _ _ s'
 refine wpAny_bind (wpAny_load hS' ?_)
 have hl:acc'.toList=(yo w a ep es).toList.map (·.2):=by
  have hsz:(yo w a ep es).size=es.size:=by have:=(Jd w a ep es).length_eq;simpa using this
  apply List.ext_getElem?
  intro j
  by_cases hj:j<es.size
  ·have h1:acc'[j]? =some (acc'[j]'(by rw [hacc.1];exact hj)):=Array.getElem?_eq_getElem (by rw [hacc.1];exact hj)
   obtain ⟨e,h2,h3⟩:=hacc.2 j _ h1
   rw [Array.getElem?_toList,h1,List.getElem?_map,Array.getElem?_toList,h2,h3]
   rfl
  ·rw [List.getElem?_eq_none (by rw [Array.length_toList,hacc.1];omega),List.getElem?_eq_none (by rw [List.length_map,Array.length_toList,hsz];omega)]
 show wpAny _ A (pure acc'.toList) _ _ s'
 rw [hl]
 obtain ⟨h',g',d',tk',os'⟩:=s'
 have e1:g'=s.gens:=hm.gens
 have e2:d'=s.drawn:=hm.drawn
 have e3:os'=s.os:=hm.os
 subst e1 e2 e3
 refine wpAny_pure (hQ h' tk' (λ b ob hb e=>?_) ?_)
 ·refine hm.heap b ob (λ hm2=>?_) (oth b ob (Nat.ne_of_lt hb) (Heap.get?_push_of_some _ (by rw [<- hH];exact Heap.get?_push_of_some _ e)))
  rcases List.mem_cons.mp hm2 with z | z
  ·exact Nat.ne_of_lt hb z
  ·exact Nat.ne_of_lt (Nat.lt_succ_of_lt hb) ((List.mem_singleton.mp z).trans hHs)
 ·exact Nat.le_of_lt (Heap.lt_size (show h'.get? s.heap.objs.size=_ from hS'))
end
open PySem PySem.Spec PyProof.Rows L2
theorem Tj:∀{a b:List Int},a.Perm b->a.Pairwise (·<=·)->b.Pairwise (·<=·)->a=b
 | [],b,p,_,_=>by rw [List.nil_perm.mp p]
 | x::a,[],p,_,_=>absurd p.length_eq (by simp)
 | x::a,y::b,p,ha,hb=>by
  have hx:x∈y::b:=p.mem_iff.mp (List.mem_cons_self ..)
  have hy:y∈x::a:=p.mem_iff.mpr (List.mem_cons_self ..)
  have e:x=y:=by
   rcases List.mem_cons.mp hx with e | e
   ·exact e
   ·rcases List.mem_cons.mp hy with e2 | e2
    ·exact e2.symm
    ·have h1:=(List.pairwise_cons.mp hb).1 x e
     have h2:=(List.pairwise_cons.mp ha).1 y e2
     omega
  subst e
  rw [Tj (List.Perm.cons_inv p) (List.pairwise_cons.mp ha).2 (List.pairwise_cons.mp hb).2]
theorem II (n v i:Nat):(j6 n v).testBit i=(n.testBit i || decide (i=v)):=by
 unfold j6
 by_cases h:n.testBit v=true
 ·rw [if_pos h]
  by_cases e:i=v
  ·subst e;simp [h]
  ·simp [e]
 ·rw [if_neg h]
  unfold jc
  rw [Nat.testBit_or,Nat.one_shiftLeft,Nat.testBit_two_pow]
  congr 1
  by_cases e:v=i
  ·subst e;simp
  ·simp [e,Ne.symm e]
theorem TV (i:Nat):∀(vs:List Nat) (n:Nat),(vs.foldl j6 n).testBit i=(n.testBit i || decide (i∈vs))
 | [],n=>by simp
 | v::vs,n=>by
  rw [List.foldl_cons,TV i vs,II]
  by_cases e:i=v
  ·simp [e]
  ·simp [e]
theorem Mq (vs:List Nat):zQ (vs.foldl j6 0)=(List.range 8).filter λ i=>decide (i∈vs):=by
 unfold zQ
 congr 1
 funext i
 rw [TV]
 simp
theorem Mw (n:Nat):((zQ n).map λ (i:Nat)=>(i:Int)).Pairwise (·<=·):=by
 rw [List.pairwise_map]
 unfold zQ
 refine List.Pairwise.imp ?_ (List.Pairwise.filter _ List.pairwise_lt_range)
 intro a b h
 omega
theorem q9.snd {es:List (Int × Value)}{vs:List Nat}(h:q9 es vs):∀e∈es,∃tk,e.2=.int e.1 tk:=by
 induction h with
 | nil=>intro e he;cases he
 | cons v tk h ih=>
  intro e he
  rcases List.mem_cons.mp he with rfl | he
  ·exact ⟨tk,rfl⟩
  ·exact ih e he
theorem UI:∀{l:List (Int × Value)},(∀e∈l,∃tk,e.2=.int e.1 tk)->IntsAre (l.map (·.2)) (l.map (·.1))
 | [],_=>.nil
 | e::l,h=>by
  obtain ⟨tk,he⟩:=h e (List.mem_cons_self ..)
  rw [List.map_cons,List.map_cons,he]
  exact .cons _ tk (UI λ x hx=>h x (List.mem_cons_of_mem _ hx))
section
variable {prog:Program}{w:World}{A:Around}{E:Value->Shared->Prop}{s:Shared}{a:Addr}{o:Obj}{es:Array (Int × Value)}{ep n:Nat}
theorem Nh {Q:Value->Shared->Prop}(hh:A.handled=none)(hS:j5 s.heap a (ju w) n)
  (h:∀(h':Heap) (tk:Nat) (l:Addr) (its:List Value) (c:Nat),s.heap.objs.size<=l->h'.get? l=some { cls:=.type "list",data:=.seq its.toArray c }->IntsAre its ((zQ n).map λ (i:Nat)=>(i:Int))->
   (∀b o,s.heap.get? b=some o->h'.get? b=some o)->Q (.ref l) { s with heap:=h',toks:=tk }):
  wpAny (model prog w) A (call (.builtin "sorted") [.ref a]) Q E s:=by
 obtain ⟨o,es,ep,ho,hex,hd,he,hn⟩:=hS
 refine Calls.call_function_entry kind_sorted plain_sorted entry_sorted (args_sorted1 _) ?_
 unfold Builtin.«sorted»
 refine wpAny_bind (m:=checkCount "sorted" 1 1 _) (wpAny_pure ?_)
 refine wpAny_bind (PJ (by simp [hh]) ho hex hd he hn λ h1 tk kp hle=>?_)
 have hp:=Jd w a ep es
 have hI:IntsAre ((yo w a ep es).toList.map (·.2)) ((yo w a ep es).toList.map (·.1)):=UI λ e hm=>he.snd e (hp.mem_iff.mp hm)
 have hperm:((yo w a ep es).toList.map (·.1)).Perm ((zQ n).map λ (i:Nat)=>(i:Int)):=by
  rw [<- he.map1]
  exact hp.map _
 have hlen:((yo w a ep es).toList.map (·.2)).length<=8:=by
  rw [List.length_map,hp.length_eq,he.length]
  exact QK n
 generalize (yo w a ep es).toList.map (·.2)=vs at hI hlen
 generalize (yo w a ep es).toList.map (·.1)=ns at hI hperm
 refine wpAny_bind (wpAny_newList ?_)
 have hoL:(h1.push (seqObj "list" vs.toArray 0)).get? h1.objs.size=some (seqObj "list" vs.toArray 0):=Heap.get?_push_size _ rfl
 show wpAny _ _ _ _ _ { s with heap:=h1.push (seqObj "list" vs.toArray 0),toks:=tk }
 refine wpAny_bind (wpAny_holding (wpAny_call_entry slot_list_sort ⟨_,hoL,rfl⟩ entry_list_sort (list_sort_tree hoL hI (by omega) λ out ns' a1 a2 a3=>⟨_,rfl,?_⟩) (args_list_sort _)))
 have hns:ns'=(zQ n).map λ (i:Nat)=>(i:Int):=Tj (a2.trans hperm) a3 (Mw n)
 subst hns
 refine wpAny_pure ⟨_,rfl,?_⟩
 have e1:=get?_update_seq hoL (λ _=>(#[]:Array Value))
 have e2:=Heap.get?_push_of_some (seqObj "list" #[] 0) (Heap.get?_push_of_some (seqObj "tuple" vs.toArray 0) e1)
 obtain ⟨c,e3⟩:∃c,(sortedHeap (h1.push (seqObj "list" vs.toArray 0)) h1.objs.size vs out).get? h1.objs.size=some (seqObj "list" out c):=⟨_,get?_update_seq e2 (λ _=>out)⟩
 refine h _ tk h1.objs.size out.toList c hle ?_ a1 λ b ob e=>?_
 ·rw [Array.toArray_toList]
  exact e3
 ·have lb:b<s.heap.objs.size:=Heap.lt_size e
  have k1:=kp b ob lb e
  have nb:h1.objs.size≠b:=Nat.ne_of_gt (Nat.lt_of_lt_of_le lb hle)
  unfold sortedHeap
  refine (Heap.get?_update_other _ _ nb).trans ?_
  refine Heap.get?_push_of_some _ (Heap.get?_push_of_some _ ?_)
  exact (Heap.get?_update_other _ _ nb).trans (Heap.get?_push_of_some _ k1)
end
section
variable {X:Cx}{xr:XR}{e:Expr}{m:Ev}{pos:Pos}
noncomputable def DX (K:Frag)(w:World):List V->Hp->VK->Prop:=λ xs H Q=>∃(p:Addr) (vs:List Nat),xs=[.ref p]/\qS K H p (vs.map λ (v:Nat)=>V.int (v:Int))/\(∀v∈vs,v<8)/\∀l,H l=none->Q (.ref l) (upd H l (.ext λ h=>j5 h l (ju w) (vs.foldl j6 0)))
theorem Ms (hc:X.calm=true):jK X (.type "set") (DX X.K X.w):=by
 intro pins s σ H xs us Q I r h
 obtain ⟨p,vs,rfl,hq,h8,q⟩:=h
 obtain ⟨u,rfl,ru⟩:=vals1 r
 cases ru
 obtain ⟨its,rv,⟨o,k,e1,e2,e3,e4⟩,_⟩:=I.list hq
 have hv:Vals ((vs.map λ (v:Nat)=>(v:Int)).map V.int) its:=by rw [List.map_map];exact rv
 refine Oh (I.ok.hd hc) ⟨o,e1,e2,k,e4⟩ (intsAre_of hv) h8 λ h' tk S' kp=>?_
 refine ⟨.ref s.heap.objs.size,_,I.laid (t':=tk) (o:=.ext λ h=>j5 h s.heap.objs.size (ju X.w) (vs.foldl j6 0)) (λ b o e=>kp b o (Heap.lt_size e) e) (Nat.le_refl _) ⟨S',?_,λ h1 h2 a b=>a.keep b⟩,rfl,q _ (I.hok.fresh (Nat.le_refl _))⟩
 obtain ⟨o,es,ep,ho,_⟩:=S'
 exact ⟨o,ho⟩
theorem Je:∀{ns:List Int} {its:List Value},IntsAre its ns->Vals (ns.map V.int) its
 | _,_,.nil=>.nil
 | _,_,.cons n t h=>.cons ⟨t,rfl⟩ (Je h)
theorem OJ (hc:X.calm=true):jK X (.builtin "sorted") (λ xs H Q=>∃(p:Addr) (n:Nat),xs=[.ref p]/\H p=some (.ext λ h=>j5 h p (ju X.w) n)/\∀l,H l=none->Q (.ref l) (upd H l (.lst ((zQ n).map λ (v:Nat)=>V.int (v:Int))))):=by
 intro pins s σ H xs us Q I r h
 obtain ⟨p,n,rfl,hq,q⟩:=h
 obtain ⟨u,rfl,ru⟩:=vals1 r
 cases ru
 have hS:j5 s.heap p (ju X.w) n:=(show qY X.prog X.w H s.heap p (.ext λ h=>j5 h p (ju X.w) n) from I.hok p _ hq).1
 refine Nh (I.ok.hd hc) hS λ h' tk l its c hl hg hi kp=>?_
 have hv:=Je hi
 rw [List.map_map] at hv
 refine ⟨.ref l,_,I.laid (t':=tk) (o:=.lst ((zQ n).map λ (v:Nat)=>V.int (v:Int))) kp hl ⟨?_,its,c,hv,hg⟩,rfl,q _ (I.hok.fresh hl)⟩
 rw [List.length_map,sizeLine_eq]
 have:=QK n
 omega
noncomputable def Zp:List Int->Option (List Nat)
 | []=>some []
 | i::is=>if 0<=i/\i<8 then (Zp is).map (i.toNat::·) else none
theorem Th:∀{is:List Int} {vs:List Nat},Zp is=some vs->is=vs.map (λ (v:Nat)=>(v:Int))/\∀v∈vs,v<8
 | [],_,e=>by cases e;exact ⟨rfl,λ v hv=>by cases hv⟩
 | i::is,vs,e=>by
  unfold Zp at e
  by_cases h:0<=i/\i<8
  ·rw [if_pos h] at e
   cases e1:Zp is with
   | none=>rw [e1] at e;cases e
   | some us=>
    rw [e1] at e
    cases e
    obtain ⟨h1,h2⟩:=Th e1
    refine ⟨?_,λ v hv=>?_⟩
    ·rw [List.map_cons,<- h1,Int.toNat_of_nonneg h.1]
    ·rcases List.mem_cons.mp hv with rfl | hv
     ·omega
     ·exact h2 v hv
  ·rw [if_neg h] at e;cases e
noncomputable def G9:W->Hx->R W:=λ w A=>match w with
 | .ref n=>match A[n]? with
  | some (.lst ws)=>match intsOf ws with
   | some is=>match Zp is with
    | some vs=>.ok (.ref A.length) (A++[.lst (((List.range 8).filter λ i=>decide (i∈vs)).map λ (i:Nat)=>W.int (i:Int))])
    | none=>.bad
   | none=>.bad
  | _=>.bad
 | _=>.bad
noncomputable def YL (m:Ev):Ev:=λ ρ A=>(m ρ A).bind λ w A1=>G9 w A1
end
theorem N3 (a b:Value):argsOk "sum" ⟨[a,b],[]⟩:=by unfold argsOk;kernel_rfl
theorem sub_list_str:isSubtype (.type "list") (.type "str")=pure false:=by rw [isSubtype_type];kernel_rfl
theorem sub_list_bytes:isSubtype (.type "list") (.type "bytes")=pure false:=by rw [isSubtype_type];kernel_rfl
theorem sub_list_bytearray:isSubtype (.type "list") (.type "bytearray")=pure false:=by rw [isSubtype_type];kernel_rfl
noncomputable abbrev kL (xs:Array Value)(c:Nat):Obj:={ cls:=.type "list",dict:=none,data:=.seq xs c,slots:=#[] }
section
variable {prog:Program}{w:World}{A:Around}{R:Result->Shared->Prop}{I:Addr}{fp wr:List Addr}{G:Array GenState->Array GenState->Prop}{n:Nat}{P:Nat->Value->Prop}{St:Nat->Shared->Prop}
theorem MK (W:WalksS prog w A.in1 I fp wr G n P St)(S B:Addr)(hSf:S∉fp)(hBS:B<=S)(ad:Nat->Addr)(its:Nat->List Value)(hval:∀i v,P i v->v=.ref (ad i))(had:∀i,i<n->ad i≠S/\ad i∉wr)(hwS:∀b∈wr,b<S):
  ∀(k i:Nat) (s:Shared) (T:Addr) (c cT:Nat) (acc:List Value),n - i=k->i<=n->St i s->s.heap.get? S=some (kL #[.ref T] c)->T≠S->T∉wr->s.heap.get? T=some (kL acc.toArray cT)->
   (∀j,i<=j->j<n->∃cj,s.heap.get? (ad j)=some (kL (its j).toArray cj))->(acc++(((List.range' i k).map its).flatten)).length<=sizeLine->
   (∀s' T' c',Moved (S::wr) G s s'->s'.heap.get? T'=some (kL (acc++(((List.range' i k).map its).flatten)).toArray c')->((k=0/\T'=T)∨B<=T')->R (.ok (.ret (.ref T'))) s')->
   codeAny (model prog w) A (.builtin "sum.loop" ⟨[.ref I,.ref S,rawInt 2,rawInt 0],[]⟩) R s:=by
 have hSw:S∉wr:=λ h=>hSf (W.sub _ h)
 have hsub:∀b∈wr,b∈S::wr:=λ b hb=>List.mem_cons_of_mem _ hb
 intro k
 induction k with
 | zero=>
  intro i s T c cT acc hk hi hst hS hTS hTw hT hl hz hR
  have hin:i=n:=by omega
  subst hin
  refine codeAny_builtin PySem.F.entry_sum_loop ?_
  rw [Around.under_plainId PySem.F.plain_sum_loop _]
  show wpAny _ A.in1 (seqItems? (.ref S) >>= _) _ _ s
  refine wpAny_bind (wpAny_seqItems hS rfl ?_)
  show wpAny _ A.in1 (tryCatch (pyNext (.ref I)) _ >>= _) _ _ s
  refine wpAny_bind (wpAny_tryCatch (W.done s _ _ hst λ s' hm=>?_))
  refine wpAny_pure (hR s' T cT (hm.mono hsub) ?_ (.inl ⟨rfl,rfl⟩))
  have:=hm.heap T _ hTw hT
  simpa using this
 | succ k ih=>
  intro i s T c cT acc hk hi hst hS hTS hTw hT hl hz hR
  have hlt:i<n:=by omega
  refine codeAny_builtin PySem.F.entry_sum_loop ?_
  rw [Around.under_plainId PySem.F.plain_sum_loop _]
  show wpAny _ A.in1 (seqItems? (.ref S) >>= _) _ _ s
  refine wpAny_bind (wpAny_seqItems hS rfl ?_)
  show wpAny _ A.in1 (tryCatch (pyNext (.ref I)) _ >>= _) _ _ s
  refine wpAny_bind (wpAny_tryCatch (W.item i s _ _ hlt hst λ v s' hP hst' hm=>?_))
  have hv:=hval i v hP
  subst hv
  have hS':=hm.heap S _ hSw hS
  have hT':=hm.heap T _ hTw hT
  obtain ⟨ci,hli⟩:=hl i (Nat.le_refl _) hlt
  have hli':=hm.heap (ad i) _ (had i hlt).2 hli
  rw [List.range'_succ,List.map_cons,List.flatten_cons,<- List.append_assoc] at hz hR
  have hz1:(acc++its i).length<=sizeLine:=by rw [List.length_append] at hz;omega
  show wpAny _ A.in1 ((holding [Value.ref (ad i)] (binaryOp .Add (.ref T) (.ref (ad i)))).attempt >>= _) _ _ _
  refine wpAny_bind (wpAny_attempt (wpAny_holding (PySem.P.add_list hT' hli' ?_ (by rw [List.size_toArray,List.size_toArray,<- List.length_append];exact hz1))))
  have ea:acc.toArray++(its i).toArray=(acc++its i).toArray:=by simp
  rw [ea]
  have ltS:S<s'.heap.objs.size:=Heap.lt_size hS'
  have hS1:=Heap.get?_push_of_some (kL (acc++its i).toArray 0) hS'
  have hN1:(s'.heap.push (kL (acc++its i).toArray 0)).get? s'.heap.objs.size=some (kL (acc++its i).toArray 0):=Heap.get?_push_size _ rfl
  show wpAny _ A.in1 (updateSeq S (λ _=>#[.ref s'.heap.objs.size]) >>= _) _ _ _
  refine wpAny_bind (wpAny_updateSeq hS1 rfl ?_)
  have hS2:=Heap.get?_update_self (Obj.mapSeq λ _=>#[Value.ref s'.heap.objs.size]) hS1 rfl
  refine wpAny_bind (wpAny_letGo ?_)
  have neS:s'.heap.objs.size≠S:=Nat.ne_of_gt ltS
  have oth:∀b o,b≠S->s'.heap.get? b=some o->(((s'.heap.push (kL (acc++its i).toArray 0)).update S (Obj.mapSeq λ _=>#[Value.ref s'.heap.objs.size])).update S (Obj.mapSeq λ _=>#[Value.ref s'.heap.objs.size])).get? b=some o:=
   λ b o hb e=>(Heap.get?_update_other _ _ (Ne.symm hb)).trans ((Heap.get?_update_other _ _ (Ne.symm hb)).trans (Heap.get?_push_of_some _ e))
  have nwr:s'.heap.objs.size∉wr:=λ hm2=>Nat.lt_irrefl _ (Nat.lt_trans (hwS _ hm2) ltS)
  refine wpAny_bind (wpAny_updateSeq hS2 rfl (wpAny_pure ⟨plainId_quiet PySem.F.plain_sum_loop _,ih (i+1) _ s'.heap.objs.size _ 0 (acc++its i) (by omega) hlt (W.frame _ s' _ _ hst' (by first | exact Nat.le_refl _ | exact Nat.le_succ _ | omega) λ b hb o e=>oth b o (λ h=>hSf (h ▸ hb)) e) (Heap.get?_update_self _ hS2 rfl) neS nwr ?_ ?_ hz λ s'' T'' c'' hm'' hT'' hor=>?_⟩))
  ·exact (Heap.get?_update_other _ _ (Ne.symm neS)).trans ((Heap.get?_update_other _ _ (Ne.symm neS)).trans hN1)
  ·intro j h1 h2
   obtain ⟨cj,hj⟩:=hl j (by omega) h2
   exact ⟨cj,oth _ _ (had j h2).1 (hm.heap _ _ (had j h2).2 hj)⟩
  ·refine hR s'' T'' c'' (Moved.trans W.gtrans ((hm.mono hsub).then_heap (by first | exact Nat.le_refl _ | exact Nat.le_succ _ | omega) λ b o hb e=>oth b o (λ h=>hb (by rw [h];exact List.mem_cons_self)) e) hm'') hT'' (.inr ?_)
   rcases hor with ⟨_,rfl⟩ | h
   ·exact Nat.le_of_lt (Nat.lt_of_le_of_lt hBS ltS)
   ·exact h
end
section
variable {prog:Program}{w:World}{A:Around}{E:Value->Shared->Prop}{s:Shared}
theorem Mz {p q:Addr}{cq:Nat}{ads:List Addr}{itss:List (List Value)}{Q:Value->Shared->Prop}(hh:A.handled=none)(hp:s.heap.IsList p (ads.map Value.ref).toArray)(hq:s.heap.get? q=some (kL #[] cq))
  (hlen:ads.length=itss.length)(hl:∀i,i<ads.length->∃c,s.heap.get? (ads.getD i 0)=some (kL (itss.getD i []).toArray c))(hne:ads≠[])(hz:itss.flatten.length<=sizeLine)
  (h:∀(h':Heap) (tk:Nat) (l:Addr) (c:Nat),s.heap.objs.size<=l->h'.get? l=some (kL itss.flatten.toArray c)->(∀b o,s.heap.get? b=some o->h'.get? b=some o)->Q (.ref l) { s with heap:=h',toks:=tk }):
  wpAny (model prog w) A (call (.builtin "sum") [.ref p,.ref q]) Q E s:=by
 refine call_function_tree PySem.F.kind_sum PySem.F.plain_sum PySem.F.entry_sum (N3 _ _) ?_
 unfold Builtin.«sum»
 simp only [List.length_cons,List.length_nil]
 rw [if_neg (by decide)]
 refine wpAny_bind (wpAny_of_eq (show Builtin.Builtins.bindParams "sum" ["start"] 0 ⟨[.ref q],[]⟩=pure [some (.ref q)] from rfl) ?_)
 refine wpAny_bind (wpAny_pyIter_list hp ?_)
 refine wpAny_bind (wpAny_pure ?_)
 generalize hio:({ cls:=.type "list_iterator",data:=.fields #[.ref p,.int 0 0] }:Obj)=io
 have hq1:(s.heap.push io).get? q=some (kL #[] cq):=Heap.get?_push_of_some _ hq
 have hT:Shared.TypeIs { s with heap:=s.heap.push io } (.ref q) "list" := ⟨_,hq1,rfl⟩
 simp only [List.forIn_cons,List.forIn_nil]
 refine wpAny_bind (wpAny_bind (wpAny_bind (wpAny_isInstance (b:=false) hT sub_list_str ?_)))
 simp only [Bool.false_eq_true,if_false]
 refine wpAny_pure (wpAny_bind (wpAny_bind (wpAny_isInstance (b:=false) hT sub_list_bytes ?_)))
 simp only [Bool.false_eq_true,if_false]
 refine wpAny_pure (wpAny_bind (wpAny_bind (wpAny_isInstance (b:=false) hT sub_list_bytearray ?_)))
 simp only [Bool.false_eq_true,if_false]
 refine wpAny_pure (wpAny_pure ?_)
 refine wpAny_bind (wpAny_newObj_type ?_)
 have sz:(s.heap.push io).objs.size=s.heap.objs.size+1:=Heap.size_push ..
 have ltp:p<s.heap.objs.size:=by obtain ⟨o,e,_⟩:=hp;exact Heap.lt_size e
 have ltq:q<s.heap.objs.size:=Heap.lt_size hq
 have ltI:s.heap.objs.size<(s.heap.push io).objs.size:=by rw [sz];exact Nat.lt_succ_self _
 have ltS:∀b,b<s.heap.objs.size->b<(s.heap.push io).objs.size:=λ b hb=>Nat.lt_trans hb ltI
 have W:=(Walks.list (prog:=prog) (w:=w) (A:=A.in1) (by simp [hh]) s.heap.objs.size p (Nat.ne_of_lt ltp) (ads.map Value.ref).toArray).toS
 have esz:(ads.map Value.ref).toArray.size=ads.length:=by simp
 rw [esz] at W
 have hSf:(s.heap.push io).objs.size∉[s.heap.objs.size,p]:=λ hm=>by
  rcases List.mem_cons.mp hm with z | hm
  ·exact Nat.ne_of_gt ltI z
  ·exact Nat.ne_of_gt (ltS p ltp) (List.mem_singleton.mp hm)
 have hlt:∀i,i<ads.length->ads.getD i 0<s.heap.objs.size:=λ i hi=>by obtain ⟨c,e⟩:=hl i hi;exact Heap.lt_size e
 have gio:(s.heap.push io).get? s.heap.objs.size=some io:=Heap.get?_push_size _ (by rw [<- hio];rfl)
 have hcat:((List.range' 0 ads.length).map λ j=>itss.getD j []).flatten=itss.flatten:=by
  congr 1
  rw [hlen]
  apply List.ext_getElem
  ·simp
  ·intro i h1 h2
   simp [List.getD_eq_getElem?_getD,List.getElem?_eq_getElem h2]
 refine wpAny_pure ⟨plainId_quiet PySem.F.plain_sum_loop _,MK W (s.heap.push io).objs.size s.heap.objs.size hSf (Nat.le_of_lt ltI) (λ i=>ads.getD i 0) (λ i=>itss.getD i []) (λ i v e=>?_) (λ i hi=>⟨Nat.ne_of_lt (ltS _ (hlt i hi)),λ hm=>?_⟩) (λ b hb=>?_)
  ads.length 0 _ q 0 cq [] (by omega) (Nat.zero_le _) ⟨⟨io,Heap.get?_push_of_some _ gio,by rw [<- hio],by rw [<- hio];rfl⟩,(hp.push _).push _⟩ (Heap.get?_push_size _ rfl) (Nat.ne_of_lt (ltS q ltq)) (λ hm=>?_) (Heap.get?_push_of_some _ hq1) (λ j _ hj=>?_) ?_ λ s' T' c' hm hT' hor=>?_⟩
 ·have hi:i<ads.length:=by
   have:=(Array.getElem?_eq_some_iff.mp e).1
   simpa using this
  have e2:(ads.map Value.ref)[i]? =some v:=by simpa using e
  rw [List.getElem?_map,List.getElem?_eq_getElem hi] at e2
  rw [List.getD_eq_getElem?_getD,List.getElem?_eq_getElem hi]
  exact (Option.some.inj e2).symm
 ·exact Nat.ne_of_lt (hlt i hi) (List.mem_singleton.mp hm)
 ·rw [List.mem_singleton.mp hb];exact ltI
 ·exact Nat.ne_of_lt ltq (List.mem_singleton.mp hm)
 ·obtain ⟨c,e⟩:=hl j hj
  exact ⟨c,Heap.get?_push_of_some _ (Heap.get?_push_of_some _ e)⟩
 ·rw [List.nil_append,hcat];exact hz
 ·rw [List.nil_append,hcat] at hT'
  have hB:s.heap.objs.size<=T':=by
   rcases hor with ⟨h0,_⟩ | h0
   ·exact absurd (List.length_eq_zero_iff.mp h0) hne
   ·exact h0
  obtain ⟨h',g',d',tk',os'⟩:=s'
  have e1:g'=s.gens:=hm.gens
  have e2:d'=s.drawn:=hm.drawn
  have e3:os'=s.os:=hm.os
  subst e1 e2 e3
  refine h h' tk' T' c' hB hT' λ b o e=>hm.heap b o (λ hm2=>?_) (Heap.get?_push_of_some _ (Heap.get?_push_of_some _ e))
  have lb:b<s.heap.objs.size:=Heap.lt_size e
  rcases List.mem_cons.mp hm2 with z | z
  ·exact Nat.ne_of_lt (ltS b lb) z
  ·exact Nat.ne_of_lt lb (List.mem_singleton.mp z)
end
section
variable {X:Cx}{xr:XR}{a b:Expr}{ma mb:Ev}{pos:Pos}{K:Frag}
noncomputable def RP (K:Frag):List V->Hp->VK->Prop:=λ xs H Q=>∃(p q:Addr) (ls:List (Addr × List V)),xs=[.ref p,.ref q]/\H p=some (.lst (ls.map λ l=>V.ref l.1))/\H q=some (.lst [])/\(∀l∈ls,H l.1=some (.lst l.2))/\ls≠[]/\(ls.map (·.2)).flatten.length<=zW/\
 ∀l,H l=none->Q (.ref l) (upd H l (.lst (ls.map (·.2)).flatten))
theorem To:∀{ls:List (Addr × List V)} {us:List Value},Vals (ls.map λ l=>V.ref l.1) us->us=(ls.map (·.1)).map Value.ref
 | [],_,h=>by cases h;rfl
 | l::ls,_,h=>by
  cases h with
  | cons r t=>cases r;rw [To t];rfl
theorem Ml (hc:X.calm=true):jK X (.builtin "sum") (RP X.K):=by
 intro pins s σ H xs us Q I r h
 obtain ⟨p,q,ls,rfl,hp,hq,hl,hne,hz,k⟩:=h
 obtain ⟨u,v,rfl,ru,rv⟩:=Vals.two r
 cases ru
 cases rv
 obtain ⟨_,itp,np,rp,_,ep⟩:=I.lstM hp
 obtain ⟨_,itq,nq,rq,lq,eq⟩:=I.lstM hq
 have hitq:itq=[]:=by cases rq;rfl
 subst hitq
 have hitp:=To rp
 subst hitp
 have hex:∀ls':List (Addr × List V),(∀l∈ls',H l.1=some (.lst l.2))->∃itss:List (List Value),itss.length=ls'.length/\(∀i,i<ls'.length->∃c,s.heap.get? ((ls'.map (·.1)).getD i 0)=some (kL (itss.getD i []).toArray c))/\Vals (ls'.map (·.2)).flatten itss.flatten:=by
  intro ls'
  induction ls' with
  | nil=>intro _;exact ⟨[],rfl,λ i hi=>absurd hi (Nat.not_lt_zero _),.nil⟩
  | cons l ls' ih=>
   intro hm
   obtain ⟨itss,h1,h2,h3⟩:=ih λ x hx=>hm x (List.mem_cons_of_mem _ hx)
   obtain ⟨_,it,n,r1,_,e1⟩:=I.lstM (hm l (List.mem_cons_self ..))
   refine ⟨it::itss,by simp [h1],λ i hi=>?_,?_⟩
   ·cases i with
    | zero=>exact ⟨n,e1⟩
    | succ i=>exact h2 i (by simpa using hi)
   ·rw [List.map_cons,List.flatten_cons,List.flatten_cons]
    exact r1.append h3
 obtain ⟨itss,h1,h2,h3⟩:=hex ls hl
 have hfl:itss.flatten.length=(ls.map (·.2)).flatten.length:=h3.length.symm
 refine Mz (I.ok.hd hc) (itss:=itss) ⟨_,ep,rfl,np,rfl⟩ eq (by simp [h1]) (λ i hi=>h2 i (by simpa using hi)) (λ e=>hne (List.map_eq_nil_iff.mp e)) (by rw [hfl];exact gG hz) λ h' tk l c hl' hg kp=>?_
 exact ⟨.ref l,_,I.laid (t':=tk) (o:=.lst (ls.map (·.2)).flatten) kp hl' ⟨gG hz,itss.flatten,c,h3,hg⟩,rfl,k _ (I.hok.fresh hl')⟩
noncomputable def kZ (A:Hx):List W->Option (List (List W))
 | []=>some []
 | .ref k::us=>match A[k]? with
  | some (.lst ws)=>(kZ A us).map (ws::·)
  | _=>none
 | _::_=>none
noncomputable def gR:W->W->Hx->R W:=λ x y A=>match x,y with
 | .ref n,.ref k=>match A[n]?,A[k]? with
  | some (.lst us),some (.lst [])=>match kZ A us with
   | some wss=>if us≠[]/\wss.flatten.length<=zW then .ok (.ref A.length) (A++[.lst wss.flatten]) else .bad
   | none=>.bad
  | _,_=>.bad
 | _,_=>.bad
theorem Fg:∀x y A,qz (gR x y A):=λ x y A=>by
 unfold gR
 split
 ·split
  ·split
   ·exact wZ jM qJ
   ·exact qJ
  ·exact qJ
 ·exact qJ
theorem zB.app {φ:List Addr}{H:Hp}:∀{ws us:List W} {xs ys:List V},zB K φ H ws xs->zB K φ H us ys->zB K φ H (ws++us) (xs++ys)
 | [],_,_,_,h,h2=>by cases h;exact h2
 | w::ws,_,_,_,⟨v,r,e,h,t⟩,h2=>by subst e;exact ⟨v,_,rfl,h,zB.app t h2⟩
theorem UZ {φ:List Addr}{A:Hx}{H:Hp}(S:zF K φ A H):∀{us:List W} {wss:List (List W)} {vs:List V},kZ A us=some wss->zB K φ H us vs->∃ls:List (Addr × List V),vs=ls.map (λ l=>V.ref l.1)/\(∀l∈ls,H l.1=some (.lst l.2))/\zB K φ H wss.flatten (ls.map (·.2)).flatten/\ls.length=us.length
 | [],_,_,e,h=>by cases e;cases h;exact ⟨[],rfl,λ l hl=>(by cases hl),rfl,rfl⟩
 | u::us,wss,_,e,⟨v,r,e1,h,t⟩=>by
  subst e1
  cases u with
  | ref k=>
   unfold kZ at e
   cases ek:A[k]? with
   | none=>rw [ek] at e;cases e
   | some o=>cases o with
    | lst ws=>
     rw [ek] at e
     dsimp only at e
     cases e2:kZ A us with
     | none=>rw [e2] at e;cases e
     | some wss'=>
      rw [e2] at e
      cases e
      obtain ⟨p,xs,rfl,_,hp,rr⟩:=S.lst h ek
      obtain ⟨ls,rfl,h2,h3,h4⟩:=UZ S e2 t
      refine ⟨(p,xs)::ls,rfl,λ l hl=>?_,zB.app rr h3,by simp [h4]⟩
      rcases List.mem_cons.mp hl with rfl | hl
      ·exact hp
      ·exact h2 l hl
    | _=>rw [ek] at e;cases e
  | _=>cases e
theorem Ii:jQ K (λ x y=>RP K [x,y]) gR:=λ φ A H x y u v Q S q1 q2 p=>by
 unfold gR at p
 cases u with
 | ref n=>cases v with
  | ref k=>
   dsimp only at p
   cases en:A[n]? with
   | none=>rw [en] at p;exact p.elim
   | some o=>cases o with
    | lst us=>
     cases ek:A[k]? with
     | none=>rw [en,ek] at p;exact p.elim
     | some o2=>cases o2 with
      | lst zs=>cases zs with
       | nil=>
        rw [en,ek] at p
        dsimp only at p
        cases e3:kZ A us with
        | none=>rw [e3] at p;exact p.elim
        | some wss=>
         rw [e3] at p
         dsimp only at p
         by_cases hc:us≠[]/\wss.flatten.length<=zW
         ·rw [if_pos hc] at p
          obtain ⟨pa,xs,rfl,_,hp,rr⟩:=S.lst q1 en
          obtain ⟨pb,ys,rfl,_,hq,rr2⟩:=S.lst q2 ek
          cases rr2
          obtain ⟨ls,rfl,h2,h3,h4⟩:=UZ S e3 rr
          refine ⟨pa,pb,ls,rfl,hp,hq,h2,λ e=>?_,by rw [<- h3.length];exact hc.2,λ l hl=>?_⟩
          ·rw [e] at h4
           exact hc.1 (List.length_eq_zero_iff.mp h4.symm)
          ·obtain ⟨a1,a2,a3⟩:=ZW S hl h3
           exact p _ _ _ a1 a2 a3
         ·rw [if_neg hc] at p;exact p.elim
       | cons _ _=>rw [en,ek] at p;exact p.elim
      | _=>rw [en,ek] at p;exact p.elim
    | _=>rw [en] at p;exact p.elim
  | _=>exact p.elim
 | _=>cases v<;>exact p.elim
end
section
variable {X:Cx}{xr:XR}{a b:Expr}{ma mb:Ev}{pos:Pos}
noncomputable def F6 (ta:TA):TE:=λ σ H Q=>ta σ H λ vs H1=>∃i j:Int,vs=[.int i,.int j]/\∀p,H1 p=none->Q (.ref p) (upd H1 p (.rng i j))
theorem Ly {ta:TA}{p:Pos}(hg:Gl X "range")(hm:X.mg "range" = none)(ha:PA X [a,b] ta)(hs:starEach [a,b] X.env=[(false,eval a X.env),(false,eval b X.env)])(hs2:starEach [b] X.env=[(false,eval b X.env)]):PE X (.Call (.Name "range" p) [a,b] [] pos) (F6 ta):=by
 intro pins s σ H Q I h
 refine Call_ (Zs I hg hm boot_range (PyProof.Rows.callWith_type1 (zS (ha pos pins s σ H _ I h) λ us s1 ⟨vs,H1,I1,r1,q1⟩=>?_) (by rw [hs,hs2]) (by rw [hs2];rfl)))
 obtain ⟨i,j,rfl,q⟩:=q1
 obtain ⟨u,v,rfl,⟨t,rfl⟩,⟨t2,rfl⟩⟩:=Vals.two r1
 refine call_range_2 ⟨.ref _,_,I1.laid (o:=.rng i j) (λ b o eo=>Heap.get?_push_of_some _ eo) (Nat.le_refl _) ?_,rfl,q _ (I1.hok.fresh (Nat.le_refl _))⟩
 exact ⟨_,_,_,Heap.get?_push_size _ rfl⟩
noncomputable def Z6 (lo:Int)(n:Nat):List V:=(List.range n).map λ (i:Nat)=>V.int (lo+i)
theorem O7 (hc:X.calm=true):jK X (.type "list") (λ xs H Q=>∃(r:Addr) (i j:Int),xs=[.ref r]/\H r=some (.rng i j)/\(-(2 ^ 62)<=i/\i<2 ^ 62)/\(-(2 ^ 62)<=j/\j<2 ^ 62)/\(j - i).toNat<=sizeLine/\∀l,H l=none->Q (.ref l) (upd H l (.lst (Z6 i (j - i).toNat)))):=by
 intro pins s σ H xs us Q I r h
 obtain ⟨p,i,j,rfl,hp,⟨a1,a2⟩,⟨b1,b2⟩,hz,q⟩:=h
 obtain ⟨u,rfl,ru⟩:=vals1 r
 cases ru
 obtain ⟨t1,t2,t3,ho⟩:=I.hok p _ hp
 have hl:sizeLine=16777216:=sizeLine_eq
 refine PySem.call_list_range (n:=(j - i).toNat) (I.ok.hd hc) (show IsRange s.heap p i j 1 t1 t2 t3 from ho) (small_one (by omega) (by omega) b1 b2) (by rw [rangeSize_one];split<;>omega) (by omega) λ h' tk acc c' kk hS ⟨hn,hat⟩=>?_
 refine ⟨.ref s.heap.objs.size,_,I.laid (t':=tk) (o:=.lst (Z6 i (j - i).toNat)) kk (Nat.le_refl _) ?_,rfl,q _ (I.hok.fresh (Nat.le_refl _))⟩
 refine ⟨by unfold Z6;simpa using hz,acc.toList,c',?_,by simpa using hS⟩
 have hv:∀(l:List Value) (k:Nat),(∀(m:Nat) v,l[m]? =some v->∃t,v=.int (i+((k+m:Nat):Int)) t)->Vals ((List.range' k l.length).map λ (m:Nat)=>V.int (i+(m:Int))) l:=by
  intro l
  induction l with
  | nil=>intro k _;exact .nil
  | cons v l ih=>
   intro k hk
   rw [List.length_cons,List.range'_succ,List.map_cons]
   refine .cons ?_ (ih (k+1) λ m v' hv=>?_)
   ·obtain ⟨t,rfl⟩:=hk 0 v rfl
    exact ⟨t,rfl⟩
   ·obtain ⟨t,rfl⟩:=hk (m+1) v' (by simpa using hv)
    exact ⟨t,by first | rfl | (congr 1<;>omega) | (simp;omega)⟩
 have hl':acc.toList.length=(j - i).toNat:=by simpa using hn
 have:=hv acc.toList 0 λ m v hiv=>by
  obtain ⟨t,rfl⟩:=hat m v (by simpa using hiv)
  exact ⟨t,by first | rfl | (congr 1<;>omega) | (simp;omega)⟩
 rw [hl'] at this
 unfold Z6
 rw [List.range_eq_range']
 exact this
noncomputable def Jn (ma mb:Ev):Ev:=λ ρ A=>(ma ρ A).bind λ x A1=>(mb ρ A1).bind λ y A2=>match x,y with
 | .int i,.int j=>if jz i&&(jz j&&decide ((j - i).toNat<=zW)) then .ok (.ref A2.length) (A2++[.lst ((List.range (j - i).toNat).map λ (k:Nat)=>W.int (i+k))]) else .bad
 | _,_=>.bad
end
section
variable {prog:Program}{w:World}{A:Around}{E:Value->Shared->Prop}{s:Shared}
theorem PH {t sl:Addr}{items:Array Value}{vl vu:Value}{lo hi:Option Int}{Q:Value->Shared->Prop}(ht:IsTup s.heap t items)(hs:s.heap.IsSliceOf sl vl vu .none)(pl:IsPart vl lo)(pu:IsPart vu hi)
  (hw:HT.qi items.size 0 lo=0/\HT.qi items.size items.size hi=items.size)(h:Q (.ref t) s):wpAny (model prog w) A (getItem (.ref t) (.ref sl)) Q E s:=by
 obtain ⟨os,hos,hcs,hds⟩:=id hs
 have hTs:s.TypeIs (.ref sl) "slice" := ⟨os,hos,hcs⟩
 unfold getItem
 try with_reducible refine wpAny_holding ?_
 first | refine wpAny_bind (wpAny_pure ?_) | skip
 refine wpAny_bind (wpAny_sequenceKey ht.typeIs (by decide) ?_)
 refine wpAny_bind (wpAny_callSpecial?_slot (name:=Str.ofString "__getitem__") ht.typeIs PyProof.Rows.slot_tuple_getitem
  (wpAny_call_entry PyProof.Rows.slot_tuple_getitem ht.typeIs PyProof.Rows.entry_tuple_getitem ?_ (PyProof.Rows.args_tuple_getitem _ _)))
 show wpAny _ _ (Builtin.Tuple.tupleItemsOf (.ref t) >>= _) _ _ s
 refine wpAny_bind (PyProof.Rows.tupleItemsOf_ ht ?_)
 refine wpAny_bind (wpAny_typeOf hTs ?_)
 rw [if_pos (by decide)]
 refine wpAny_bind (HT.UA hs pl pu ?_)
 show wpAny _ _ (if (((HT.qi items.size 0 lo:Nat):Int)==0&&(1:Int)==1&&(HT.qi items.size items.size hi - HT.qi items.size 0 lo)==items.size)=true then _ else _) _ _ s
 rw [if_pos (by rw [hw.1,hw.2];simp)]
 unfold Builtin.Tuple.tupleIsExact
 refine wpAny_bind (wpAny_bind (wpAny_typeOf ht.typeIs (wpAny_pure ?_)))
 rw [if_pos (by decide)]
 refine wpAny_bind (wpAny_rule ?_)
 first
  | exact wpAny_pure ⟨_,rfl,wpAny_pure h⟩
  | exact wpAny_bind (wpAny_pure (wpAny_pure ⟨_,rfl,wpAny_pure h⟩))
end
section
variable {X:Cx}{xr:XR}{e a b:Expr}{m ma mb:Ev}{pos p2:Pos}{lo hi:Option Expr}{K:Frag}
noncomputable def CQ (K:Frag):V->Option Int->Option Int->Hp->VK->Prop:=λ x lo hi H Q=>∃a xs,x=.ref a/\qp K H a xs/\
 ((HT.qi xs.length 0 lo=0/\HT.qi xs.length xs.length hi=xs.length)->Q (.ref a) H)/\
 (¬(HT.qi xs.length 0 lo=0/\HT.qi xs.length xs.length hi=xs.length)->∀p,H p=none->Q (.ref p) (upd H p (.tup (Qd xs lo hi))))
theorem Fv:Um X (CQ X.K):=by
 intro pins s σ H x v vl vu lo hi sl Q I rx hs pl pu h
 obtain ⟨a,xs,rfl,hx,q1,q2⟩:=h
 by_cases hw:HT.qi xs.length 0 lo=0/\HT.qi xs.length xs.length hi=xs.length
 ·cases rx
  obtain ⟨its,r,ht,hz⟩:=I.tuple hx
  have hlen:its.toArray.size=xs.length:=by rw [List.size_toArray];exact r.length.symm
  exact ⟨"tuple",_,PyProof.Rows.slot_tuple_getitem.lookup,ht.typeIs,PH ht hs pl pu (by rw [hlen];exact hw) ⟨.ref a,H,I,rfl,q1 hw⟩⟩
 ·exact EE pins s σ H _ v vl vu lo hi sl Q I rx hs pl pu ⟨a,xs,rfl,hx,hw,q2 hw⟩
noncomputable abbrev Po:=En->Hx->R (Option Int)
noncomputable def wg:Po:=λ _ A=>.ok none A
noncomputable def wc (m:Ev):Po:=λ ρ A=>(m ρ A).bind λ w A1=>match w with
 | .int i=>.ok (some i) A1
 | _=>.bad
noncomputable def kK (ws:List W)(lo hi:Option Int):List W:=(ws.drop (HT.qi ws.length 0 lo)).take (HT.qi ws.length ws.length hi - HT.qi ws.length 0 lo)
noncomputable def yY (m:Ev)(pl pu:Po):Ev:=λ ρ A=>(m ρ A).bind λ w A1=>(pl ρ A1).bind λ l A2=>(pu ρ A2).bind λ u A3=>match w with
 | .tup ws=>.ok (.tup (kK ws l u)) A3
 | _=>.bad
inductive MP (K:Frag)(xr:XR)(p:Po)(σ:St)(H:Hp)(Q:Option Int->Hp->Prop):Prop
 | mk (φ:List Addr) (A:Hx) (ρ:En) (S:zF K φ A H) (re:RE K φ H ρ σ) (h:(p ρ A).post (λ o A1=>∀φ1 H1,Le K φ H φ1 H1->zF K φ1 A1 H1->Q o H1) (EB K φ H xr))
noncomputable def tP (K:Frag)(xr:XR)(p:Po):TO:=λ σ H Q=>MP K xr p σ H Q
noncomputable def SP (X:Cx)(xr:XR)(e:Option Expr)(p:Po):Prop:=PO X e (tP X.K xr p)
theorem PO.imp {e:Option Expr}{t t':TO}(h:PO X e t)(i:∀σ H Q,t' σ H Q->t σ H Q):PO X e t':=λ pins s σ H Q I hw=>h pins s σ H Q I (i σ H Q hw)
end
section
variable {prog:Program}{w:World}{A:Around}{E:Value->Shared->Prop}{s:Shared}
end
section
variable {X:Cx}{xr:XR}{e st:Expr}{m ms:Ev}{te:TE}{ts:TO}{pos p2:Pos}{K:Frag}
end
section
variable {prog:Program}{w:World}{A:Around}{E:Value->Shared->Prop}{s:Shared}{d:Addr}{kvs:List (Key × Value)}{ep:Nat}
end
section
variable {X:Cx}{xr:XR}{e:Expr}{m:Ev}{pos:Pos}
end
section
variable {X:Cx}{xr:XR}{e:Expr}{m:Ev}{pos:Pos}{K:Frag}
end
noncomputable def Kv (_ j:Int):Bool:=decide (0<j)&&decide (j<1152921504606846976)
noncomputable def RM (i j:Int):Prop:=0<j/\j<1152921504606846976
theorem Lj (i j:Int)(h:Kv i j=true):RM i j:=by
 unfold Kv at h
 rw [Bool.and_eq_true] at h
 exact ⟨of_decide_eq_true h.1,of_decide_eq_true h.2⟩
theorem Lr {X:Cx}:qA X (binaryOp .FloorDiv) (rI RM λ i j=>.int (i / j)):=KY λ i j _ _ _ _ _ hc q=>by
 have h1:(0:Int)<j:=hc.1
 have h2:j<1152921504606846976:=hc.2
 refine floordiv_int (by omega) (by rw [Int.fdiv_eq_ediv_of_nonneg i (by omega)];exact q) (.inl (PyProof.noPylong_of_log2 ?_))
 have h0:j.natAbs≠0:=by omega
 have:j.natAbs.log2<60:=(Nat.log2_lt h0).mpr (by omega)
 omega
noncomputable def k8:=Zb Kv λ i j=>.int (i / j)
section
variable {X:Cx}{xr:XR}{a b:Expr}{ma mb:Ev}{pos:Pos}
end
noncomputable def wB (RF:Nat->List W->Hx->R W):Fn:=λ us A=>match us with
 | [.clo k ws _]=>RF k ws A
 | _=>.bad
theorem Xi {RF:Nat->List W->Hx->R W}(PG:jy)(us:List W)(A:Hx):wB RF us A=.bad∨ZC PG RF (us.map (Ks PG)) A=wB RF us A:=by
 cases us with
 | nil=>exact .inl rfl
 | cons u us=>
  cases us with
  | cons v us=>cases u<;>exact .inl rfl
  | nil=>
   cases u with
   | clo k ws P=>
    refine .inr ?_
    show ZC PG RF [.clo k ws (PG k)] A=RF k ws A
    unfold ZC
    dsimp only
    rw [if_pos rfl]
   | _=>exact .inl rfl
noncomputable def V8 (e:Expr):Expr:=match e with
 | .Compare l _ _ _=>l
 | _=>gT
noncomputable def Dy (e:Expr)(i:Nat):Expr:=match e with
 | .BoolOp _ vs _=>vs.getD i gT
 | _=>gT
theorem Nu (t:Tok)(l:Addr)(od:Option Addr)(items:Array Value)(n:Nat)(sl:Array (Option Value)):
  Meets (Builtin.«tuple.__mul__» ⟨[.ref l,.int 1 t],[]⟩) (λ _ R s=>s.heap.get? l=some ⟨.type "tuple",od,.seq items n,sl⟩/\R (.ok (.ret (.ref l))) s):=
 .of_wp λ prog w A R s h=>by
  obtain ⟨hp,g,d,tk,os⟩:=s;obtain ⟨hl,h⟩:=h
  have e1:((1:Int)==1)=true:=rfl
  have e2:(decide ((1:Int) < -2 ^ 63) || decide ((1:Int) ≥ 2 ^ 63))=false:=by decide
  wp_walk
  exact ⟨_,rfl,h⟩
section
variable {X:Cx}{xr:XR}{K:Frag}{a b:Expr}{ma mb:Ev}{pos:Pos}
noncomputable def RN (K:Frag):R2:=λ x y H Q=>(∃l xs,x=.ref l/\y=.int 1/\qp K H l xs/\Q (.ref l) H)∨Vu K x y H Q
theorem I9:qA X (binaryOp .Mult) (RN X.K):=by
 intro pins s σ H x y v u Q I rx ry h
 rcases h with ⟨l,xs,rfl,rfl,hH,q⟩ | h
 ·cases rx
  obtain ⟨t,rfl⟩:=ry
  obtain ⟨its,r,p1,_⟩:=I.tuple hH
  obtain ⟨⟨cls,dd,data,sl⟩,ho,hc,n,hd⟩:=id p1
  simp only at hc hd
  subst hc hd
  refine wpAny_binaryOp_repeat_ref (T := "tuple") (U := "int") (by decide) ⟨_,ho,rfl⟩ (λ s'=>typeIs_int s' 1 t) UB F.fills_int_mul F.slot_int_rmul UM F.slot_int_index.lookup
   (call_meets F.slot_int_rmul (typeIs_int s 1 t) F.entry_int_rmul (F.args_int_rmul_2 _ _) (US 1 t l dd its.toArray n sl)
    ⟨ho,rfl,⟨_,ho,rfl⟩,call_meets F.slot_tuple_mul ⟨_,ho,rfl⟩ F.entry_tuple_mul (F.args_tuple_mul_2 _ _) (Nu t l dd its.toArray n sl) ⟨ho,?_⟩⟩)
  exact ⟨.ref l,H,I,rfl,q⟩
 ·exact Fy pins s σ H x y v u Q I rx ry h
noncomputable def wC:W->W->Hx->R W:=λ x y A=>match x,y with
 | .tup xs,.int k=>if decide (1<=k)&&(decide (k<1000)&&(decide (0<xs.length)&&decide (xs.length<1000))) then .ok (.tup (List.replicate k.toNat xs).flatten) A else .bad
 | _,_=>.bad
theorem Hj:∀x y A,qz (wC x y A):=λ x y A=>by
 unfold wC
 split
 ·exact wZ jM qJ
 ·exact qJ
theorem Il:jQ K (RN K) wC:=λ φ A H x y u v Q S q1 q2 p=>by
 cases u with
 | tup xs=>cases v with
  | int j=>
   unfold wC at p
   dsimp only at p
   by_cases hz:(decide (1<=j)&&(decide (j<1000)&&(decide (0<xs.length)&&decide (xs.length<1000))))=true
   ·rw [if_pos hz] at p
    simp only [Bool.and_eq_true,decide_eq_true_iff] at hz
    by_cases h1:j=1
    ·subst h1
     obtain ⟨a1,vs1,rfl,t1,r1⟩:=id q1
     obtain rfl:=q2
     refine .inl ⟨a1,vs1,rfl,rfl,t1,?_⟩
     have e:(List.replicate (1:Int).toNat xs).flatten=xs:=by simp
     rw [e] at p
     exact p _ _ _ Le.refl S q1
    ·refine .inr (IB φ A H x y (.tup xs) (.int j) Q S q1 q2 ?_)
     unfold VC
     dsimp only
     rw [if_pos (by simp only [Bool.and_eq_true,decide_eq_true_iff];exact ⟨by omega,hz.2⟩)]
     exact p
   ·rw [if_neg hz] at p;exact p.elim
  | _=>exact p.elim
 | _=>cases v<;>exact p.elim
end
end Mi
namespace Y
open PySem PySem.Spec PyProof.Rows L2 Mi
@[irreducible] noncomputable def YJ (X:Cx)(xr:XR)(es:List Expr)(ms:List Ev):Prop:=Mi.SJ X xr es ms
theorem RR:@YJ=@Mi.SJ:=by
 funext X xr es ms
 unfold YJ
 rfl
section
theorem yi:@YE=@Mi.SE/\@YA=@Mi.SA/\@YT=@Mi.ST/\@YW=@Mi.SW/\@YS=@Mi.SS/\@yF=@Mi.JV/\@YI=@Mi.SI/\@YG=@Mi.SG/\@YF=@Mi.SF/\@YQ=@Mi.SQ/\@gv=@Mi.JW/\@YM=@Mi.SM/\@YJ=@Mi.SJ:=⟨Kw,Vn,Vh,Vi,VG,X7,Vt,X9,Vc,Vw,X8,Vf,RR⟩
theorem Qx {X:Cx}{g:Heap}{xr:XR}{e:Expr}{es:List Expr}{pos:Pos}{k n:Nat}{x:Str}{p:Pos}{f:Fn}{mr:Ea}(xo:wG X g xr)(F:jE X.prog X.w X.K X.mg X.base k x n f)(hr:jv k X.A)(ha:YA X xr (e::es) mr)(hl:gk mr n)(hg:Gl X x:=by rfl)
  (hdb:(x==("__debug__" : Str))=false:=by decide)(he:starEach (e::es) X.env=(false,eval e X.env)::starEach es X.env:=by rfl)(hpl:(backTo pos (starEach es X.env)).any (·.1)=false:=by rfl):
  YE X xr (.Call (.Name x p) (e::es) [] pos) (zD f mr):=by
 (try simp only [yi] at *)
 obtain ⟨fa,fd,ps,F,hm,hk,hb⟩:=F
 refine PE.imp (Sl F hr hg hm hk hb .nil xo.passes ha hdb he hpl) λ σ H Q ⟨φ,A,ρ,S,re,h⟩=>?_
 have h':=zX.mp h
 refine ⟨φ,A,ρ,S,re,?_⟩
 cases er:mr ρ A with
 | ok ws A1=>
  rw [er] at h'
  intro φ1 H1 vs l1 S1 q1
  have hv:vs.length=n:=by rw [<- q1.length];exact hl ρ A ws A1 er
  rw [List.append_nil]
  refine ⟨hv,φ1,A1,ws,S1,q1,qv h' (λ _ _ z=>z.mono l1) λ y A2 z φ2 H2 l2 S2 Ca hC=>?_⟩
  exact ⟨y,Ca,rfl,hC,z φ2 H2 (l1.trans l2) S2⟩
 | exc y A1=>rw [er] at h';exact h'
 | bad=>rw [er] at h';exact h'
theorem Rh {X:Cx}{xr:XR}{e:Expr}{m:Ev}(h:YT X.nox yq e m):YT X xr e λ ρ A=>(m ρ A).nox:=by
 (try simp only [yi] at *)
 refine PT.imp (PT.nox h) λ σ H Q ⟨φ,A,ρ,S,re,q⟩=>⟨φ,A,ρ,S,re,?_⟩
 cases er:m ρ A with
 | ok w A1=>(try dsimp only at q);rw [er] at q;exact q
 | exc y A1=>(try dsimp only at q);rw [er] at q;exact q.elim
 | bad=>(try dsimp only at q);rw [er] at q;exact q.elim
theorem SO {X:Cx}{xr:XR}{m1:Ex}{sts:List Stmt}(h:yF X.nox yq sts m1):yF X xr sts λ ρ A=>(m1 ρ A).nox:=by
 (try simp only [yi] at *)
 refine j7.imp (j7.nox h) λ D σ H ⟨φ,A,ρ,S,re,q⟩=>⟨φ,A,ρ,S,re,?_⟩
 cases er:m1 ρ A with
 | ok w A1=>(try dsimp only at q);rw [er] at q;exact q
 | exc y A1=>(try dsimp only at q);rw [er] at q;exact q.elim
 | bad=>(try dsimp only at q);rw [er] at q;exact q.elim
theorem Tu {X:Cx}{g:Heap}{xr:XR}{e:Expr}{es:List Expr}{mr:Ea}{x:Str}{top:Str}{np:Pos}{cpos:Pos}{pos:Pos}{n:Nat}(xo:wG X g xr)(c:Xj X.K top x)(ha:YA X xr (e::es) mr)(hl:gk mr n)(hn:n<=sizeLine:=by decide)(hg:Gl X x:=by rfl)(hcalm:X.calm=true:=by rfl)
  (hdb:(x==("__debug__" : Str))=false:=by decide)(he:starEach (e::es) X.env=(false,eval e X.env)::starEach es X.env:=by rfl)(hpl:(backTo cpos (starEach es X.env)).any (·.1)=false:=by rfl):
  YS X xr (.Raise (some (.Call (.Name x np) (e::es) [] cpos)) none pos) (Y8 x mr):=by
 (try simp only [yi] at *)
 exact M7 xo c.at_ c.exc PySem.F.excBase_ValueError ha hl hn hg hcalm hdb he hpl
theorem fnX {P:Program}{w:World}{K:Frag}{mg:Str->Option Value}{base:Heap}{x:Str}{st:Stmt}{f:Addr}{fd:FuncData}{N ps:List Str}{k:Nat}{m:Ex}(F:qH K x x st f fd)(hm:mg x=some (.ref f))(S:qU N ps (qh st))
  (hb:∀(kV doc pm:Value) (an:Option Addr) (cdv ct:Value) (us:List Value),us.length=ps.length->bindArgs (PySem.W.fnOf x x (Zn st) (yP st) (qh st) .none kV doc pm an cdv ct) ⟨us,[]⟩=pure (ps.zip us))
  (hbody:∀(cdv:Value) (A:Around) (outer:List Env) (s:Shared) (H:Hp) (E:XK),jv k (A.deeper (envOfC x (qh st) s.heap.objs.size f cdv))->
   wG (kG (wj P w) P w K mg base N x (qh st) f cdv A outer s H E) s.heap (wK K E)->yF (kG (wj P w) P w K mg base N x (qh st) f cdv A outer s H E) (wK K E) (yP st) m):
  jE P w K mg base (k+1) x ps.length (yZ N.length m):=by
 (try simp only [yi] at *)
 refine ⟨f,fd,ps,?_,hm,F.kp,F.binds hb⟩
 obtain ⟨oc,od,kV,doc,pm,an,cdv,ct,osl,rfl,lk,hcd⟩:=F.ex
 refine Vd lk hcd S (λ vs H Q E h=>h.len) λ A outer s H vs Q E hr ⟨hl,φ,A1,ws,Sm,r,h⟩=>⟨_,hbody cdv A outer s H E hr CM,?_⟩
 refine ⟨φ,A1,ws.map some++List.replicate (N.length - ws.length) none,Sm,RE.start r,?_⟩
 have h':=zX.mp h
 show R.post _ (FB K φ H _) _
 cases er:m (ws.map some++List.replicate (N.length - ws.length) none) A1 with
 | ok fl A2=>
  rw [er] at h'
  cases fl with
  | rt w=>exact h'
  | nx ρ=>exact λ φ' H' σ' l S' _=>h' φ' H' .non l S' rfl
  | bk ρ=>exact h'.elim
  | ct ρ=>exact h'.elim
 | exc y A2=>rw [er] at h';exact h'
 | bad=>rw [er] at h';exact h'.elim
theorem Dm {X:Cx}{xr:XR}{L:Addr}{D:Addr}{i:Nat}{j:Nat}{l:Nat}{kk:Nat}{x:Str}{n:Str}{y:Str}{xD:Str}{cs:List Str}{PG:Nat->Obj->Addr->Obj->List V->Prop}{lam:Nat->Fn}{bmD:List Value}{newD:String}{np:Pos}{cp:Pos}{ep:Pos}{dp:Pos}{yp:Pos}{np2:Pos}{ap:Pos}{hp:Pos}{pos:Pos}(hL:∀k,Z3 X.prog X.w X.K X.mg X.base kk (PG k) (lam k))(hr:jv kk X.A)(hst:X.stack=X.env::X.outer)(hFr:X.env.frame=some L)(hD:yj X.K xD (.ref D))(exD:Mi.wF X.K D bmD newD=true)(hbD:bmD.contains (.type "BaseException")=true)
  (hcs:∀c,cs.contains c=true->∀C,yj X.K c (.ref C)->∃bmC newC,Mi.wF X.K C bmC newC=true/\Qc X.K C D=true)
  (hN:X.N.Nodup)(hi:X.N[i]? =some x)(hx:X.env.scope.names.lookup x=some .local)(hl:X.N[l]? =some n)(hn:X.env.scope.names.lookup n=some .local)(hj:X.N[j]? =some y)(hy:X.env.scope.names.lookup y=some .local)
  (hg:Gl X xD)(hs1:swapsWith (.Call (.Name x np) [] [] cp) none ep.line X.env=pure false:=by rfl)(hs2:swapsWith (.Name n np2) (some (.Name y yp)) ap.line X.env=pure false:=by rfl)
  (hdx:(x==("__debug__" : Str))=false:=by decide)(hdn:(n==("__debug__" : Str))=false:=by decide)(hdD:(xD==("__debug__" : Str))=false:=by decide):
  YS X xr (.Try [.Expr (.Call (.Name x np) [] [] cp) ep] [.ExceptHandler (some (.Name xD dp)) (some n) [.Assign [.Name y yp] (.Name n np2) ap] hp] [] [] pos) (JP i j l cs PG lam):=by
 (try simp only [yi] at *)
 intro pins s σ H D0 I ⟨φ,A,ρ,S,re,h⟩
 unfold JP KG at h
 cases ei:ρ[i]? with
 | none=>rw [ei] at h;exact h.elim
 | some ow=>
  cases ow with
  | none=>rw [ei] at h;exact h.elim
  | some w=>
   rw [ei] at h
   cases w with
   | clo k ws P=>
    dsimp only at h
    by_cases hP:P=PG k
    ·rw [if_pos hP] at h
     subst hP
     obtain ⟨v,hv,a,ob,u,c,oc,uc,vs,rfl,h1,h2,hp',rvs⟩:=re.get i _ ei
     obtain ⟨⟨fd0,hfd⟩,fd,F,hb⟩:=hL k a ob u c oc uc vs hp'
     have ho:s.heap.get? a=some ob:=(show qY X.prog X.w H s.heap a (.frz ob u) from I.hok a _ h1).1
     refine Df (i:=l) (L:=L) (k:=CC X.K φ H ρ j l D0)
      I hst hFr hD exD hbD hN hl (.inl hn) ?body ?suite hg hdD (.inr hn)
     case body=>
      refine wpAny_execs_cons (wpAny_Expr_any ?_ I.quiet hs1)
      obtain ⟨m,hns,hloc⟩:=I.loc
      obtain ⟨u',r',lk⟩:=hloc i x (.ref a) hi hv (.inl hx)
      obtain rfl:u'=Value.ref a:=r'
      have hm:m x=some (.ref a):=by
       rcases lk with ⟨_,e⟩ | ⟨q | q,_⟩
       ·exact e
       ·rw [show X.env.kindOf x=some .local from hx] at q;cases q
       ·rw [show X.env.kindOf x=some .local from hx] at q;cases q
      refine wpAny_Call_Name_kw (wpAny_Name (wpAny_loadName_local I.ok.kind hx hns hm ?_) hdx)
      have hK:Frag.In [(a,ob)] s.heap:=λ b o e=>by
       rw [List.lookup_cons] at e
       by_cases hb:b=a
       ·subst hb;simp at e;subst e;exact ho
       ·have:(b==a)=false:=by simpa using hb
        rw [this] at e;cases e
      have hkp:PySem.W.keepIn [(a,ob)] (.ref a)=true:=by
       unfold PySem.W.keepIn
       obtain ⟨o1,o2,o3,o4⟩:=ob
       cases (show o3=_ from hfd)
       simp [List.lookup_cons]
      refine PySem.W.callWith_K0 (K:=[(a,ob)]) (first:=[]) hK hkp ?_
      refine wpAny_call (codeAny_mono (F.run X.A X.stack s H ⟨[],[]⟩ [] [] (λ _ H1=>D0.nx σ H1)
       (C6 X.K φ H ρ j l D0 cs)
       hr I.env0 (hb s) .nil ⟨rfl,h1,h2,φ,A,ws,S,rvs,?_⟩) λ r s' hq=>?_)
      ·cases er:lam k ws A with
       | ok w1 A1=>
        rw [er] at h
        exact λ φ' H' v' l' S' _=>h φ' H' σ l' S' (re.mono l')
       | exc xn A1=>
        rw [er] at h
        dsimp only at h
        by_cases hc:cs.contains xn=true
        ·rw [if_pos hc] at h
         exact λ φ' H' l' S' Ca hCa=>⟨xn,Ca,rfl,hCa,hc,φ',A1,l',S',h⟩
        ·rw [if_neg hc] at h;exact h.elim
       | bad=>rw [er] at h;exact h.elim
      ·cases r with
       | error e=>
        unfold CR at hq
        dsimp only at hq
        have un:∀b o,s.heap.get? b=some o->∃o',s'.heap.get? b=some o':=by
         obtain ⟨_,_,_,_,_,_,un,_⟩:=hq
         exact λ b o e=>un.there b o e (by simp)
        obtain ⟨ea,C,H',rfl,I',ly,tr,xn,Ca,ec,hCa,hc,φ1,A1,l1,S1,hn1⟩:=TK I hq s.heap λ b o e=>⟨o,e⟩
        cases ec
        obtain ⟨bmC,newC,exC,up⟩:=hcs xn hc C hCa
        exact ⟨ea,C,H',bmC,newC,rfl,I',ly,tr,un,exC,up,λ oe hoe nea=>⟨xn,φ1,A1,l1.trans (Le.new nea),S1.lay nea,⟨ea,oe,.own 0,C,rfl,jw,hoe,hCa⟩,hn1⟩⟩
       | ok fl=>
        cases fl with
        | ret u1=>
         obtain ⟨v1,H1,I1,_,q1⟩:=I.after hq
         exact wpAny_execs_nil ⟨rfl,σ,H1,I1,q1⟩
        | next=>exact False.elim hq
        | brk=>exact False.elim hq
        | cont=>exact False.elim hq
     case suite=>
      rintro ea C H2 s2 I2 ⟨xn,φ',A',l',S',rx,hn'⟩ E'
      refine NA (i:=l) (j:=j) I2 hN hl hj hn (.inl hy) (λ s' I'=>?_) hs2 (.inr hy) hdn
      exact ⟨_,H2,I',hn' φ' H2 _ l' S' ((((re.mono l').set rx).set rx).unset)⟩
    ·rw [if_neg hP] at h;exact h.elim
   | _=>exact h.elim
theorem yR {X:Cx}{xr:XR}{e:Expr}{m:Ev}{pos:Pos}{p:Pos}{p':Pos}{f:Str->Option Bool}{x:Str}{C:Addr}(hx:JB X.K f (.ref C))(hc:yj X.K x (.ref C))(hm:X.mg "isinstance" = none)(ha:YE X xr e m)(hg:Gl X "isinstance" := by rfl)(hg':Gl X x:=by rfl)(hd:(x==("__debug__" : Str))=false:=by decide)
  (h1:starEach [e,.Name x p'] X.env=(false,eval e X.env)::starEach [.Name x p'] X.env:=by rfl)(h2:(backTo pos (starEach [.Name x p'] X.env)).any (·.1)=false:=by rfl):
  YE X xr (.Call (.Name "isinstance" p) [e,.Name x p'] [] pos) (qL f m):=by
 (try simp only [yi] at *)
 have hp:PE X (.Name x p') (tC (.ref C)):=λ pins s σ H Q I h=>Js I hg' (PySem.W.mg_of I.mod.kin I.mod.glob hc) ⟨.ref C,H,I,rfl,h⟩ hd
 exact PE.imp (Zh (Si (cv:=.ref C) hx λ u r=>r) hg hm (by rfl) (jn ha (jn hp jY) h1) (by decide) (by decide) h1 h2) (qL.read λ σ H Q h=>h)
theorem Hs {X:Cx}{xr:XR}{e:Expr}{m:Ev}{pos:Pos}{p:Pos}{p':Pos}{f:Str->Option Bool}{x:Str}{T:String}(hx:JB X.K f (.type T))(hm:X.mg "isinstance" = none)(hm':X.mg x=none)(hb:bootBuiltins x=some (.type T))(ha:YE X xr e m)(hg:Gl X "isinstance" := by rfl)(hg':Gl X x:=by rfl)(hn:x ≠ "__name__" := by decide)(hd:(x==("__debug__" : Str))=false:=by decide)
  (h1:starEach [e,.Name x p'] X.env=(false,eval e X.env)::starEach [.Name x p'] X.env:=by rfl)(h2:(backTo pos (starEach [.Name x p'] X.env)).any (·.1)=false:=by rfl):
  YE X xr (.Call (.Name "isinstance" p) [e,.Name x p'] [] pos) (qL f m):=by
 (try simp only [yi] at *)
 exact PE.imp (Zh (Si (cv:=.ty T) hx λ u r=>r) hg hm (by rfl) (jn ha (jn (Y5 hg' hm' hb (v:=.ty T) rfl hn hd) jY) h1) (by decide) (by decide) h1 h2) (qL.read λ σ H Q h=>h)
theorem XI {X:Cx}{xr:XR}{n:Nat}{k:Nat}{q:Str}{Pt:Addr}{c:Addr}{ls:List Lm}{t:Lm}{pos:Pos}(ht:ls[k]? =some t)(L:VA X.N X.env.scope t=true)(hB:BMain X.mg X.base)(hcode:X.env.code=.ref c)(C:PySem.W.CodeHd X.base c Pt)(hq:X.env.qual ++ "<lambda>" = q)(hdef:defaultsOf t.params X.env=([],[])):
  YE X xr (.Lambda t.params t.body t.scope pos) (kr n q Pt k (kM X.env q ls k)):=by
 (try simp only [yi] at *)
 intro pins s σ H Q I h
 rw [E8 ht] at h
 exact Ez hB hcode C (Tb λ y hy e=>I.ok.has _ ((wU L).free y hy e)) hq hdef pins s σ H Q I h
theorem Bj {P:Program}{w:World}{K:Frag}{mg:Str->Option Value}{base:Heap}{x q:Str}{st:Stmt}{f c Pt:Addr}{fd:FuncData}{N ps:List Str}{k:Nat}{ls:List Lm}{m:jy->Ex}(F:qH K x x st f fd)(hn:PySem.W.nsIn K mainGlobals x=some (some (.ref f)))(ht:PySem.W.tabIn K x=some (c,Pt))(S:qU N ps (qh st))
  (hbody:∀(A:Around) (outer:List Env) (s:Shared) (H:Hp) (E:XK),jv k (A.deeper (envOfC x (qh st) s.heap.objs.size f (.ref c)))->
   yF (kG we P w K mg base N x (qh st) f (.ref c) A outer s H E).nox yq (yP st) (m (kM (envOfC x (qh st) s.heap.objs.size f (.ref c)) q ls))):
  yc P w K mg base we (k+1) f fd ps (spT K ps.length λ PF=>z9 N.length (m PF)):=by
 (try simp only [yi] at *)
 obtain ⟨oc,od,kV,doc,pm,an,cdv,ct,osl,rfl,lk,hcd⟩:=F.ex
 have hcv:cdv=.ref c:=Lq hn lk ht
 subst hcv
 refine Vd lk hcd S (λ vs H Q E h=>h.len) λ A outer s H vs Q E hr ⟨hl,φ,A1,ws,Sm,r,h⟩=>⟨_,j7.nox (hbody A outer s H E hr),?_⟩
 refine ⟨φ,A1,ws.map some++List.replicate (N.length - ws.length) none,Sm,RE.start r,?_⟩
 have h':=zX.mp (h (kM (envOfC x (qh st) s.heap.objs.size f (.ref c)) q ls))
 show R.post _ (FB K φ H _) _
 cases er:m (kM (envOfC x (qh st) s.heap.objs.size f (.ref c)) q ls) (ws.map some++List.replicate (N.length - ws.length) none) A1 with
 | ok fl A2=>
  rw [er] at h'
  cases fl with
  | rt w=>exact h'
  | nx ρ=>exact λ φ' H' σ' l S' _=>h' φ' H' .non l S' rfl
  | bk ρ=>exact h'.elim
  | ct ρ=>exact h'.elim
 | exc y A2=>rw [er] at h';exact h'.elim
 | bad=>rw [er] at h';exact h'.elim
theorem F9 {X:Cx}{xr:XR}{e:Expr}{m:Ev}{pos:Pos}{p:Pos}{p1:Pos}{p2:Pos}{pt:Pos}{x1:Str}{x2:Str}{kt:Nat}(t t2:Ty)(hm:X.mg "isinstance" = none)(hm1:X.mg x1=none)(hm2:X.mg x2=none)(hx1:bootBuiltins x1=some (.type t.nm))(hx2:bootBuiltins x2=some (.type t2.nm))(ha:YE X xr e m)(hg:Gl X "isinstance" := by rfl)(hg1:Gl X x1:=by rfl)(hg2:Gl X x2:=by rfl)
  (hn1:x1 ≠ "__name__" := by decide)(hd1:(x1==("__debug__" : Str))=false:=by decide)(hn2:x2 ≠ "__name__" := by decide)(hd2:(x2==("__debug__" : Str))=false:=by decide)
  (h0:starEach [.Name x1 p1,.Name x2 p2] X.env=(false,eval (.Name x1 p1) X.env)::starEach [.Name x2 p2] X.env:=by rfl)(h00:starEach [.Name x2 p2] X.env=(false,eval (.Name x2 p2) X.env)::starEach [] X.env:=by rfl)
  (h1:starEach [e,.Tuple [.Name x1 p1,.Name x2 p2] kt pt] X.env=(false,eval e X.env)::starEach [.Tuple [.Name x1 p1,.Name x2 p2] kt pt] X.env:=by rfl)(h2:(backTo pos (starEach [.Tuple [.Name x1 p1,.Name x2 p2] kt pt] X.env)).any (·.1)=false:=by rfl):
  YE X xr (.Call (.Name "isinstance" p) [e,.Tuple [.Name x1 p1,.Name x2 p2] kt pt] [] pos) (Pa t t2 m):=by
 (try simp only [yi] at *)
 exact PE.imp (Zh Iv hg hm (by rfl) (jn ha (jn (Rt (jn (Y5 hg1 hm1 hx1 (v:=.ty t.nm) rfl hn1 hd1) (jn (Y5 hg2 hm2 hx2 (v:=.ty t2.nm) rfl hn2 hd2) jY h00) h0)) jY) h1) (by decide) (by decide) h1 h2) λ σ H Q ⟨φ,A,ρ,S,re,h⟩=>by
   refine tM.go S re (zX.mp h) λ w A1 φ1 H1 v h1 l1 S1 q1=>?_
   cases et:qW w A1 with
   | none=>rw [et] at h1;exact h1.elim
   | some t'=>
    rw [et] at h1
    refine ⟨by show 2<=sizeLine;decide,λ l hl=>⟨v,t',l,rfl,qp.of jw,?_,h1 φ1 _ _ (l1.trans (Le.new hl)) (S1.lay hl) rfl⟩⟩
    exact T6 (S1.lay hl) (q1.mono (Le.new hl)) et
theorem E7 {X:Cx}{xr:XR}{e:Expr}{m:Ev}{pos:Pos}{tg:Expr}{tw:Tg}(he:YE X xr e m)(hg:YG X tg tw)(hs:swapsWithSole [tg] e pos.line X.env=pure false:=by rfl)(hw:swappedStores [tg] e X.env=pure none:=by rfl)(h1:(assignEach [tg] X.env).map (·.2)=[assign tg X.env]:=by rfl):YS X xr (.Assign [tg] e pos) (KD m tw):=by
 (try simp only [yi] at *)
 exact PS.imp (Ra he hg hs hw h1) λ D σ H ⟨φ,A,ρ,S,re,h⟩=>by
   refine tM.go S re (zX.mp h) λ w A1 φ1 H1 v h1 l1 S1 q1=>?_
   cases et:tw w ρ with
   | none=>rw [et] at h1;exact h1.elim
   | some ρ'=>
    rw [et] at h1
    exact ⟨φ1,A1,ρ,w,ρ',S1,re.mono l1,q1,et,λ σ' re'=>h1 φ1 H1 σ' l1 S1 re'⟩
end
section
theorem Xd {X:Cx}{ls:List Lm}{j:Nat}{kk:Nat}{n:Nat}{q:Str}{x:Str}{e:Expr}{es:List Expr}{p:Pos}{pos:Pos}{mr:Ea}{f0:Fn}{fG:jy->Fn}(hfn:∀x,X.fn x=true)(hl:∀t∈ls,ZD X.prog X.w X.K X.mg j q t)(hix:∀t∈ls,JK X t)
  (hR:∀base PG,(∀k,Z3 X.prog X.w X.K X.mg base (j+1) (PG k) (yn ls k))->zE X.prog X.w X.K X.mg base kk x n (fG PG))(hF:∀PG us A,f0 us A=.bad∨fG PG (us.map (Ks PG)) A=f0 us A)(hr:jv kk X.A)
  (ha:YA X yq (e::es) mr)(hn:gk mr n)(hg:Gl X x:=by rfl)(hdb:(x==("__debug__" : Str))=false:=by decide)
  (he:starEach (e::es) X.env=(false,eval e X.env)::starEach es X.env:=by rfl)(hpl:(backTo pos (starEach es X.env)).any (·.1)=false:=by rfl):
  YE X yq (.Call (.Name x p) (e::es) [] pos) (wz ls (kM X.env q ls) f0 mr):=by
 (try simp only [yi] at *)
 intro pins s σ H Q I ⟨φ,A,ρ,S,re,h⟩
 obtain ⟨fa,fd,ps,F,hm,hk,hb⟩:=hR _ _ (TY I hfn hl hix).2
 refine wpAny_Call_Name_kw (Js I hg hm ?_ hdb)
 have h':=zX.mp h
 refine PySem.W.callWith_K (h₀:=X.base) I.ok.mod.kin hk (zS (ha pos pins s σ H (λ vs H1=>∃φ1 A1 ws us,Le X.K φ H φ1 H1/\zF X.K φ1 A1 H1/\zB X.K φ1 H1 ws vs/\ws.length=n/\gf ls (kM X.env q ls) ρ ws=some us/\(f0 us A1).post (PB X.K φ1 H1 Q) (EB X.K φ1 H1 yq)) I ⟨φ,A,ρ,S,re,?_⟩) λ us s1 ⟨vs,H1,I1,r1,φ1,A1,ws,us',l1,S1,rv,hwn,hc,hp⟩=>⟨I1.kIn,?_⟩) he hpl
 ·cases er:mr ρ A with
  | ok ws A1=>
   rw [er] at h'
   intro φ1 H1 vs l1 S1 q1
   have h':(match gf ls (kM X.env q ls) ρ ws with | some us=>f0 us A1 | none=>.bad).post (PB X.K φ H Q) (EB X.K φ H yq):=h'
   cases ec:gf ls (kM X.env q ls) ρ ws with
   | none=>rw [ec] at h';exact h'.elim
   | some us=>
    rw [ec] at h'
    refine ⟨φ1,A1,ws,us,l1,S1,q1,hn ρ A ws A1 er,ec,qv h' (λ _ _ z=>z.mono l1) λ y A2 z=>z.mono l1⟩
  | exc y A1=>rw [er] at h';exact h'
  | bad=>rw [er] at h';exact h'
 ·obtain ⟨e0,hL⟩:=TY (q:=q) I1 hfn hl hix
  obtain ⟨fa',fd',ps',F',hm',hk',hb'⟩:=hR _ _ hL
  rw [hm] at hm'
  cases hm'
  have hsp:JU X.K n (fG (QX X.env q ls σ)) vs H1 Q E0:=by
   refine ⟨by rw [<- rv.length];exact hwn,φ1,A1,us'.map (Ks (QX X.env q ls σ)),S1,U5 (re.mono l1) hc rv,?_⟩
   rcases hF (QX X.env q ls σ) us' A1 with z | z
   ·rw [z] at hp;exact hp.elim
   ·rw [z]
    exact qv hp (λ _ _ z=>z) λ y A2 z φ2 H2 l2 S2=>(z φ2 H2 l2 S2).elim
  have hln:=F'.len _ _ _ _ hsp
  have hu:us.length=ps'.length:=by rw [<- r1.length];exact hln
  refine wpAny_call (codeAny_mono (F'.run X.A X.stack s1 H1 ⟨[]++us,[]⟩ us vs Q E0 hr e0 ?_ r1 hsp) λ r s2 hq=>?_)
  ·have:=hb' s1 us I1.kIn (by rw [List.append_nil];exact hu)
   rw [List.append_nil] at this
   exact this
  ·cases r with
   | error e=>exact False.elim hq
   | ok fl=>
    cases fl with
    | ret u1=>exact I1.after hq
    | next=>exact False.elim hq
    | brk=>exact False.elim hq
    | cont=>exact False.elim hq
end
theorem Lf {X:Cx}{xr:XR}{a:Expr}{b:Expr}{ma:Ev}{mb:Ev}{k:Nat}{apos cpos:Pos}(hr:jv k X.A)(ho:YE X xr a ma)(he:YE X xr b mb)(hs:starEach [b] X.env=(false,eval b X.env)::starEach [] X.env:=by rfl)
  (hbase:attributeBase a "index" X.env (eval a X.env)=eval a X.env:=by rfl)
  (hfew:((backTo cpos (starEach [b] X.env)).all (λ x=>!x.1)&&(backToKw cpos (keywordEach [] X.env)).all (λ x=>x.1.isSome)
   && decide ([b].length+([]:List Keyword).length+(if ([]:List Keyword).isEmpty then 0 else 1)<30))=true:=by rfl)(hline:(apos.endLine==cpos.line)=true:=by rfl):
  YE X xr (.Call (.Attribute a "index" apos) [b] [] cpos) (yV wY ma mb):=by
 (try simp only [yi] at *)
 exact VQ PySem.F.slot_list_index PySem.F.type_list_index (N0 hr.units) LU (λ φ A H x y u v Q S q1 q2 p=>by
   unfold wY at p
   cases e1:qd A 8 u with
   | none=>rw [e1] at p;exact p.elim
   | some d1=>
    cases e2:qd A 8 v with
    | none=>
     rw [e1,e2] at p
     cases d1<;>exact p.elim
    | some d=>
     rw [e1,e2] at p
     cases d1 with
     | list ds=>
      dsimp only at p
      cases e3:w8 (λ z=>PyData.eqv z d) ds with
      | none=>rw [e3] at p;exact p.elim
      | some j=>
       rw [e3] at p
       dsimp only at p
       by_cases hj:j<1000000
       ·rw [if_pos hj] at p
        exact ⟨φ,A,u,v,y,d,ds,j,rfl,S,q1,q2,e1,e2,e3,hj,p φ H _ .refl S rfl⟩
       ·rw [if_neg hj] at p;exact p.elim
     | _=>exact p.elim) ho he hs hbase hfew hline
theorem Nx {X:Cx}{xr:XR}{e:Expr}{m:Ev}{pos:Pos}{p p' pos':Pos}(hc:X.calm=true)(hm:X.mg "sorted" = none)(hm':X.mg "set" = none)(ha:YE X xr e m)(hg:Gl X "sorted" := by rfl)(hg':Gl X "set" := by rfl)(hs:starEach [e] X.env=(false,eval e X.env)::starEach [] X.env:=by rfl)
  (hs':starEach [.Call (.Name "set" p') [e] [] pos'] X.env=(false,eval (.Call (.Name "set" p') [e] [] pos') X.env)::starEach [] X.env:=by rfl):
  YE X xr (.Call (.Name "sorted" p) [.Call (.Name "set" p') [e] [] pos'] [] pos) (YL m):=by
 (try simp only [yi] at *)
 exact PE.imp (Zh (OJ hc) hg hm (by rfl) (jn (Qw (Ms hc) hg' hm' (by rfl) (jn ha jY hs) (by decide) (by decide) hs (by rfl)) jY hs') (by decide) (by decide) hs' (by rfl)) λ σ H Q ⟨φ,A,ρ,S,re,h⟩=>by
   refine tM.go S re (zX.mp h) λ w A1 φ1 H1 v h1 l1 S1 q1=>?_
   cases w with
   | ref n=>
    unfold G9 at h1
    dsimp only at h1
    cases en:A1[n]? with
    | none=>rw [en] at h1;exact h1.elim
    | some u=>cases u with
     | lst ws=>
      rw [en] at h1
      dsimp only at h1
      obtain ⟨pl,ys,rfl,eφ,eH,rr⟩:=S1.lst q1 en
      cases ei:intsOf ws with
      | none=>rw [ei] at h1;exact h1.elim
      | some is=>
       rw [ei] at h1
       dsimp only at h1
       have ew:=G0 ei
       subst ew
       have ev:=zB.ints.mp rr
       subst ev
       cases e2:Zp is with
       | none=>rw [e2] at h1;exact h1.elim
       | some vs=>
        rw [e2] at h1
        dsimp only at h1
        obtain ⟨e3,h8⟩:=Th e2
        have eH':H1 pl=some (.lst (vs.map λ (v:Nat)=>V.int (v:Int))):=by rw [eH,e3,List.map_map];rfl
        refine ⟨pl,vs,rfl,qS.of eH',h8,λ l hl=>⟨l,vs.foldl j6 0,rfl,jw,λ l2 hl2=>?_⟩⟩
        have ln:Le X.K φ1 H1 φ1 (upd H1 l (.ext λ h=>j5 h l (ju X.w) (vs.foldl j6 0))):=Le.new hl
        have S2:=S1.lay (u:=.ext λ h=>j5 h l (ju X.w) (vs.foldl j6 0)) hl
        have rr2:∀(ψ:List Addr) (G:Hp),zB X.K ψ G (((List.range 8).filter λ i=>decide (i∈vs)).map λ (i:Nat)=>W.int (i:Int)) ((zQ (vs.foldl j6 0)).map λ (v:Nat)=>V.int (v:Int)):=λ ψ G=>by
         rw [Mq]
         have e4:∀l:List Nat,zB X.K ψ G (l.map λ (i:Nat)=>W.int (i:Int)) (l.map λ (v:Nat)=>V.int (v:Int)):=λ l=>by
          induction l with
          | nil=>rfl
          | cons i l ih=>exact ⟨_,_,rfl,rfl,ih⟩
         exact e4 _
        obtain ⟨l3,S3⟩:=S2.alloc (o:=.lst (((List.range 8).filter λ i=>decide (i∈vs)).map λ (i:Nat)=>W.int (i:Int))) hl2 (u:=.lst ((zQ (vs.foldl j6 0)).map λ (v:Nat)=>V.int (v:Int))) ⟨_,jw,rr2 _ _⟩
        exact h1 _ _ _ (l1.trans (ln.trans l3)) S3 ⟨l2,rfl,by rw [<- S1.len];simp⟩
     | _=>rw [en] at h1;exact h1.elim
   | _=>exact h1.elim
theorem IT {X:Cx}{xr:XR}{a:Expr}{b:Expr}{ma:Ev}{mb:Ev}{pos:Pos}{p:Pos}(hc:X.calm=true)(hm:X.mg "sum" = none)(ha:YE X xr a ma)(hb:YE X xr b mb)(hgl:Gl X "sum" := by rfl)(h1:starEach [a,b] X.env=(false,eval a X.env)::starEach [b] X.env:=by rfl)
  (h2:starEach [b] X.env=(false,eval b X.env)::starEach [] X.env:=by rfl)(hpl:(backTo pos (starEach [b] X.env)).any (·.1)=false:=by rfl):
  YE X xr (.Call (.Name "sum" p) [a,b] [] pos) (zp gR ma mb):=by
 (try simp only [yi] at *)
 exact Vv (Ml hc) Fg Ii hm (by rfl) ha hb hgl (by decide) (by decide) h1 h2 hpl
theorem N1 {X:Cx}{xr:XR}{a:Expr}{b:Expr}{ma:Ev}{mb:Ev}{pos:Pos}{p p' pos':Pos}(hc:X.calm=true)(hm:X.mg "list" = none)(hm':X.mg "range" = none)(ha:YE X xr a ma)(hb:YE X xr b mb)(hg:Gl X "list" := by rfl)(hg':Gl X "range" := by rfl)(hs:starEach [a,b] X.env=[(false,eval a X.env),(false,eval b X.env)]:=by rfl)(hs2:starEach [b] X.env=[(false,eval b X.env)]:=by rfl)
  (hs':starEach [.Call (.Name "range" p') [a,b] [] pos'] X.env=(false,eval (.Call (.Name "range" p') [a,b] [] pos') X.env)::starEach [] X.env:=by rfl):
  YE X xr (.Call (.Name "list" p) [.Call (.Name "range" p') [a,b] [] pos'] [] pos) (Jn ma mb):=by
 (try simp only [yi] at *)
 exact PE.imp (Qw (O7 hc) hg hm (by rfl) (jn (Ly hg' hm' (jn ha (jn hb jY (by rw [hs2];rfl)) (by rw [hs,hs2])) hs hs2) jY hs') (by decide) (by decide) hs' (by rfl)) λ σ H Q ⟨φ,A,ρ,S,re,h⟩=>by
   refine tM.go S re (zX.mp h) λ w A1 φ1 H1 v h1 l1 S1 q1=>?_
   refine tM.go S1 (re.mono l1) (qv (zX.mp h1) (λ _ _ z=>z) λ _ _ z=>z.mono l1) λ w2 A2 φ2 H2 v2 h2 l2 S2 q2=>?_
   cases w with
   | int i=>
    obtain rfl:=q1
    cases w2 with
    | int j=>
     obtain rfl:=q2
     dsimp only at h2
     by_cases hj:(jz i&&(jz j&&decide ((j - i).toNat<=zW)))=true
     ·rw [if_pos hj] at h2
      rw [Bool.and_eq_true,Bool.and_eq_true,decide_eq_true_iff] at hj
      refine ⟨i,j,rfl,λ p hp=>⟨p,i,j,rfl,jw,Qv hj.1,Qv hj.2.1,gG hj.2.2,λ l hl=>?_⟩⟩
      have ln:Le X.K φ2 H2 φ2 (upd H2 p (.rng i j)):=Le.new hp
      have rr:zB X.K φ2 (upd H2 p (.rng i j)) ((List.range (j - i).toNat).map λ (k:Nat)=>W.int (i+k)) (Z6 i (j - i).toNat):=by
       have:=(zB.ints (K:=X.K) (φ:=φ2) (H:=upd H2 p (.rng i j)) (ns:=(List.range (j - i).toNat).map λ (k:Nat)=>(i+(k:Int))) (vs:=Z6 i (j - i).toNat)).mpr (by unfold Z6;simp)
       rw [List.map_map] at this
       exact this
      obtain ⟨b1,b2,b3⟩:=ZW (S2.lay hp) hl rr
      exact h2 _ _ _ (((l1.trans l2).trans ln).trans b1) b2 b3
     ·rw [if_neg hj] at h2;exact h2.elim
    | _=>exact h2.elim
   | _=>exact h2.elim
@[irreducible] noncomputable def YP (X:Cx)(xr:XR)(e:Option Expr)(p:Po):Prop:=Mi.SP X xr e p
theorem Du:@YP=@Mi.SP:=by
 funext X xr e p
 unfold YP
 rfl
theorem Vb:@YE=@Mi.SE/\@YA=@Mi.SA/\@YT=@Mi.ST/\@YW=@Mi.SW/\@YS=@Mi.SS/\@yF=@Mi.JV/\@YI=@Mi.SI/\@YG=@Mi.SG/\@YF=@Mi.SF/\@YQ=@Mi.SQ/\@gv=@Mi.JW/\@YM=@Mi.SM/\@YJ=@Mi.SJ/\@YP=@Mi.SP:=⟨Kw,Vn,Vh,Vi,VG,X7,Vt,X9,Vc,Vw,X8,Vf,RR,Du⟩
theorem Kr {X:Cx}{xr:XR}:YP X xr none wg:=by
 (try simp only [Vb] at *)
 exact PO.imp Fo λ σ H Q ⟨φ,A,ρ,S,re,h⟩=>h φ H .refl S
theorem Kb {X:Cx}{xr:XR}{e:Expr}{m:Ev}(ha:YE X xr e m):YP X xr (some e) (wc m):=by
 (try simp only [Vb] at *)
 exact PO.imp (HX ha) λ σ H Q ⟨φ,A,ρ,S,re,h⟩=>by
  refine tM.go S re (zX.mp h) λ w A1 φ1 H1 v h1 l1 S1 q1=>?_
  cases w with
  | int i=>obtain rfl:=q1;exact ⟨i,rfl,h1 φ1 H1 l1 S1⟩
  | _=>exact h1.elim
theorem Kg {X:Cx}{xr:XR}{e:Expr}{m:Ev}{lo hi:Option Expr}{pl pu:Po}{pos p2:Pos}(he:YE X xr e m)(hl:YP X xr lo pl)(hu:YP X xr hi pu):YE X xr (.Subscript e (.Slice lo hi none p2) pos) (yY m pl pu):=by
 (try simp only [Vb] at *)
 exact PE.imp (M1 Fv he hl hu) λ σ H Q ⟨φ,A,ρ,S,re,h⟩=>by
   refine tM.go S re (zX.mp h) λ w A1 φ1 H1 v h1 l1 S1 q1=>?_
   refine ⟨φ1,A1,ρ,S1,re.mono l1,qv (zX.mp h1) (λ l A2 h2 φ2 H2 l2 S2=>?_) λ _ _ z=>z.mono l1⟩
   refine ⟨φ2,A2,ρ,S2,(re.mono l1).mono l2,qv (zX.mp h2) (λ u A3 h3 φ3 H3 l3 S3=>?_) λ _ _ z=>z.mono (l1.trans l2)⟩
   have l13:=(l1.trans l2).trans l3
   cases w with
   | tup ws=>
    obtain ⟨a,vs,rfl,t,r⟩:=(q1.mono l2).mono l3
    have hlen:ws.length=vs.length:=r.length
    refine ⟨a,vs,rfl,t,λ hw=>?_,λ hw p hp=>?_⟩
    ·refine h3 φ3 H3 _ l13 S3 ⟨a,vs,rfl,t,?_⟩
     have:kK ws l u=ws:=by
      unfold kK
      rw [hlen,hw.1,hw.2,Nat.sub_zero,List.drop_zero,<- hlen,List.take_length]
     rw [this];exact r
    ·have rr:zB X.K φ3 H3 (kK ws l u) (Qd vs l u):=by
      unfold kK Qd
      rw [hlen]
      exact zB.take _ (zB.drop _ r)
     obtain ⟨a1,a2,a3⟩:=Z0 S3 hp rr
     exact h3 _ _ _ (l13.trans a1) a2 a3
   | _=>exact h3.elim
theorem ZS {X:Cx}{xr:XR}{a b:Expr}{ma mb:Ev}{pos:Pos}(ha:YE X xr a ma)(hb:YE X xr b mb):YE X xr (.BinOp a .FloorDiv b pos) (zp k8 ma mb):=by
 (try simp only [yi] at *)
 exact Zu Lr VN (XS Lj λ _ _ _ _=>rfl) ha hb
theorem HZ {X:Cx}{xr:XR}{a b:Expr}{ma mb:Ev}{pos:Pos}(ha:YE X xr a ma)(hb:YE X xr b mb):YE X xr (.BinOp a .Mult b pos) (zp wC ma mb):=by
 (try simp only [yi] at *)
 exact Zu I9 Hj Il ha hb
end Y
namespace G
open PySem L2 Mi
noncomputable def top (i:Nat):Stmt:=PySem.Challenge.pw_nearkinds_k05_mixes_and_squares.main.body.getD i (.Pass ⟨0,0,0,0⟩)
structure Bu (mg:Str->Option Value):Prop where
 OI:mg "ValueError" = none
 Vg:mg "abs" = none
 Jz:mg "all" = none
 Y9:mg "bool" = none
 UU:mg "enumerate" = none
 Z5:mg "int" = none
 jm:mg "isinstance" = none
 kj:mg "len" = none
 gO:mg "list" = none
 Zv:mg "max" = none
 VI:mg "min" = none
 jJ:mg "range" = none
 DN:mg "set" = none
 Ia:mg "sorted" = none
 DY:mg "sum" = none
 yO:mg "tuple" = none
 D3:mg "zip" = none
 OA:∃t,mg "MOST_PLACES" = some (.int 8 t)
noncomputable abbrev zO:List Str:=["NoTable", "NoMix"]
noncomputable abbrev yx:List Str:=["NoTable", "NotSteady", "NoPlace", "NoKind", "NoMix", "NoNumber", "NoLot", "NoKinds", "NoPaper", "NoParting", "NoClosed", "TooMany", "NoText", "NoLine", "NoDeed"]
theorem rw_NoTable {K:Frag}(R:yx.all (qV K zO)=true):qV K zO "NoTable" = true:=List.all_eq_true.mp R _ (by decide +kernel)
theorem rw_NotSteady {K:Frag}(R:yx.all (qV K zO)=true):qV K zO "NotSteady" = true:=List.all_eq_true.mp R _ (by decide +kernel)
theorem rw_NoPlace {K:Frag}(R:yx.all (qV K zO)=true):qV K zO "NoPlace" = true:=List.all_eq_true.mp R _ (by decide +kernel)
theorem rw_NoKind {K:Frag}(R:yx.all (qV K zO)=true):qV K zO "NoKind" = true:=List.all_eq_true.mp R _ (by decide +kernel)
theorem rw_NoMix {K:Frag}(R:yx.all (qV K zO)=true):qV K zO "NoMix" = true:=List.all_eq_true.mp R _ (by decide +kernel)
theorem rw_NoNumber {K:Frag}(R:yx.all (qV K zO)=true):qV K zO "NoNumber" = true:=List.all_eq_true.mp R _ (by decide +kernel)
theorem rw_NoLot {K:Frag}(R:yx.all (qV K zO)=true):qV K zO "NoLot" = true:=List.all_eq_true.mp R _ (by decide +kernel)
theorem rw_NoKinds {K:Frag}(R:yx.all (qV K zO)=true):qV K zO "NoKinds" = true:=List.all_eq_true.mp R _ (by decide +kernel)
theorem rw_NoPaper {K:Frag}(R:yx.all (qV K zO)=true):qV K zO "NoPaper" = true:=List.all_eq_true.mp R _ (by decide +kernel)
theorem rw_NoParting {K:Frag}(R:yx.all (qV K zO)=true):qV K zO "NoParting" = true:=List.all_eq_true.mp R _ (by decide +kernel)
theorem rw_NoClosed {K:Frag}(R:yx.all (qV K zO)=true):qV K zO "NoClosed" = true:=List.all_eq_true.mp R _ (by decide +kernel)
theorem rw_TooMany {K:Frag}(R:yx.all (qV K zO)=true):qV K zO "TooMany" = true:=List.all_eq_true.mp R _ (by decide +kernel)
theorem rw_NoText {K:Frag}(R:yx.all (qV K zO)=true):qV K zO "NoText" = true:=List.all_eq_true.mp R _ (by decide +kernel)
theorem rw_NoLine {K:Frag}(R:yx.all (qV K zO)=true):qV K zO "NoLine" = true:=List.all_eq_true.mp R _ (by decide +kernel)
theorem rw_NoDeed {K:Frag}(R:yx.all (qV K zO)=true):qV K zO "NoDeed" = true:=List.all_eq_true.mp R _ (by decide +kernel)
theorem GY {l:List (Str × NameKind)}(h:(l.all λ y=>!(y.2==.cell))=true):∀y∈l,y.2≠.cell:=λ y hy e=>by
 have q:=List.all_eq_true.mp h y hy
 rw [e] at q
 cases q
theorem yE {X:Cx}{xr:XR}{e:Expr}{m:Ev}(h:Y.YE X xr e m):SE X xr e m:=by rw [Y.Kw] at h;exact h
noncomputable abbrev GC:Stmt:=top 1
theorem O6:qU ["thing"] ["thing"] (qh GC):=⟨rfl,rfl,rfl,by decide +kernel,rfl,by decide +kernel,by decide +kernel⟩
noncomputable def GP:Ex:=zr (zZ (yk (jW .int (zh 0)) (jd (jW .bl (zh 0))))) (zA)
theorem Nm {P:Program}{w:World}{K:Frag}{mg:Str->Option Value}{base:Heap}{k:Nat}(T:Bu mg){f:Addr}{fd:FuncData}(F:qH K "is_whole" "is_whole" GC f fd)(hm:mg "is_whole" = some (.ref f)):zE P w K mg base (k+1) "is_whole" 1 (z9 1 (GP)):=
 Y.jH F hm O6 (λ _ _ _ _ _ _ us hl=>(yX hl).elim λ a q=>by subst q;rfl) λ cdv A outer s H E hr=>Y.zx (Y.qk (Y.ZV (Y.kD .int T.jm T.Z5 (by rfl) (Y.zo 0)) (Y.QJ (Y.Rl (Y.kD .bl T.jm T.Y9 (by rfl) (Y.zo 0)))))) (Y.zH)
noncomputable abbrev Gq:Stmt:=top 2
theorem OF:qU ["thing", "many"] ["thing", "many"] (qh Gq):=⟨rfl,rfl,rfl,by decide +kernel,rfl,by decide +kernel,by decide +kernel⟩
noncomputable def Yh (Yr:Fn):Ex:=zr (zZ (yk (jW .tup (zh 0)) (yk (zp jl (mQ qK (qa (zh 0))) (zh 1)) (mQ ZA (zN 1 [] (qj (zh 0)) (zI 0) (zi (.bl true)) (zK (zD Yr (zc (zh 0) (zj))))))))) (zA)
theorem Ni {P:Program}{w:World}{K:Frag}{mg:Str->Option Value}{base:Heap}{k:Nat}(T:Bu mg){f:Addr}{fd:FuncData}(F:qH K "is_wholes" "is_wholes" Gq f fd)(hm:mg "is_wholes" = some (.ref f)){Yr:Fn}(wO:zE P w K mg base k "is_whole" 1 Yr):zE P w K mg base (k+1) "is_wholes" 2 (z9 2 (Yh Yr)):=
 Y.jH F hm OF (λ _ _ _ _ _ _ us hl=>(yK hl).elim λ a h=>h.elim λ b q=>by subst q;rfl) λ cdv A outer s H E hr=>Y.zx (Y.qk (Y.ZV (Y.kD .tup T.jm T.yO (by rfl) (Y.zo 0)) (Y.ZV (Y.wD (yz hr) (Y.kf T.kj (Y.jZ (Y.zo 0))) (Y.zo 1)) (Y.QJ (Y.Jv rfl T.Jz (Y.yC (Y.qI (N:=["part"]) 1 [] rfl (cps (by kernel_rfl)) (by kernel_rfl) (Y.jN (Y.zo 0)) (λ _ _ _=>⟨Y.qx 0 (by decide +kernel:(["part"]:List Str).Nodup),Y.qP,Y.qF (λ _ _ z=>z) (Y.qf wO hr (Y.zl (Y.zo 0) (Y.zu)) (zm zt)) rfl⟩)))))))) (Y.zH)
noncomputable abbrev Wg:Stmt:=top 3
theorem PK:qU ["thing", "many", "limit"] ["thing", "many", "limit"] (qh Wg):=⟨rfl,rfl,rfl,by decide +kernel,rfl,by decide +kernel,by decide +kernel⟩
noncomputable def Wi (y9:Fn):Ex:=zr (zZ (yk (zD y9 (zc (zh 0) (zc (zh 1) (zj)))) (mQ ZA (zN 1 [2] (qj (zh 0)) (zI 0) (zi (.bl true)) (zK (yu kB Q2 (zi (.int 0)) (zh 0) (zh 1))))))) (zA)
theorem PN {P:Program}{w:World}{K:Frag}{mg:Str->Option Value}{base:Heap}{k:Nat}(T:Bu mg){f:Addr}{fd:FuncData}(F:qH K "is_wholes_below" "is_wholes_below" Wg f fd)(hm:mg "is_wholes_below" = some (.ref f)){y9:Fn}(yw:zE P w K mg base k "is_wholes" 2 y9):zE P w K mg base (k+1) "is_wholes_below" 3 (z9 3 (Wi y9)):=
 Y.jH F hm PK (λ _ _ _ _ _ _ us hl=>(Cr hl).elim λ a h=>h.elim λ b h=>h.elim λ c q=>by subst q;rfl) λ cdv A outer s H E hr=>Y.zx (Y.qk (Y.ZV (Y.qf yw hr (Y.zl (Y.zo 0) (Y.zl (Y.zo 1) (Y.zu))) (zm (zm zt))) (Y.QJ (Y.Jv rfl T.Jz (Y.yC (Y.qI (N:=["part", "limit"]) 1 [2] rfl (cps (by kernel_rfl)) (by kernel_rfl) (Y.jN (Y.zo 0)) (λ _ _ _=>⟨Y.qx 0 (by decide +kernel:(["part", "limit"]:List Str).Nodup),Y.qP,Y.qF (λ _ _ z=>z) (Y.DH VS Pc (Y.zq) (Y.zo 0) (Y.zo 1)) rfl⟩))))))) (Y.zH)
noncomputable abbrev GN:Stmt:=top 23
theorem UW:qU ["thing", "many"] ["thing"] (qh GN):=⟨rfl,rfl,rfl,by decide +kernel,rfl,by decide +kernel,by decide +kernel⟩
noncomputable def GQ (Yu:Fn)(JY:Fn)(JX:Fn):Ex:=zr (qB (kA (jd (jW .tup (zh 0))) (jd (yu kB kB (zi (.int 1)) (mQ qK (qa (zh 0))) (zi (.int 8))))) (zr (zZ (zi (.bl false))) (zA)) (zA)) (zr (zT 1 (mQ qK (qa (zh 0)))) (zr (qB (jd (mQ ZA (zN 1 [1] (qj (zh 0)) (zI 0) (zi (.bl true)) (zK (zD JY (zc (zh 0) (zc (zh 1) (zc (zh 1) (zj))))))))) (zr (zZ (zi (.bl false))) (zA)) (zA)) (zr (zZ (yk (zD Yu (zc (zh 0) (zj))) (zD JX (zc (zh 0) (zj))))) (zA))))
theorem NJ {P:Program}{w:World}{K:Frag}{mg:Str->Option Value}{base:Heap}{k:Nat}(T:Bu mg){f:Addr}{fd:FuncData}(F:qH K "is_table" "is_table" GN f fd)(hm:mg "is_table" = some (.ref f)){Yu:Fn}(Jf:zE P w K mg base k "is_even" 1 Yu){JY:Fn}(ZI:zE P w K mg base k "is_wholes_below" 3 JY){JX:Fn}(Q4:zE P w K mg base k "leaves_no_kind_out" 1 JX):zE P w K mg base (k+1) "is_table" 1 (z9 2 (GQ Yu JY JX)):=
 Y.jH F hm UW (λ _ _ _ _ _ _ us hl=>(yX hl).elim λ a q=>by subst q;rfl) λ cdv A outer s H E hr=>Y.zx (Y.jB (Y.QD (Y.Kl (Y.wy (Y.kC (Y.kD .tup T.jm T.yO (by rfl) (Y.zo 0)))) (Y.Ki (Y.wy (Y.Cm VS VS (Y.zq) (Y.kf T.kj (Y.jZ (Y.zo 0))) (Y.IQ rfl T.OA.choose_spec)))))) (Y.zx (Y.qk (Y.yb)) (Y.zH)) (Y.zH)) (Y.zx (Y.qw 1 UW.nd (Y.kf T.kj (Y.jZ (Y.zo 0)))) (Y.zx (Y.jB (Y.wy (Y.kC (Y.Jv rfl T.Jz (Y.yC (Y.qI (N:=["row", "many"]) 1 [1] rfl (cps (by kernel_rfl)) (by kernel_rfl) (Y.jN (Y.zo 0)) (λ _ _ _=>⟨Y.qx 0 (by decide +kernel:(["row", "many"]:List Str).Nodup),Y.qP,Y.qF (λ _ _ z=>z) (Y.qf ZI hr (Y.zl (Y.zo 0) (Y.zl (Y.zo 1) (Y.zl (Y.zo 1) (Y.zu)))) (zm (zm (zm zt)))) rfl⟩)))))) (Y.zx (Y.qk (Y.yb)) (Y.zH)) (Y.zH)) (Y.zx (Y.qk (Y.ZV (Y.qf Jf hr (Y.zl (Y.zo 0) (Y.zu)) (zm zt)) (Y.QJ (Y.qf Q4 hr (Y.zl (Y.zo 0) (Y.zu)) (zm zt))))) (Y.zH))))
noncomputable abbrev G1:Stmt:=top 24
theorem GO:qU ["rows", "a", "row", "b", "kind"] ["rows"] (qh G1):=⟨rfl,rfl,rfl,by decide +kernel,rfl,by decide +kernel,by decide +kernel⟩
noncomputable def Yw:Ex:=zr (kJ (QN (zh 0)) (wa 1 2) (zr (kJ (QN (zh 2)) (wa 3 4) (zr (qB (kA (zp jg (zp jl (zh 4) (zi (.int 0))) (zp jl (zh 1) (zh 3))) (zp jg (zp zG (zp zG (zh 0) (zh 3)) (zh 1)) (zh 4))) (zr (zZ (zi (.bl false))) (zA)) (zA)) (zA))) (zA))) (zr (zZ (zi (.bl true))) (zA))
theorem NW {P:Program}{w:World}{K:Frag}{mg:Str->Option Value}{base:Heap}{k:Nat}(T:Bu mg){f:Addr}{fd:FuncData}(F:qH K "is_even" "is_even" G1 f fd)(hm:mg "is_even" = some (.ref f)):zE P w K mg base (k+1) "is_even" 1 (z9 5 (Yw)):=
 Y.jH F hm GO (λ _ _ _ _ _ _ us hl=>(yX hl).elim λ a q=>by subst q;rfl) λ cdv A outer s H E hr=>Y.zx (Y.ZZ PassesOwn.never rfl (Y.SK rfl T.UU (Y.zo 0)) (Y.YY 1 2 rfl GO.nd) (Y.zx (Y.ZZ PassesOwn.never rfl (Y.SK rfl T.UU (Y.zo 2)) (Y.YY 3 4 rfl GO.nd) (Y.zx (Y.jB (Y.QD (Y.Kl (Y.jT (km hr) (Y.wD (yz hr) (Y.zo 4) (Y.zq)) (Y.wD (yz hr) (Y.zo 1) (Y.zo 3))) (Y.Ki (Y.jT (km hr) (Y.qG (Y.qG (Y.zo 0) (Y.zo 3)) (Y.zo 1)) (Y.zo 4))))) (Y.zx (Y.qk (Y.yb)) (Y.zH)) (Y.zH)) (Y.zH))) (Y.zH))) (Y.zx (Y.qk (Y.yb)) (Y.zH))
noncomputable abbrev Wc:Stmt:=top 25
theorem Uu:qU ["rows", "standing"] ["rows"] (qh Wc):=⟨rfl,rfl,rfl,by decide +kernel,rfl,by decide +kernel,by decide +kernel⟩
noncomputable def Wd:Ex:=zr (zT 1 (qg (zN 2 [] (qj (zh 0)) (zI 0) (zi (.bl true)) (QO (qj (zh 0)) (zI 1) (zi (.bl true)) (zK (zh 1)))))) (zr (zZ (mQ ZA (zN 1 [1] (ji (mQ jU (qa (zh 1)))) (zI 0) (zi (.bl true)) (zK (zp K6 (zh 0) (zh 1)))))) (zA))
theorem Pz {P:Program}{w:World}{K:Frag}{mg:Str->Option Value}{base:Heap}{k:Nat}(T:Bu mg){f:Addr}{fd:FuncData}(F:qH K "leaves_no_kind_out" "leaves_no_kind_out" Wc f fd)(hm:mg "leaves_no_kind_out" = some (.ref f)):zE P w K mg base (k+1) "leaves_no_kind_out" 1 (z9 2 (Wd)):=
 Y.jH F hm Uu (λ _ _ _ _ _ _ us hl=>(yX hl).elim λ a q=>by subst q;rfl) λ cdv A outer s H E hr=>Y.zx (Y.qw 1 Uu.nd (Y.jS (Y.qI (N:=["row", "kind"]) 2 [] rfl (cps (by kernel_rfl)) (by kernel_rfl) (Y.jN (Y.zo 0)) (λ _ _ _=>⟨Y.qx 0 (by decide +kernel:(["row", "kind"]:List Str).Nodup),Y.qP,Y.FJ (λ _ _ z=>z) rfl rfl (by intro _ h;cases h<;>rfl) (Y.jN (Y.zo 0)) (Y.qx 1 (by decide +kernel:(["row", "kind"]:List Str).Nodup)) (Y.qP) (Y.qF (λ _ _ z=>z) (Y.zo 1) rfl)⟩)))) (Y.zx (Y.qk (Y.Jv rfl T.Jz (Y.yC (Y.qI (N:=["kind", "standing"]) 1 [1] rfl (cps (by kernel_rfl)) (by kernel_rfl) (Y.jX rfl T.jJ (Y.ZU rfl T.Zv (Y.jZ (Y.zo 1)))) (λ _ _ _=>⟨Y.qx 0 (by decide +kernel:(["kind", "standing"]:List Str).Nodup),Y.qP,Y.qF (λ _ _ z=>z) (Y.DB R4 (Y.zo 0) (Y.zo 1)) rfl⟩))))) (Y.zH))
noncomputable abbrev Ws:Stmt:=top 26
theorem PX:qU ["table"] ["table"] (qh Ws):=⟨rfl,rfl,rfl,by decide +kernel,rfl,by decide +kernel,by decide +kernel⟩
noncomputable def J1 (Ys:Fn):Ex:=zr (qB ((λ ρ A=>((jd (zD Ys (zc (zh 0) (zj)))) ρ A).nox)) (zr (Y8 "NoTable" (zc (zi (.str "this is no table")) (zj))) (zA)) (zA)) (zA)
theorem P1 {P:Program}{w:World}{K:Frag}{mg:Str->Option Value}{base:Heap}{k:Nat}(T:Bu mg)(C:yG K zO "NearError"){f:Addr}{fd:FuncData}(F:qH K "require_table" "require_table" Ws f fd)(hm:mg "require_table" = some (.ref f)){Ys:Fn}(wQ:zE P w K mg base k "is_table" 1 Ys):jE P w K mg base (k+1) "require_table" 1 (yZ 1 (J1 Ys)):=
 Y.fnX F hm PX (λ _ _ _ _ _ _ us hl=>(yX hl).elim λ a q=>by subst q;rfl) λ cdv A outer s H E hr xo=>Y.zx (Y.jB (Y.Rh (Y.wy (Y.kC (Y.qf wQ hr (Y.zl (Y.zo 0) (Y.zu)) (zm zt))))) (Y.zx (Y.Tu xo (C.exc "NoTable" (by decide +kernel)) (Y.zl (Y.Kh) (Y.zu)) (zm zt)) (Y.zH)) (Y.zH)) (Y.zH)
noncomputable abbrev WG:Stmt:=top 27
theorem Oe:qU ["table"] ["table"] (qh WG):=⟨rfl,rfl,rfl,by decide +kernel,rfl,by decide +kernel,by decide +kernel⟩
noncomputable def WL:Ex:=zr (zZ (zp z8 (mQ jU (zN 1 [] (qj (zh 0)) (zI 0) (zi (.bl true)) (zK (mQ jU (qa (zh 0)))))) (zi (.int 1)))) (zA)
theorem Ow {P:Program}{w:World}{K:Frag}{mg:Str->Option Value}{base:Heap}{k:Nat}(T:Bu mg){f:Addr}{fd:FuncData}(F:qH K "count_kinds" "count_kinds" WG f fd)(hm:mg "count_kinds" = some (.ref f)):zE P w K mg base (k+1) "count_kinds" 1 (z9 1 (WL)):=
 Y.jH F hm Oe (λ _ _ _ _ _ _ us hl=>(yX hl).elim λ a q=>by subst q;rfl) λ cdv A outer s H E hr=>Y.zx (Y.qk (Y.jA (Y.ZU rfl T.Zv (Y.yC (Y.qI (N:=["row"]) 1 [] rfl (cps (by kernel_rfl)) (by kernel_rfl) (Y.jN (Y.zo 0)) (λ _ _ _=>⟨Y.qx 0 (by decide +kernel:(["row"]:List Str).Nodup),Y.qP,Y.qF (λ _ _ z=>z) (Y.ZU rfl T.Zv (Y.jZ (Y.zo 0))) rfl⟩)))) (Y.zq))) (Y.zH)
noncomputable abbrev Gv:Stmt:=top 28
theorem OX:qU ["rows", "names"] ["rows", "names"] (qh Gv):=⟨rfl,rfl,rfl,by decide +kernel,rfl,by decide +kernel,by decide +kernel⟩
noncomputable def Gm:Ex:=zr (zZ (mQ j0 (zN 1 [1] (qj (zh 0)) (zI 0) (zi (.bl true)) (zK (mQ j0 (zN 1 [1] (qj (zh 0)) (zI 0) (zi (.bl true)) (zK (zp zG (zh 1) (zh 0))))))))) (zA)
theorem Na {P:Program}{w:World}{K:Frag}{mg:Str->Option Value}{base:Heap}{k:Nat}(T:Bu mg){f:Addr}{fd:FuncData}(F:qH K "put_names" "put_names" Gv f fd)(hm:mg "put_names" = some (.ref f)):zE P w K mg base (k+1) "put_names" 2 (z9 2 (Gm)):=
 Y.jH F hm OX (λ _ _ _ _ _ _ us hl=>(yK hl).elim λ a h=>h.elim λ b q=>by subst q;rfl) λ cdv A outer s H E hr=>Y.zx (Y.qk (Y.gH T.yO (Y.yC (Y.qI (N:=["row", "names"]) 1 [1] rfl (cps (by kernel_rfl)) (by kernel_rfl) (Y.jN (Y.zo 0)) (λ _ _ _=>⟨Y.qx 0 (by decide +kernel:(["row", "names"]:List Str).Nodup),Y.qP,Y.qF (λ _ _ z=>z) (Y.gH T.yO (Y.yC (Y.qI (N:=["kind", "names"]) 1 [1] rfl (cps (by kernel_rfl)) (by kernel_rfl) (Y.jN (Y.zo 0)) (λ _ _ _=>⟨Y.qx 0 (by decide +kernel:(["kind", "names"]:List Str).Nodup),Y.qP,Y.qF (λ _ _ z=>z) (Y.qG (Y.zo 1) (Y.zo 0)) rfl⟩)))) rfl⟩))))) (Y.zH)
noncomputable abbrev Xf:Stmt:=top 30
theorem NR:qU ["table", "thing"] ["table", "thing"] (qh Xf):=⟨rfl,rfl,rfl,by decide +kernel,rfl,by decide +kernel,by decide +kernel⟩
noncomputable def YB (gB:Fn)(y9:Fn)(gx:Fn):Ex:=zr (wt (zD gx (zc (zh 0) (zj)))) ((λ ρ A=>((zr (zZ (zD y9 (zc (zh 1) (zc (zD gB (zc (zh 0) (zj))) (zj))))) (zA)) ρ A).nox))
theorem Lh {P:Program}{w:World}{K:Frag}{mg:Str->Option Value}{base:Heap}{k:Nat}(T:Bu mg)(C:yG K zO "NearError"){f:Addr}{fd:FuncData}(F:qH K "is_mix" "is_mix" Xf f fd)(hm:mg "is_mix" = some (.ref f)){gB:Fn}(gz:zE P w K mg base k "count_kinds" 1 gB){y9:Fn}(yw:zE P w K mg base k "is_wholes" 2 y9){gx:Fn}(Wr:jE P w K mg base k "require_table" 1 gx):jE P w K mg base (k+1) "is_mix" 2 (yZ 2 (YB gB y9 gx)):=
 Y.fnX F hm NR (λ _ _ _ _ _ _ us hl=>(yK hl).elim λ a h=>h.elim λ b q=>by subst q;rfl) λ cdv A outer s H E hr xo=>Y.zx (Y.QF (Y.Qx xo Wr hr (Y.zl (Y.zo 0) (Y.zu)) (zm zt))) (Y.SO (Y.zx (Y.qk (Y.qf yw hr (Y.zl (Y.zo 1) (Y.zl (Y.qf gz hr (Y.zl (Y.zo 0) (Y.zu)) (zm zt)) (Y.zu))) (zm (zm zt)))) (Y.zH)))
noncomputable abbrev WO:Stmt:=top 31
theorem P7:qU ["table", "mix"] ["table", "mix"] (qh WO):=⟨rfl,rfl,rfl,by decide +kernel,rfl,by decide +kernel,by decide +kernel⟩
noncomputable def J7 (gB:Fn)(y9:Fn):Ex:=zr (qB ((λ ρ A=>((jd (zD y9 (zc (zh 1) (zc (zD gB (zc (zh 0) (zj))) (zj))))) ρ A).nox)) (zr (Y8 "NoMix" (zc (zi (.str "this is no mix of the table")) (zj))) (zA)) (zA)) (zA)
theorem Ot {P:Program}{w:World}{K:Frag}{mg:Str->Option Value}{base:Heap}{k:Nat}(T:Bu mg)(C:yG K zO "NearError"){f:Addr}{fd:FuncData}(F:qH K "require_mix" "require_mix" WO f fd)(hm:mg "require_mix" = some (.ref f)){gB:Fn}(gz:zE P w K mg base k "count_kinds" 1 gB){y9:Fn}(yw:zE P w K mg base k "is_wholes" 2 y9):jE P w K mg base (k+1) "require_mix" 2 (yZ 2 (J7 gB y9)):=
 Y.fnX F hm P7 (λ _ _ _ _ _ _ us hl=>(yK hl).elim λ a h=>h.elim λ b q=>by subst q;rfl) λ cdv A outer s H E hr xo=>Y.zx (Y.jB (Y.Rh (Y.wy (Y.kC (Y.qf yw hr (Y.zl (Y.zo 1) (Y.zl (Y.qf gz hr (Y.zl (Y.zo 0) (Y.zu)) (zm zt)) (Y.zu))) (zm (zm zt)))))) (Y.zx (Y.Tu xo (C.exc "NoMix" (by decide +kernel)) (Y.zl (Y.Kh) (Y.zu)) (zm zt)) (Y.zH)) (Y.zH)) (Y.zH)
noncomputable abbrev Xa:Stmt:=top 32
theorem MH:qU ["table", "mix"] ["table", "mix"] (qh Xa):=⟨rfl,rfl,rfl,by decide +kernel,rfl,by decide +kernel,by decide +kernel⟩
noncomputable def Jk (Yi:Fn)(J6:Fn)(gx:Fn):Ex:=zr (wt (zD gx (zc (zh 0) (zj)))) (zr (wt (zD J6 (zc (zh 0) (zc (zh 1) (zj))))) ((λ ρ A=>((zr (zZ (zD Yi (zc (zh 0) (zc (zh 1) (zj))))) (zA)) ρ A).nox)))
theorem LG {P:Program}{w:World}{K:Frag}{mg:Str->Option Value}{base:Heap}{k:Nat}(T:Bu mg)(C:yG K zO "NearError"){f:Addr}{fd:FuncData}(F:qH K "square" "square" Xa f fd)(hm:mg "square" = some (.ref f)){Yi:Fn}(Jc:zE P w K mg base k "put_names" 2 Yi){J6:Fn}(Oo:jE P w K mg base k "require_mix" 2 J6){gx:Fn}(Wr:jE P w K mg base k "require_table" 1 gx):jE P w K mg base (k+1) "square" 2 (yZ 2 (Jk Yi J6 gx)):=
 Y.fnX F hm MH (λ _ _ _ _ _ _ us hl=>(yK hl).elim λ a h=>h.elim λ b q=>by subst q;rfl) λ cdv A outer s H E hr xo=>Y.zx (Y.QF (Y.Qx xo Wr hr (Y.zl (Y.zo 0) (Y.zu)) (zm zt))) (Y.zx (Y.QF (Y.Qx xo Oo hr (Y.zl (Y.zo 0) (Y.zl (Y.zo 1) (Y.zu))) (zm (zm zt)))) (Y.SO (Y.zx (Y.qk (Y.qf Jc hr (Y.zl (Y.zo 0) (Y.zl (Y.zo 1) (Y.zu))) (zm (zm zt)))) (Y.zH))))
noncomputable abbrev Wx:Stmt:=top 34
theorem P0:qU ["_law_script", "_law_k"] ["_law_script", "_law_k"] (qh Wx):=⟨rfl,rfl,rfl,by decide +kernel,rfl,by decide +kernel,by decide +kernel⟩
noncomputable def J3:Ex:=zr (qB (zp Q2 (zh 1) (mQ qK (qa (zh 0)))) (zr (zZ (zp zG (zh 0) (zh 1))) (zA)) (zA)) (zr (zZ (zi (.int 0))) (zA))
theorem Ob {P:Program}{w:World}{K:Frag}{mg:Str->Option Value}{base:Heap}{k:Nat}(T:Bu mg){f:Addr}{fd:FuncData}(F:qH K "_law_cell_at" "_law_cell_at" Wx f fd)(hm:mg "_law_cell_at" = some (.ref f)):zE P w K mg base (k+1) "_law_cell_at" 2 (z9 2 (J3)):=
 Y.jH F hm P0 (λ _ _ _ _ _ _ us hl=>(yK hl).elim λ a h=>h.elim λ b q=>by subst q;rfl) λ cdv A outer s H E hr=>Y.zx (Y.jB (Y.jT Pc (Y.zo 1) (Y.kf T.kj (Y.jZ (Y.zo 0)))) (Y.zx (Y.qk (Y.qG (Y.zo 0) (Y.zo 1))) (Y.zH)) (Y.zH)) (Y.zx (Y.qk (Y.zq)) (Y.zH))
noncomputable abbrev WY:Stmt:=top 35
theorem UL:qU ["_law_script", "_law_k", "_law_cell"] ["_law_script", "_law_k"] (qh WY):=⟨rfl,rfl,rfl,by decide +kernel,rfl,by decide +kernel,by decide +kernel⟩
noncomputable def Yd (J5:Fn):Ex:=zr (zT 2 (zD J5 (zc (zh 0) (zc (zh 1) (zj))))) (zr (qB (zp Uj (zh 2) (zp QT (zi (.int 10)) (zi (.int 18)))) (zr (zZ (zR (zc (zp yf (zh 2) (zp QT (zi (.int 10)) (zi (.int 18)))) (zc (zi (.bl true)) (zj))))) (zA)) (zA)) (zr (zZ (zR (zc (zp yT (zh 2) (zi (.int 2147483647))) (zc (zi (.bl false)) (zj))))) (zA)))
theorem OE {P:Program}{w:World}{K:Frag}{mg:Str->Option Value}{base:Heap}{k:Nat}(T:Bu mg){f:Addr}{fd:FuncData}(F:qH K "_law_state" "_law_state" WY f fd)(hm:mg "_law_state" = some (.ref f)){J5:Fn}(Qp:zE P w K mg base k "_law_cell_at" 2 J5):zE P w K mg base (k+1) "_law_state" 2 (z9 3 (Yd J5)):=
 Y.jH F hm UL (λ _ _ _ _ _ _ us hl=>(yK hl).elim λ a h=>h.elim λ b q=>by subst q;rfl) λ cdv A outer s H E hr=>Y.zx (Y.qw 2 UL.nd (Y.qf Qp hr (Y.zl (Y.zo 0) (Y.zl (Y.zo 1) (Y.zu))) (zm (zm zt)))) (Y.zx (Y.jB (Y.jT CW (Y.zo 2) (Y.X5 (Y.zq) (Y.zq))) (Y.zx (Y.qk (Y.qQ (Y.zl (Y.wW (Y.zo 2) (Y.X5 (Y.zq) (Y.zq))) (Y.zl (Y.yb) (Y.zu))) (zm (zm zt)))) (Y.zH)) (Y.zH)) (Y.zx (Y.qk (Y.qQ (Y.zl (Y.Zq (Y.zo 2) (Y.zq)) (Y.zl (Y.yb) (Y.zu))) (zm (zm zt)))) (Y.zH)))
noncomputable abbrev Gr:Stmt:=top 36
theorem Yf:qU ["_law_state_here", "_law_many", "_law_found", "_law_stirred"] ["_law_state_here", "_law_many"] (qh Gr):=⟨rfl,rfl,rfl,by decide +kernel,rfl,by decide +kernel,by decide +kernel⟩
noncomputable def Yj:Ex:=zr (qB (zp zG (zh 0) (zi (.int 1))) (zr (zT 2 (zp yT (zp zG (zh 0) (zi (.int 0))) (zh 1))) (zr (kh yL (zp k8 (zp zG (zh 0) (zi (.int 0))) (zh 1)) (zh 0) (zi (.int 0))) (zr (zZ (zh 2)) (zA)))) (zA)) (zr (kh yL (zp yT (zp z8 (zp jf (zp zG (zh 0) (zi (.int 0))) (zi (.int 48271))) (zi (.int 29))) (zi (.int 2147483647))) (zh 0) (zi (.int 0))) (zr (zT 3 (zp yT (zp z8 (zp z8 (zp jf (zp zG (zh 0) (zi (.int 0))) (zp zG (zh 0) (zi (.int 0)))) (zp jf (zi (.int 39373)) (zp zG (zh 0) (zi (.int 0))))) (zi (.int 7))) (zi (.int 2147483629)))) (zr (zT 3 (zp yT (zp z8 (zp jf (zh 3) (zh 3)) (zp jf (zi (.int 16807)) (zh 3))) (zi (.int 2147483587)))) (zr (zZ (zp yT (zp k8 (zh 3) (zi (.int 8))) (zh 1))) (zA)))))
theorem O3 {P:Program}{w:World}{K:Frag}{mg:Str->Option Value}{base:Heap}{k:Nat}(T:Bu mg){f:Addr}{fd:FuncData}(F:qH K "_law_take" "_law_take" Gr f fd)(hm:mg "_law_take" = some (.ref f)):zE P w K mg base (k+1) "_law_take" 2 (z9 4 (Yj)):=
 Y.jH F hm Yf (λ _ _ _ _ _ _ us hl=>(yK hl).elim λ a h=>h.elim λ b q=>by subst q;rfl) λ cdv A outer s H E hr=>Y.zx (Y.jB (Y.kC (Y.qG (Y.zo 0) (Y.zq))) (Y.zx (Y.qw 2 Yf.nd (Y.Zq (Y.qG (Y.zo 0) (Y.zq)) (Y.zo 1))) (Y.zx (Y.QH (Y.ZS (Y.qG (Y.zo 0) (Y.zq)) (Y.zo 1)) (Y.zo 0) (Y.zq)) (Y.zx (Y.qk (Y.zo 2)) (Y.zH)))) (Y.zH)) (Y.zx (Y.QH (Y.Zq (Y.jA (Y.kY (Y.qG (Y.zo 0) (Y.zq)) (Y.zq)) (Y.zq)) (Y.zq)) (Y.zo 0) (Y.zq)) (Y.zx (Y.qw 3 Yf.nd (Y.Zq (Y.jA (Y.jA (Y.kY (Y.qG (Y.zo 0) (Y.zq)) (Y.qG (Y.zo 0) (Y.zq))) (Y.kY (Y.zq) (Y.qG (Y.zo 0) (Y.zq)))) (Y.zq)) (Y.zq))) (Y.zx (Y.qw 3 Yf.nd (Y.Zq (Y.jA (Y.kY (Y.zo 3) (Y.zo 3)) (Y.kY (Y.zq) (Y.zo 3))) (Y.zq))) (Y.zx (Y.qk (Y.Zq (Y.ZS (Y.zo 3) (Y.zq)) (Y.zo 1))) (Y.zH)))))
noncomputable abbrev Wn:Stmt:=top 37
theorem Wh:qU ["_law_state_here", "_law_things", "_law_left", "_law_found"] ["_law_state_here", "_law_things"] (qh Wn):=⟨rfl,rfl,rfl,by decide +kernel,rfl,by decide +kernel,by decide +kernel⟩
noncomputable def Wl (qE:Fn):Ex:=zr (zT 2 (qg (qa (zh 1)))) (zr (zT 3 (zR (zj))) (zr (X0 1000 (zp jg (zh 2) (zR (zj))) (zr (wt (yV wu (zh 3) (yV w5 (zh 2) (zD qE (zc (zh 0) (zc (mQ qK (qa (zh 2))) (zj))))))) (zA))) (zr (zZ (zh 3)) (zA))))
theorem PU {P:Program}{w:World}{K:Frag}{mg:Str->Option Value}{base:Heap}{k:Nat}(T:Bu mg){f:Addr}{fd:FuncData}(F:qH K "_law_mixed_row" "_law_mixed_row" Wn f fd)(hm:mg "_law_mixed_row" = some (.ref f)){qE:Fn}(qu:zE P w K mg base k "_law_take" 2 qE):zE P w K mg base (k+1) "_law_mixed_row" 2 (z9 4 (Wl qE)):=
 Y.jH F hm Wh (λ _ _ _ _ _ _ us hl=>(yK hl).elim λ a h=>h.elim λ b q=>by subst q;rfl) λ cdv A outer s H E hr=>Y.zx (Y.qw 2 Wh.nd (Y.Y3 T.gO (Y.jZ (Y.zo 1)))) (Y.zx (Y.qw 3 Wh.nd (Y.qQ (Y.zu) (zt))) (Y.zx (Y.LP 1000 PassesOwn.never (Y.jT (km hr) (Y.zo 2) (Y.qQ (Y.zu) (zt))) (Y.zx (Y.QF (Y.GW (Y.zo 3) (Y.Ij (Y.zo 2) (Y.qf qu hr (Y.zl (Y.zo 0) (Y.zl (Y.kf T.kj (Y.jZ (Y.zo 2))) (Y.zu))) (zm (zm zt)))))) (Y.zH))) (Y.zx (Y.qk (Y.zo 3)) (Y.zH))))
noncomputable abbrev W2:Stmt:=top 38
theorem UH:qU ["_law_rows", "_law_some"] ["_law_rows"] (qh W2):=⟨rfl,rfl,rfl,by decide +kernel,rfl,by decide +kernel,by decide +kernel⟩
noncomputable def W6:Ex:=zr (zT 1 (YL (zp gR (qg (zN 1 [] (qj (zh 0)) (zI 0) (zi (.bl true)) (zK (qg (qa (zh 0)))))) (zR (zj))))) (zr (zZ (mQ j0 (zN 1 [1] (qj (zh 0)) (zI 0) (zi (.bl true)) (zK (mQ j0 (zN 1 [1] (qj (zh 0)) (zI 0) (zi (.bl true)) (zK (yV wY (zh 1) (zh 0))))))))) (zA))
theorem OT {P:Program}{w:World}{K:Frag}{mg:Str->Option Value}{base:Heap}{k:Nat}(T:Bu mg){f:Addr}{fd:FuncData}(F:qH K "_law_named" "_law_named" W2 f fd)(hm:mg "_law_named" = some (.ref f)):zE P w K mg base (k+1) "_law_named" 1 (z9 2 (W6)):=
 Y.jH F hm UH (λ _ _ _ _ _ _ us hl=>(yX hl).elim λ a q=>by subst q;rfl) λ cdv A outer s H E hr=>Y.zx (Y.qw 1 UH.nd (Y.Nx rfl T.Ia T.DN (Y.IT rfl T.DY (Y.jS (Y.qI (N:=["_law_row"]) 1 [] rfl (cps (by kernel_rfl)) (by kernel_rfl) (Y.jN (Y.zo 0)) (λ _ _ _=>⟨Y.qx 0 (by decide +kernel:(["_law_row"]:List Str).Nodup),Y.qP,Y.qF (λ _ _ z=>z) (Y.Y3 T.gO (Y.jZ (Y.zo 0))) rfl⟩))) (Y.qQ (Y.zu) (zt))))) (Y.zx (Y.qk (Y.gH T.yO (Y.yC (Y.qI (N:=["_law_row", "_law_some"]) 1 [1] rfl (cps (by kernel_rfl)) (by kernel_rfl) (Y.jN (Y.zo 0)) (λ _ _ _=>⟨Y.qx 0 (by decide +kernel:(["_law_row", "_law_some"]:List Str).Nodup),Y.qP,Y.qF (λ _ _ z=>z) (Y.gH T.yO (Y.yC (Y.qI (N:=["_law_kind", "_law_some"]) 1 [1] rfl (cps (by kernel_rfl)) (by kernel_rfl) (Y.jN (Y.zo 0)) (λ _ _ _=>⟨Y.qx 0 (by decide +kernel:(["_law_kind", "_law_some"]:List Str).Nodup),Y.qP,Y.qF (λ _ _ z=>z) (Y.Lf hr (Y.zo 1) (Y.zo 0)) rfl⟩)))) rfl⟩))))) (Y.zH))
noncomputable abbrev WX:Stmt:=top 39
theorem y8:qU ["_law_state_here", "_law_way", "_law_many", "_law_wide", "_law_high", "_law_some", "_law_ring", "_law_rows", "_law_a", "_law_near", "_law_far"] ["_law_state_here"] (qh WX):=⟨rfl,rfl,rfl,by decide +kernel,rfl,by decide +kernel,by decide +kernel⟩
noncomputable def Ya (qE:Fn):Ex:=zr (zT 1 (zD qE (zc (zh 0) (zc (zi (.int 8)) (zj))))) (zr (zT 2 (zp zG (zR (zc (zi (.int 8)) (zc (zi (.int 7)) (zc (zi (.int 6)) (zc (zi (.int 5)) (zc (zi (.int 4)) (zc (zi (.int 3)) (zc (zi (.int 2)) (zc (zi (.int 1)) (zj)))))))))) (zD qE (zc (zh 0) (zc (zi (.int 8)) (zj)))))) (zr (qB (zp jl (zh 1) (zi (.int 0))) (zr (zZ (qg (zN 1 [2] (ji (zh 2)) (zI 0) (zi (.bl true)) (zK (qg (zN 1 [0,1] (ji (zh 1)) (zI 0) (zi (.bl true)) (zK (zp Zx (jV JG (zp yf (zh 1) (zh 0))) (zp yf (zh 2) (jV JG (zp yf (zh 1) (zh 0)))))))))))) (zA)) (zA)) (zr (qB (zp jl (zh 1) (zi (.int 1))) (zr (zT 2 (zp zG (zR (zc (zi (.int 8)) (zc (zi (.int 4)) (zc (zi (.int 2)) (zj))))) (zD qE (zc (zh 0) (zc (zi (.int 3)) (zj)))))) (zr (zZ (qg (zN 1 [2] (ji (zh 2)) (zI 0) (zi (.bl true)) (zK (qg (zN 1 [0] (ji (zh 1)) (zI 0) (zi (.bl true)) (zK (zp zG (zR (zc (zi (.int 0)) (zc (zi (.int 1)) (zc (zi (.int 1)) (zc (zi (.int 2)) (zc (zi (.int 1)) (zc (zi (.int 2)) (zc (zi (.int 2)) (zc (zi (.int 3)) (zj)))))))))) (zp VU (zh 1) (zh 0)))))))))) (zA))) (zA)) (zr (qB (zp jl (zh 1) (zi (.int 2))) (zr (zZ (qg (zN 1 [2] (ji (zh 2)) (zI 0) (zi (.bl true)) (zK (qg (zN 1 [0] (ji (zh 1)) (zI 0) (zi (.bl true)) (zK (jV Qg (zp jg (zh 1) (zh 0)))))))))) (zA)) (zA)) (zr (qB (zp jl (zh 1) (zi (.int 3))) (zr (KD (zp zG (zR (zc (zz (zc (zi (.int 2)) (zc (zi (.int 4)) (zj)))) (zc (zz (zc (zi (.int 4)) (zc (zi (.int 2)) (zj)))) (zc (zz (zc (zi (.int 2)) (zc (zi (.int 3)) (zj)))) (zc (zz (zc (zi (.int 3)) (zc (zi (.int 2)) (zj)))) (zc (zz (zc (zi (.int 2)) (zc (zi (.int 2)) (zj)))) (zj))))))) (zD qE (zc (zh 0) (zc (zi (.int 5)) (zj))))) (wa 3 4)) (zr (zT 2 (zp jf (zh 3) (zh 4))) (zr (zZ (qg (zN 1 [2,3] (ji (zh 2)) (zI 0) (zi (.bl true)) (zK (qg (zN 1 [0,2] (ji (zh 1)) (zI 0) (zi (.bl true)) (zK (zp z8 (jV Qg (zp jg (zh 1) (zh 0))) (jV Qg (zp jg (zp k8 (zh 1) (zh 2)) (zp k8 (zh 0) (zh 2)))))))))))) (zA)))) (zA)) (zr (qB (zp jl (zh 1) (zi (.int 4))) (zr (zT 5 (zR (zc (zz (zc (zi (.int 0)) (zc (zi (.int 1)) (zj)))) (zc (zz (zc (zi (.int 0)) (zc (zi (.int 2)) (zj)))) (zc (zz (zc (zi (.int 0)) (zc (zi (.int 3)) (zj)))) (zc (zz (zc (zi (.int 1)) (zc (zi (.int 2)) (zj)))) (zc (zz (zc (zi (.int 1)) (zc (zi (.int 3)) (zj)))) (zc (zz (zc (zi (.int 2)) (zc (zi (.int 3)) (zj)))) (zj))))))))) (zr (zZ (qg (zN 1 [5] (qj (zh 5)) (zI 0) (zi (.bl true)) (zK (qg (zN 1 [0] (qj (zh 1)) (zI 0) (zi (.bl true)) (zK (zp yf (zi (.int 2)) (mQ qK (zN 1 [0] (qj (zh 1)) (zI 0) (zp K6 (zh 0) (zh 1)) (zK (zh 0)))))))))))) (zA))) (zA)) (zr (qB (zp jl (zh 1) (zi (.int 5))) (zr (zT 2 (zp zG (zR (zc (zi (.int 4)) (zc (zi (.int 8)) (zc (zi (.int 2)) (zj))))) (zD qE (zc (zh 0) (zc (zi (.int 3)) (zj)))))) (zr (zZ (qg (zN 1 [2] (ji (zh 2)) (zI 0) (zi (.bl true)) (zK (qg (zN 1 [0] (ji (zh 1)) (zI 0) (zi (.bl true)) (zK (zp VU (zh 1) (zh 0))))))))) (zA))) (zA)) (zr (zT 3 (zp zG (zR (zc (zi (.int 4)) (zc (zi (.int 3)) (zc (zi (.int 2)) (zj))))) (zD qE (zc (zh 0) (zc (zi (.int 3)) (zj)))))) (zr (zT 6 (zR (zc (zi (.int 0)) (zc (zi (.int 1)) (zc (zp zG (zR (zc (zi (.int 2)) (zc (zi (.int 1)) (zj)))) (jV Qg (zp jl (zh 3) (zi (.int 3))))) (zc (zi (.int 1)) (zj))))))) (zr (zT 7 (zR (zj))) (zr (kJ (ji (zp jf (zi (.int 2)) (zh 3))) (zI 8) (zr (zT 9 (qg (zN 1 [3,6,8] (ji (zp jf (zi (.int 2)) (zh 3))) (zI 0) (zi (.bl true)) (zK (zp zG (zh 2) (zp yT (jV JG (zp yf (zh 3) (zh 0))) (zh 1))))))) (zr (zT 10 (qg (zN 1 [3,8] (ji (zp jf (zi (.int 2)) (zh 3))) (zI 0) (zi (.bl true)) (zK (jV Qg (zp jg (zp k8 (zh 2) (zh 1)) (zp k8 (zh 0) (zh 1)))))))) (zr (qB (zp jl (zh 1) (zi (.int 6))) (zr (wt (yV wu (zh 7) (qg (zN 1 [9,10] (ji (zp jf (zi (.int 2)) (zh 3))) (zI 0) (zi (.bl true)) (zK (zp z8 (zp jf (zi (.int 3)) (zp zG (zh 2) (zh 0))) (zp zG (zh 1) (zh 0)))))))) (zA)) (zr (wt (yV wu (zh 7) (qg (zN 1 [9,10] (ji (zp jf (zi (.int 2)) (zh 3))) (zI 0) (zi (.bl true)) (zK (Pg (zp jl (zp zG (zh 2) (zh 0)) (zi (.int 1))) (zi (.int 3)) (zp zG (zh 1) (zh 0)))))))) (zA))) (zA))))) (zr (zZ (zh 7)) (zA)))))))))))))
theorem OQ {P:Program}{w:World}{K:Frag}{mg:Str->Option Value}{base:Heap}{k:Nat}(T:Bu mg){f:Addr}{fd:FuncData}(F:qH K "_law_plain" "_law_plain" WX f fd)(hm:mg "_law_plain" = some (.ref f)){qE:Fn}(qu:zE P w K mg base k "_law_take" 2 qE):zE P w K mg base (k+1) "_law_plain" 1 (z9 11 (Ya qE)):=
 Y.jH F hm y8 (λ _ _ _ _ _ _ us hl=>(yX hl).elim λ a q=>by subst q;rfl) λ cdv A outer s H E hr=>Y.zx (Y.qw 1 y8.nd (Y.qf qu hr (Y.zl (Y.zo 0) (Y.zl (Y.zq) (Y.zu))) (zm (zm zt)))) (Y.zx (Y.qw 2 y8.nd (Y.qG (Y.qQ (Y.zl (Y.zq) (Y.zl (Y.zq) (Y.zl (Y.zq) (Y.zl (Y.zq) (Y.zl (Y.zq) (Y.zl (Y.zq) (Y.zl (Y.zq) (Y.zl (Y.zq) (Y.zu))))))))) (zm (zm (zm (zm (zm (zm (zm (zm zt))))))))) (Y.qf qu hr (Y.zl (Y.zo 0) (Y.zl (Y.zq) (Y.zu))) (zm (zm zt))))) (Y.zx (Y.jB (Y.jT (yz hr) (Y.zo 1) (Y.zq)) (Y.zx (Y.qk (Y.jS (Y.qI (N:=["_law_a", "_law_many"]) 1 [2] rfl (cps (by kernel_rfl)) (by kernel_rfl) (Y.jX rfl T.jJ (Y.zo 2)) (λ _ _ _=>⟨Y.qx 0 (by decide +kernel:(["_law_a", "_law_many"]:List Str).Nodup),Y.qP,Y.qF (λ _ _ z=>z) (Y.jS (Y.qI (N:=["_law_b", "_law_a", "_law_many"]) 1 [0,1] rfl (cps (by kernel_rfl)) (by kernel_rfl) (Y.jX rfl T.jJ (Y.zo 1)) (λ _ _ _=>⟨Y.qx 0 (by decide +kernel:(["_law_b", "_law_a", "_law_many"]:List Str).Nodup),Y.qP,Y.qF (λ _ _ z=>z) (Y.Xz rfl T.VI (Y.XW T.Vg (Y.wW (Y.zo 1) (Y.zo 0))) (Y.wW (Y.zo 2) (Y.XW T.Vg (Y.wW (Y.zo 1) (Y.zo 0))))) rfl⟩))) rfl⟩)))) (Y.zH)) (Y.zH)) (Y.zx (Y.jB (Y.jT (yz hr) (Y.zo 1) (Y.zq)) (Y.zx (Y.qw 2 y8.nd (Y.qG (Y.qQ (Y.zl (Y.zq) (Y.zl (Y.zq) (Y.zl (Y.zq) (Y.zu)))) (zm (zm (zm zt)))) (Y.qf qu hr (Y.zl (Y.zo 0) (Y.zl (Y.zq) (Y.zu))) (zm (zm zt))))) (Y.zx (Y.qk (Y.jS (Y.qI (N:=["_law_a", "_law_many"]) 1 [2] rfl (cps (by kernel_rfl)) (by kernel_rfl) (Y.jX rfl T.jJ (Y.zo 2)) (λ _ _ _=>⟨Y.qx 0 (by decide +kernel:(["_law_a", "_law_many"]:List Str).Nodup),Y.qP,Y.qF (λ _ _ z=>z) (Y.jS (Y.qI (N:=["_law_b", "_law_a"]) 1 [0] rfl (cps (by kernel_rfl)) (by kernel_rfl) (Y.jX rfl T.jJ (Y.zo 1)) (λ _ _ _=>⟨Y.qx 0 (by decide +kernel:(["_law_b", "_law_a"]:List Str).Nodup),Y.qP,Y.qF (λ _ _ z=>z) (Y.qG (Y.qQ (Y.zl (Y.zq) (Y.zl (Y.zq) (Y.zl (Y.zq) (Y.zl (Y.zq) (Y.zl (Y.zq) (Y.zl (Y.zq) (Y.zl (Y.zq) (Y.zl (Y.zq) (Y.zu))))))))) (zm (zm (zm (zm (zm (zm (zm (zm zt))))))))) (Y.Rk (Y.zo 1) (Y.zo 0))) rfl⟩))) rfl⟩)))) (Y.zH))) (Y.zH)) (Y.zx (Y.jB (Y.jT (yz hr) (Y.zo 1) (Y.zq)) (Y.zx (Y.qk (Y.jS (Y.qI (N:=["_law_a", "_law_many"]) 1 [2] rfl (cps (by kernel_rfl)) (by kernel_rfl) (Y.jX rfl T.jJ (Y.zo 2)) (λ _ _ _=>⟨Y.qx 0 (by decide +kernel:(["_law_a", "_law_many"]:List Str).Nodup),Y.qP,Y.qF (λ _ _ z=>z) (Y.jS (Y.qI (N:=["_law_b", "_law_a"]) 1 [0] rfl (cps (by kernel_rfl)) (by kernel_rfl) (Y.jX rfl T.jJ (Y.zo 1)) (λ _ _ _=>⟨Y.qx 0 (by decide +kernel:(["_law_b", "_law_a"]:List Str).Nodup),Y.qP,Y.qF (λ _ _ z=>z) (Y.Jh T.Z5 (Y.wD (km hr) (Y.zo 1) (Y.zo 0))) rfl⟩))) rfl⟩)))) (Y.zH)) (Y.zH)) (Y.zx (Y.jB (Y.jT (yz hr) (Y.zo 1) (Y.zq)) (Y.zx (Y.E7 (Y.qG (Y.qQ (Y.zl (Y.zY (Y.zl (Y.zq) (Y.zl (Y.zq) (Y.zu))) (zm (zm zt))) (Y.zl (Y.zY (Y.zl (Y.zq) (Y.zl (Y.zq) (Y.zu))) (zm (zm zt))) (Y.zl (Y.zY (Y.zl (Y.zq) (Y.zl (Y.zq) (Y.zu))) (zm (zm zt))) (Y.zl (Y.zY (Y.zl (Y.zq) (Y.zl (Y.zq) (Y.zu))) (zm (zm zt))) (Y.zl (Y.zY (Y.zl (Y.zq) (Y.zl (Y.zq) (Y.zu))) (zm (zm zt))) (Y.zu)))))) (zm (zm (zm (zm (zm zt)))))) (Y.qf qu hr (Y.zl (Y.zo 0) (Y.zl (Y.zq) (Y.zu))) (zm (zm zt)))) (Y.YY 3 4 rfl y8.nd)) (Y.zx (Y.qw 2 y8.nd (Y.kY (Y.zo 3) (Y.zo 4))) (Y.zx (Y.qk (Y.jS (Y.qI (N:=["_law_a", "_law_many", "_law_wide"]) 1 [2,3] rfl (cps (by kernel_rfl)) (by kernel_rfl) (Y.jX rfl T.jJ (Y.zo 2)) (λ _ _ _=>⟨Y.qx 0 (by decide +kernel:(["_law_a", "_law_many", "_law_wide"]:List Str).Nodup),Y.qP,Y.qF (λ _ _ z=>z) (Y.jS (Y.qI (N:=["_law_b", "_law_a", "_law_wide"]) 1 [0,2] rfl (cps (by kernel_rfl)) (by kernel_rfl) (Y.jX rfl T.jJ (Y.zo 1)) (λ _ _ _=>⟨Y.qx 0 (by decide +kernel:(["_law_b", "_law_a", "_law_wide"]:List Str).Nodup),Y.qP,Y.qF (λ _ _ z=>z) (Y.jA (Y.Jh T.Z5 (Y.wD (km hr) (Y.zo 1) (Y.zo 0))) (Y.Jh T.Z5 (Y.wD (km hr) (Y.ZS (Y.zo 1) (Y.zo 2)) (Y.ZS (Y.zo 0) (Y.zo 2))))) rfl⟩))) rfl⟩)))) (Y.zH)))) (Y.zH)) (Y.zx (Y.jB (Y.jT (yz hr) (Y.zo 1) (Y.zq)) (Y.zx (Y.qw 5 y8.nd (Y.qQ (Y.zl (Y.zY (Y.zl (Y.zq) (Y.zl (Y.zq) (Y.zu))) (zm (zm zt))) (Y.zl (Y.zY (Y.zl (Y.zq) (Y.zl (Y.zq) (Y.zu))) (zm (zm zt))) (Y.zl (Y.zY (Y.zl (Y.zq) (Y.zl (Y.zq) (Y.zu))) (zm (zm zt))) (Y.zl (Y.zY (Y.zl (Y.zq) (Y.zl (Y.zq) (Y.zu))) (zm (zm zt))) (Y.zl (Y.zY (Y.zl (Y.zq) (Y.zl (Y.zq) (Y.zu))) (zm (zm zt))) (Y.zl (Y.zY (Y.zl (Y.zq) (Y.zl (Y.zq) (Y.zu))) (zm (zm zt))) (Y.zu))))))) (zm (zm (zm (zm (zm (zm zt)))))))) (Y.zx (Y.qk (Y.jS (Y.qI (N:=["_law_a", "_law_some"]) 1 [5] rfl (cps (by kernel_rfl)) (by kernel_rfl) (Y.jN (Y.zo 5)) (λ _ _ _=>⟨Y.qx 0 (by decide +kernel:(["_law_a", "_law_some"]:List Str).Nodup),Y.qP,Y.qF (λ _ _ z=>z) (Y.jS (Y.qI (N:=["_law_b", "_law_a"]) 1 [0] rfl (cps (by kernel_rfl)) (by kernel_rfl) (Y.jN (Y.zo 1)) (λ _ _ _=>⟨Y.qx 0 (by decide +kernel:(["_law_b", "_law_a"]:List Str).Nodup),Y.qP,Y.qF (λ _ _ z=>z) (Y.wW (Y.zq) (Y.kf T.kj (Y.yC (Y.qI (N:=["_law_one", "_law_b"]) 1 [0] rfl (cps (by kernel_rfl)) (by kernel_rfl) (Y.jN (Y.zo 1)) (λ _ _ _=>⟨Y.qx 0 (by decide +kernel:(["_law_one", "_law_b"]:List Str).Nodup),Y.Xr (Y.DO R4 (Y.zo 0) (Y.zo 1)),Y.qF (λ _ _ z=>z) (Y.zo 0) rfl⟩))))) rfl⟩))) rfl⟩)))) (Y.zH))) (Y.zH)) (Y.zx (Y.jB (Y.jT (yz hr) (Y.zo 1) (Y.zq)) (Y.zx (Y.qw 2 y8.nd (Y.qG (Y.qQ (Y.zl (Y.zq) (Y.zl (Y.zq) (Y.zl (Y.zq) (Y.zu)))) (zm (zm (zm zt)))) (Y.qf qu hr (Y.zl (Y.zo 0) (Y.zl (Y.zq) (Y.zu))) (zm (zm zt))))) (Y.zx (Y.qk (Y.jS (Y.qI (N:=["_law_a", "_law_many"]) 1 [2] rfl (cps (by kernel_rfl)) (by kernel_rfl) (Y.jX rfl T.jJ (Y.zo 2)) (λ _ _ _=>⟨Y.qx 0 (by decide +kernel:(["_law_a", "_law_many"]:List Str).Nodup),Y.qP,Y.qF (λ _ _ z=>z) (Y.jS (Y.qI (N:=["_law_b", "_law_a"]) 1 [0] rfl (cps (by kernel_rfl)) (by kernel_rfl) (Y.jX rfl T.jJ (Y.zo 1)) (λ _ _ _=>⟨Y.qx 0 (by decide +kernel:(["_law_b", "_law_a"]:List Str).Nodup),Y.qP,Y.qF (λ _ _ z=>z) (Y.Rk (Y.zo 1) (Y.zo 0)) rfl⟩))) rfl⟩)))) (Y.zH))) (Y.zH)) (Y.zx (Y.qw 3 y8.nd (Y.qG (Y.qQ (Y.zl (Y.zq) (Y.zl (Y.zq) (Y.zl (Y.zq) (Y.zu)))) (zm (zm (zm zt)))) (Y.qf qu hr (Y.zl (Y.zo 0) (Y.zl (Y.zq) (Y.zu))) (zm (zm zt))))) (Y.zx (Y.qw 6 y8.nd (Y.qQ (Y.zl (Y.zq) (Y.zl (Y.zq) (Y.zl (Y.qG (Y.qQ (Y.zl (Y.zq) (Y.zl (Y.zq) (Y.zu))) (zm (zm zt))) (Y.Jh T.Z5 (Y.wD (yz hr) (Y.zo 3) (Y.zq)))) (Y.zl (Y.zq) (Y.zu))))) (zm (zm (zm (zm zt)))))) (Y.zx (Y.qw 7 y8.nd (Y.qQ (Y.zu) (zt))) (Y.zx (Y.ZZ PassesOwn.never rfl (Y.jX rfl T.jJ (Y.kY (Y.zq) (Y.zo 3))) (Y.qx 8 y8.nd) (Y.zx (Y.qw 9 y8.nd (Y.jS (Y.qI (N:=["_law_b", "_law_wide", "_law_ring", "_law_a"]) 1 [3,6,8] rfl (cps (by kernel_rfl)) (by kernel_rfl) (Y.jX rfl T.jJ (Y.kY (Y.zq) (Y.zo 3))) (λ _ _ _=>⟨Y.qx 0 (by decide +kernel:(["_law_b", "_law_wide", "_law_ring", "_law_a"]:List Str).Nodup),Y.qP,Y.qF (λ _ _ z=>z) (Y.qG (Y.zo 2) (Y.Zq (Y.XW T.Vg (Y.wW (Y.zo 3) (Y.zo 0))) (Y.zo 1))) rfl⟩)))) (Y.zx (Y.qw 10 y8.nd (Y.jS (Y.qI (N:=["_law_b", "_law_wide", "_law_a"]) 1 [3,8] rfl (cps (by kernel_rfl)) (by kernel_rfl) (Y.jX rfl T.jJ (Y.kY (Y.zq) (Y.zo 3))) (λ _ _ _=>⟨Y.qx 0 (by decide +kernel:(["_law_b", "_law_wide", "_law_a"]:List Str).Nodup),Y.qP,Y.qF (λ _ _ z=>z) (Y.Jh T.Z5 (Y.wD (km hr) (Y.ZS (Y.zo 2) (Y.zo 1)) (Y.ZS (Y.zo 0) (Y.zo 1)))) rfl⟩)))) (Y.zx (Y.jB (Y.jT (yz hr) (Y.zo 1) (Y.zq)) (Y.zx (Y.QF (Y.GW (Y.zo 7) (Y.jS (Y.qI (N:=["_law_b", "_law_near", "_law_far"]) 1 [9,10] rfl (cps (by kernel_rfl)) (by kernel_rfl) (Y.jX rfl T.jJ (Y.kY (Y.zq) (Y.zo 3))) (λ _ _ _=>⟨Y.qx 0 (by decide +kernel:(["_law_b", "_law_near", "_law_far"]:List Str).Nodup),Y.qP,Y.qF (λ _ _ z=>z) (Y.jA (Y.kY (Y.zq) (Y.qG (Y.zo 2) (Y.zo 0))) (Y.qG (Y.zo 1) (Y.zo 0))) rfl⟩))))) (Y.zH)) (Y.zx (Y.QF (Y.GW (Y.zo 7) (Y.jS (Y.qI (N:=["_law_b", "_law_near", "_law_far"]) 1 [9,10] rfl (cps (by kernel_rfl)) (by kernel_rfl) (Y.jX rfl T.jJ (Y.kY (Y.zq) (Y.zo 3))) (λ _ _ _=>⟨Y.qx 0 (by decide +kernel:(["_law_b", "_law_near", "_law_far"]:List Str).Nodup),Y.qP,Y.qF (λ _ _ z=>z) (Y.DA (Y.jT (yz hr) (Y.qG (Y.zo 2) (Y.zo 0)) (Y.zq)) (Y.zq) (Y.qG (Y.zo 1) (Y.zo 0))) rfl⟩))))) (Y.zH))) (Y.zH))))) (Y.zx (Y.qk (Y.zo 7)) (Y.zH)))))))))))))
noncomputable abbrev WV:Stmt:=top 40
theorem J9:qU ["_law_state_here", "_law_rows", "_law_order", "_law_kinds_here"] ["_law_state_here"] (qh WV):=⟨rfl,rfl,rfl,by decide +kernel,rfl,by decide +kernel,by decide +kernel⟩
noncomputable def W4 (Q7:Fn)(wM:Fn)(Yb:Fn):Ex:=zr (zT 1 (zD wM (zc (zD Yb (zc (zh 0) (zj))) (zj)))) (zr (zT 2 (zD Q7 (zc (zh 0) (zc (Jo (mQ qK (qa (zh 1)))) (zj))))) (zr (zT 3 (zp z8 (zR (zc (zi (.int 0)) (zj))) (zD Q7 (zc (zh 0) (zc (Jn (zi (.int 1)) (zp z8 (zi (.int 1)) (mQ jU (zN 1 [] (qj (zh 1)) (zI 0) (zi (.bl true)) (zK (mQ jU (qa (zh 0)))))))) (zj)))))) (zr (zZ (mQ j0 (zN 1 [1,2,3] (qj (zh 2)) (zI 0) (zi (.bl true)) (zK (mQ j0 (zN 1 [0,1,3] (qj (zh 2)) (zI 0) (zi (.bl true)) (zK (zp zG (zh 3) (zp zG (zp zG (zh 2) (zh 1)) (zh 0)))))))))) (zA))))
theorem OK {P:Program}{w:World}{K:Frag}{mg:Str->Option Value}{base:Heap}{k:Nat}(T:Bu mg){f:Addr}{fd:FuncData}(F:qH K "_law_known" "_law_known" WV f fd)(hm:mg "_law_known" = some (.ref f)){Q7:Fn}(gw:zE P w K mg base k "_law_mixed_row" 2 Q7){wM:Fn}(kS:zE P w K mg base k "_law_named" 1 wM){Yb:Fn}(Qr:zE P w K mg base k "_law_plain" 1 Yb):zE P w K mg base (k+1) "_law_known" 1 (z9 4 (W4 Q7 wM Yb)):=
 Y.jH F hm J9 (λ _ _ _ _ _ _ us hl=>(yX hl).elim λ a q=>by subst q;rfl) λ cdv A outer s H E hr=>Y.zx (Y.qw 1 J9.nd (Y.qf kS hr (Y.zl (Y.qf Qr hr (Y.zl (Y.zo 0) (Y.zu)) (zm zt)) (Y.zu)) (zm zt))) (Y.zx (Y.qw 2 J9.nd (Y.qf gw hr (Y.zl (Y.zo 0) (Y.zl (Y.N8 rfl T.gO T.jJ (Y.kf T.kj (Y.jZ (Y.zo 1)))) (Y.zu))) (zm (zm zt)))) (Y.zx (Y.qw 3 J9.nd (Y.jA (Y.qQ (Y.zl (Y.zq) (Y.zu)) (zm zt)) (Y.qf gw hr (Y.zl (Y.zo 0) (Y.zl (Y.N1 rfl T.gO T.jJ (Y.zq) (Y.jA (Y.zq) (Y.ZU rfl T.Zv (Y.yC (Y.qI (N:=["_law_row"]) 1 [] rfl (cps (by kernel_rfl)) (by kernel_rfl) (Y.jN (Y.zo 1)) (λ _ _ _=>⟨Y.qx 0 (by decide +kernel:(["_law_row"]:List Str).Nodup),Y.qP,Y.qF (λ _ _ z=>z) (Y.ZU rfl T.Zv (Y.jZ (Y.zo 0))) rfl⟩)))))) (Y.zu))) (zm (zm zt))))) (Y.zx (Y.qk (Y.gH T.yO (Y.yC (Y.qI (N:=["_law_a", "_law_rows", "_law_order", "_law_kinds_here"]) 1 [1,2,3] rfl (cps (by kernel_rfl)) (by kernel_rfl) (Y.jN (Y.zo 2)) (λ _ _ _=>⟨Y.qx 0 (by decide +kernel:(["_law_a", "_law_rows", "_law_order", "_law_kinds_here"]:List Str).Nodup),Y.qP,Y.qF (λ _ _ z=>z) (Y.gH T.yO (Y.yC (Y.qI (N:=["_law_b", "_law_a", "_law_rows", "_law_kinds_here"]) 1 [0,1,3] rfl (cps (by kernel_rfl)) (by kernel_rfl) (Y.jN (Y.zo 2)) (λ _ _ _=>⟨Y.qx 0 (by decide +kernel:(["_law_b", "_law_a", "_law_rows", "_law_kinds_here"]:List Str).Nodup),Y.qP,Y.qF (λ _ _ z=>z) (Y.qG (Y.zo 3) (Y.qG (Y.qG (Y.zo 2) (Y.zo 1)) (Y.zo 0))) rfl⟩)))) rfl⟩))))) (Y.zH))))
noncomputable abbrev Gf:Stmt:=top 41
theorem gA:qU ["_law_state_here", "_law_way", "_law_rows", "_law_many", "_law_a", "_law_b", "_law_far"] ["_law_state_here"] (qh Gf):=⟨rfl,rfl,rfl,by decide +kernel,rfl,by decide +kernel,by decide +kernel⟩
noncomputable def WT (Ja:Fn)(wM:Fn)(qE:Fn):Ex:=zr (zT 1 (zD qE (zc (zh 0) (zc (zi (.int 3)) (zj))))) (zr (qB (zp jl (zh 1) (zi (.int 0))) (zr (zZ (zD Ja (zc (zh 0) (zj)))) (zA)) (zA)) (zr (zT 2 (qg (zN 1 [] (qj (zD Ja (zc (zh 0) (zj)))) (zI 0) (zi (.bl true)) (zK (qg (qa (zh 0))))))) (zr (zT 3 (mQ qK (qa (zh 2)))) (zr (qB (yk (zp jl (zh 1) (zi (.int 1))) (zp Uo (zh 3) (zi (.int 1)))) (zr (zT 4 (zD qE (zc (zh 0) (zc (zh 3) (zj))))) (zr (zT 5 (zp yT (zp z8 (zp z8 (zh 4) (zi (.int 1))) (zD qE (zc (zh 0) (zc (zp yf (zh 3) (zi (.int 1))) (zj))))) (zh 3))) (zr (kh yL (zp z8 (zi (.int 1)) (zD qE (zc (zh 0) (zc (zp yf (zh 3) (zi (.int 1))) (zj))))) (zp zG (zh 2) (zh 4)) (zh 5)) (zr (kh yL (zp zG (zp zG (zh 2) (zh 4)) (zh 5)) (zp zG (zh 2) (zh 5)) (zh 4)) (zr (zZ (zD wM (zc (zh 2) (zj)))) (zA)))))) (zA)) (zr (zT 6 (zp zG (zR (zc (zi (.int 2)) (zc (zi (.int 3)) (zc (zi (.int 1)) (zj))))) (zD qE (zc (zh 0) (zc (zi (.int 3)) (zj)))))) (zr (kJ (ji (zh 3)) (zI 4) (zr (kJ (ji (zh 4)) (zI 5) (zr (kh yL (zp z8 (zi (.int 1)) (zD qE (zc (zh 0) (zc (zp Zx (zh 6) (zp yf (zh 3) (zi (.int 1)))) (zj))))) (zp zG (zh 2) (zh 4)) (zh 5)) (zr (kh yL (zp zG (zp zG (zh 2) (zh 4)) (zh 5)) (zp zG (zh 2) (zh 5)) (zh 4)) (zA)))) (zA))) (zr (zZ (zD wM (zc (zh 2) (zj)))) (zA))))))))
theorem OY {P:Program}{w:World}{K:Frag}{mg:Str->Option Value}{base:Heap}{k:Nat}(T:Bu mg){f:Addr}{fd:FuncData}(F:qH K "_law_table" "_law_table" Gf f fd)(hm:mg "_law_table" = some (.ref f)){Ja:Fn}(gE:zE P w K mg base k "_law_known" 1 Ja){wM:Fn}(kS:zE P w K mg base k "_law_named" 1 wM){qE:Fn}(qu:zE P w K mg base k "_law_take" 2 qE):zE P w K mg base (k+1) "_law_table" 1 (z9 7 (WT Ja wM qE)):=
 Y.jH F hm gA (λ _ _ _ _ _ _ us hl=>(yX hl).elim λ a q=>by subst q;rfl) λ cdv A outer s H E hr=>Y.zx (Y.qw 1 gA.nd (Y.qf qu hr (Y.zl (Y.zo 0) (Y.zl (Y.zq) (Y.zu))) (zm (zm zt)))) (Y.zx (Y.jB (Y.jT (yz hr) (Y.zo 1) (Y.zq)) (Y.zx (Y.qk (Y.qf gE hr (Y.zl (Y.zo 0) (Y.zu)) (zm zt))) (Y.zH)) (Y.zH)) (Y.zx (Y.NG 2 (N:=["_law_row"]) 1 [] gA.nd rfl (cps (by kernel_rfl)) (by kernel_rfl) (Y.jN (Y.qf gE hr (Y.zl (Y.zo 0) (Y.zu)) (zm zt))) (λ _ _ _=>⟨Y.qx 0 (by decide +kernel:(["_law_row"]:List Str).Nodup),Y.qP,Y.qF (λ _ _ z=>z) (Y.Y3 T.gO (Y.jZ (Y.zo 0))) rfl⟩)) (Y.zx (Y.qw 3 gA.nd (Y.kf T.kj (Y.jZ (Y.zo 2)))) (Y.zx (Y.jB (Y.QD (Y.Ri (Y.jT (yz hr) (Y.zo 1) (Y.zq)) (Y.S6 (Y.jT Cy (Y.zo 3) (Y.zq))))) (Y.zx (Y.qw 4 gA.nd (Y.qf qu hr (Y.zl (Y.zo 0) (Y.zl (Y.zo 3) (Y.zu))) (zm (zm zt)))) (Y.zx (Y.qw 5 gA.nd (Y.Zq (Y.jA (Y.jA (Y.zo 4) (Y.zq)) (Y.qf qu hr (Y.zl (Y.zo 0) (Y.zl (Y.wW (Y.zo 3) (Y.zq)) (Y.zu))) (zm (zm zt)))) (Y.zo 3))) (Y.zx (Y.QH (Y.jA (Y.zq) (Y.qf qu hr (Y.zl (Y.zo 0) (Y.zl (Y.wW (Y.zo 3) (Y.zq)) (Y.zu))) (zm (zm zt)))) (Y.qG (Y.zo 2) (Y.zo 4)) (Y.zo 5)) (Y.zx (Y.QH (Y.qG (Y.qG (Y.zo 2) (Y.zo 4)) (Y.zo 5)) (Y.qG (Y.zo 2) (Y.zo 5)) (Y.zo 4)) (Y.zx (Y.qk (Y.qf kS hr (Y.zl (Y.zo 2) (Y.zu)) (zm zt))) (Y.zH)))))) (Y.zH)) (Y.zx (Y.qw 6 gA.nd (Y.qG (Y.qQ (Y.zl (Y.zq) (Y.zl (Y.zq) (Y.zl (Y.zq) (Y.zu)))) (zm (zm (zm zt)))) (Y.qf qu hr (Y.zl (Y.zo 0) (Y.zl (Y.zq) (Y.zu))) (zm (zm zt))))) (Y.zx (Y.ZZ PassesOwn.never rfl (Y.jX rfl T.jJ (Y.zo 3)) (Y.qx 4 gA.nd) (Y.zx (Y.ZZ PassesOwn.never rfl (Y.jX rfl T.jJ (Y.zo 4)) (Y.qx 5 gA.nd) (Y.zx (Y.QH (Y.jA (Y.zq) (Y.qf qu hr (Y.zl (Y.zo 0) (Y.zl (Y.Xz rfl T.VI (Y.zo 6) (Y.wW (Y.zo 3) (Y.zq))) (Y.zu))) (zm (zm zt)))) (Y.qG (Y.zo 2) (Y.zo 4)) (Y.zo 5)) (Y.zx (Y.QH (Y.qG (Y.qG (Y.zo 2) (Y.zo 4)) (Y.zo 5)) (Y.qG (Y.zo 2) (Y.zo 5)) (Y.zo 4)) (Y.zH)))) (Y.zH))) (Y.zx (Y.qk (Y.qf kS hr (Y.zl (Y.zo 2) (Y.zu)) (zm zt))) (Y.zH))))))))
noncomputable abbrev Gg:Stmt:=top 42
theorem Oj:qU ["_law_table_here"] ["_law_table_here"] (qh Gg):=⟨rfl,rfl,rfl,by decide +kernel,rfl,by decide +kernel,by decide +kernel⟩
noncomputable def W0:Ex:=zr (zZ (zp z8 (zi (.int 1)) (mQ jU (zN 1 [] (qj (zh 0)) (zI 0) (zi (.bl true)) (zK (mQ jU (qa (zh 0)))))))) (zA)
theorem OO {P:Program}{w:World}{K:Frag}{mg:Str->Option Value}{base:Heap}{k:Nat}(T:Bu mg){f:Addr}{fd:FuncData}(F:qH K "_law_kinds" "_law_kinds" Gg f fd)(hm:mg "_law_kinds" = some (.ref f)):zE P w K mg base (k+1) "_law_kinds" 1 (z9 1 (W0)):=
 Y.jH F hm Oj (λ _ _ _ _ _ _ us hl=>(yX hl).elim λ a q=>by subst q;rfl) λ cdv A outer s H E hr=>Y.zx (Y.qk (Y.jA (Y.zq) (Y.ZU rfl T.Zv (Y.yC (Y.qI (N:=["_law_row"]) 1 [] rfl (cps (by kernel_rfl)) (by kernel_rfl) (Y.jN (Y.zo 0)) (λ _ _ _=>⟨Y.qx 0 (by decide +kernel:(["_law_row"]:List Str).Nodup),Y.qP,Y.qF (λ _ _ z=>z) (Y.ZU rfl T.Zv (Y.jZ (Y.zo 0))) rfl⟩)))))) (Y.zH)
noncomputable abbrev GK:Stmt:=top 44
theorem UY:qU ["_law_state_here", "_law_kinds_here", "_law_far"] ["_law_state_here", "_law_kinds_here"] (qh GK):=⟨rfl,rfl,rfl,by decide +kernel,rfl,by decide +kernel,by decide +kernel⟩
noncomputable def GG (qE:Fn):Ex:=zr (zT 2 (zp zG (zR (zc (zi (.int 3)) (zc (zi (.int 7)) (zc (zi (.int 2000)) (zc (zp QT (zi (.int 10)) (zi (.int 12))) (zj)))))) (zD qE (zc (zh 0) (zc (zi (.int 4)) (zj)))))) (zr (zZ (mQ j0 (zN 1 [0,2] (ji (zh 1)) (zI 0) (zi (.bl true)) (zK (zp yf (zD qE (zc (zh 1) (zc (zh 2) (zj)))) (zp k8 (zh 2) (zi (.int 2)))))))) (zA))
theorem NO {P:Program}{w:World}{K:Frag}{mg:Str->Option Value}{base:Heap}{k:Nat}(T:Bu mg){f:Addr}{fd:FuncData}(F:qH K "_law_mix" "_law_mix" GK f fd)(hm:mg "_law_mix" = some (.ref f)){qE:Fn}(qu:zE P w K mg base k "_law_take" 2 qE):zE P w K mg base (k+1) "_law_mix" 2 (z9 3 (GG qE)):=
 Y.jH F hm UY (λ _ _ _ _ _ _ us hl=>(yK hl).elim λ a h=>h.elim λ b q=>by subst q;rfl) λ cdv A outer s H E hr=>Y.zx (Y.qw 2 UY.nd (Y.qG (Y.qQ (Y.zl (Y.zq) (Y.zl (Y.zq) (Y.zl (Y.zq) (Y.zl (Y.X5 (Y.zq) (Y.zq)) (Y.zu))))) (zm (zm (zm (zm zt))))) (Y.qf qu hr (Y.zl (Y.zo 0) (Y.zl (Y.zq) (Y.zu))) (zm (zm zt))))) (Y.zx (Y.qk (Y.gH T.yO (Y.yC (Y.qI (N:=["_law_kind", "_law_state_here", "_law_far"]) 1 [0,2] rfl (cps (by kernel_rfl)) (by kernel_rfl) (Y.jX rfl T.jJ (Y.zo 1)) (λ _ _ _=>⟨Y.qx 0 (by decide +kernel:(["_law_kind", "_law_state_here", "_law_far"]:List Str).Nodup),Y.qP,Y.qF (λ _ _ z=>z) (Y.wW (Y.qf qu hr (Y.zl (Y.zo 1) (Y.zl (Y.zo 2) (Y.zu))) (zm (zm zt))) (Y.ZS (Y.zo 2) (Y.zq))) rfl⟩))))) (Y.zH))
noncomputable abbrev WQ:Stmt:=top 45
theorem Of:qU ["_law_table_here", "_law_mix_here"] ["_law_table_here", "_law_mix_here"] (qh WQ):=⟨rfl,rfl,rfl,by decide +kernel,rfl,by decide +kernel,by decide +kernel⟩
noncomputable def WD:Ex:=zr (zZ (qg (zN 1 [1] (qj (zh 0)) (zI 0) (zi (.bl true)) (zK (qg (zN 1 [1] (qj (zh 0)) (zI 0) (zi (.bl true)) (zK (zp zG (zh 1) (zh 0))))))))) (zA)
theorem Ou {P:Program}{w:World}{K:Frag}{mg:Str->Option Value}{base:Heap}{k:Nat}(T:Bu mg){f:Addr}{fd:FuncData}(F:qH K "_law_square" "_law_square" WQ f fd)(hm:mg "_law_square" = some (.ref f)):zE P w K mg base (k+1) "_law_square" 2 (z9 2 (WD)):=
 Y.jH F hm Of (λ _ _ _ _ _ _ us hl=>(yK hl).elim λ a h=>h.elim λ b q=>by subst q;rfl) λ cdv A outer s H E hr=>Y.zx (Y.qk (Y.jS (Y.qI (N:=["_law_row", "_law_mix_here"]) 1 [1] rfl (cps (by kernel_rfl)) (by kernel_rfl) (Y.jN (Y.zo 0)) (λ _ _ _=>⟨Y.qx 0 (by decide +kernel:(["_law_row", "_law_mix_here"]:List Str).Nodup),Y.qP,Y.qF (λ _ _ z=>z) (Y.jS (Y.qI (N:=["_law_kind", "_law_mix_here"]) 1 [1] rfl (cps (by kernel_rfl)) (by kernel_rfl) (Y.jN (Y.zo 0)) (λ _ _ _=>⟨Y.qx 0 (by decide +kernel:(["_law_kind", "_law_mix_here"]:List Str).Nodup),Y.qP,Y.qF (λ _ _ z=>z) (Y.qG (Y.zo 1) (Y.zo 0)) rfl⟩))) rfl⟩)))) (Y.zH)
noncomputable abbrev Wv:Stmt:=top 47
theorem J0:qU ["_law_state_here", "_law_mix_here", "_law_at", "_law_odd", "_law_some"] ["_law_state_here", "_law_mix_here"] (qh Wv):=⟨rfl,rfl,rfl,by decide +kernel,rfl,by decide +kernel,by decide +kernel⟩
noncomputable def Wt (qE:Fn):Ex:=zr (zT 2 (zD qE (zc (zh 0) (zc (mQ qK (qa (zh 1))) (zj))))) (zr (zT 3 (zp zG (zR (zc (zi (.bl true)) (zc (zi .non) (zc (zi (.str "1")) (zc (zz (zc (zi (.int 1)) (zj))) (zc (zR (zc (zi (.int 1)) (zj))) (zc (zi (.bl false)) (zj)))))))) (zD qE (zc (zh 0) (zc (zi (.int 6)) (zj)))))) (zr (zT 4 (zR (zc (zp z8 (zp z8 (yY (zh 1) (wg) (wc (zh 2))) (zz (zc (zh 3) (zj)))) (yY (zh 1) (wc (zp z8 (zh 2) (zi (.int 1)))) (wg))) (zc (zp z8 (zh 1) (zz (zc (zi (.int 0)) (zj)))) (zc (yY (zh 1) (wc (zi (.int 1))) (wg)) (zc (qg (qa (zh 1))) (zc (zi .non) (zc (ZE) (zc (zi (.int 0)) (zc (zp z8 (zz (zc (zh 1) (zj))) (yY (zh 1) (wc (zi (.int 1))) (wg))) (zj))))))))))) (zr (zZ (zp zG (zh 4) (zD qE (zc (zh 0) (zc (zi (.int 8)) (zj)))))) (zA))))
theorem P5 {P:Program}{w:World}{K:Frag}{mg:Str->Option Value}{base:Heap}{k:Nat}(T:Bu mg){f:Addr}{fd:FuncData}(F:qH K "_law_bent_mix" "_law_bent_mix" Wv f fd)(hm:mg "_law_bent_mix" = some (.ref f)){qE:Fn}(qu:zE P w K mg base k "_law_take" 2 qE):zE P w K mg base (k+1) "_law_bent_mix" 2 (z9 5 (Wt qE)):=
 Y.jH F hm J0 (λ _ _ _ _ _ _ us hl=>(yK hl).elim λ a h=>h.elim λ b q=>by subst q;rfl) λ cdv A outer s H E hr=>Y.zx (Y.qw 2 J0.nd (Y.qf qu hr (Y.zl (Y.zo 0) (Y.zl (Y.kf T.kj (Y.jZ (Y.zo 1))) (Y.zu))) (zm (zm zt)))) (Y.zx (Y.qw 3 J0.nd (Y.qG (Y.qQ (Y.zl (Y.yb) (Y.zl (Y.QI) (Y.zl (Y.Kh) (Y.zl (Y.zY (Y.zl (Y.zq) (Y.zu)) (zm zt)) (Y.zl (Y.qQ (Y.zl (Y.zq) (Y.zu)) (zm zt)) (Y.zl (Y.yb) (Y.zu))))))) (zm (zm (zm (zm (zm (zm zt))))))) (Y.qf qu hr (Y.zl (Y.zo 0) (Y.zl (Y.zq) (Y.zu))) (zm (zm zt))))) (Y.zx (Y.qw 4 J0.nd (Y.qQ (Y.zl (Y.jA (Y.jA (Y.Kg (Y.zo 1) (Y.Kr) (Y.Kb (Y.zo 2))) (Y.zY (Y.zl (Y.zo 3) (Y.zu)) (zm zt))) (Y.Kg (Y.zo 1) (Y.Kb (Y.jA (Y.zo 2) (Y.zq))) (Y.Kr))) (Y.zl (Y.jA (Y.zo 1) (Y.zY (Y.zl (Y.zq) (Y.zu)) (zm zt))) (Y.zl (Y.Kg (Y.zo 1) (Y.Kb (Y.zq)) (Y.Kr)) (Y.zl (Y.Y3 T.gO (Y.jZ (Y.zo 1))) (Y.zl (Y.QI) (Y.zl (Y.Rc) (Y.zl (Y.zq) (Y.zl (Y.jA (Y.zY (Y.zl (Y.zo 1) (Y.zu)) (zm zt)) (Y.Kg (Y.zo 1) (Y.Kb (Y.zq)) (Y.Kr))) (Y.zu))))))))) (zm (zm (zm (zm (zm (zm (zm (zm zt)))))))))) (Y.zx (Y.qk (Y.qG (Y.zo 4) (Y.qf qu hr (Y.zl (Y.zo 0) (Y.zl (Y.zq) (Y.zu))) (zm (zm zt))))) (Y.zH))))
noncomputable abbrev W8:Stmt:=top 48
theorem Oz:qU ["_law_thing"] ["_law_thing"] (qh W8):=⟨rfl,rfl,rfl,by decide +kernel,rfl,by decide +kernel,by decide +kernel⟩
noncomputable def Ga:Ex:=zr (zZ (yk (jW .int (zh 0)) (jd (jW .bl (zh 0))))) (zA)
theorem OM {P:Program}{w:World}{K:Frag}{mg:Str->Option Value}{base:Heap}{k:Nat}(T:Bu mg){f:Addr}{fd:FuncData}(F:qH K "_law_whole" "_law_whole" W8 f fd)(hm:mg "_law_whole" = some (.ref f)):zE P w K mg base (k+1) "_law_whole" 1 (z9 1 (Ga)):=
 Y.jH F hm Oz (λ _ _ _ _ _ _ us hl=>(yX hl).elim λ a q=>by subst q;rfl) λ cdv A outer s H E hr=>Y.zx (Y.qk (Y.ZV (Y.kD .int T.jm T.Z5 (by rfl) (Y.zo 0)) (Y.QJ (Y.Rl (Y.kD .bl T.jm T.Y9 (by rfl) (Y.zo 0)))))) (Y.zH)
noncomputable abbrev Wm:Stmt:=top 49
theorem Q5:qU ["_law_state_here", "_law_some"] ["_law_state_here"] (qh Wm):=⟨rfl,rfl,rfl,by decide +kernel,rfl,by decide +kernel,by decide +kernel⟩
noncomputable def Wj (qE:Fn):Ex:=zr (zT 1 (zR (zc (zi .non) (zc (zi (.int 0)) (zc (zz (zj)) (zc (zz (zc (zz (zj)) (zj))) (zc (zz (zc (zz (zc (zi (.int 1)) (zj))) (zj))) (zc (zR (zc (zR (zc (zi (.int 0)) (zj))) (zj))) (zc (zz (zc (zR (zc (zi (.int 0)) (zj))) (zj))) (zc (zz (zc (zz (zc (zi (.int 0)) (zj))) (zc (zz (zc (zi (.int 0)) (zj))) (zj)))) (zc (zz (zc (zz (zc (zi (.int 0)) (zc (zi (.int 1)) (zj)))) (zc (zz (zc (zi (.int 2)) (zc (zi (.int 0)) (zj)))) (zj)))) (zc (zz (zc (zz (zc (zi (.int 0)) (zc (zi (.int 2)) (zj)))) (zc (zz (zc (zi (.int 2)) (zc (zi (.int 0)) (zj)))) (zj)))) (zc (ZE) (zj)))))))))))))) (zr (zT 1 (zp z8 (zh 1) (zR (zc (zz (zc (zz (zc (zi (.int 0)) (zc (zi (.int 1)) (zj)))) (zc (zz (zc (zi (.int 1)) (zc (zi (.int 1)) (zj)))) (zj)))) (zc (zz (zc (zz (zc (zi (.bl true)) (zj))) (zj))) (zc (zz (zc (zz (zc (zi (.int 0)) (zc (zi (.bl true)) (zj)))) (zc (zz (zc (zi (.bl true)) (zc (zi (.int 0)) (zj)))) (zj)))) (zc (zz (zc (zz (zc (zi (.int 0)) (zc (jV QW (zi (.int 1))) (zj)))) (zc (zz (zc (jV QW (zi (.int 1))) (zc (zi (.int 0)) (zj)))) (zj)))) (zc (zz (zc (zz (zc (zi (.int 0)) (zc (zi (.int 1)) (zj)))) (zc (zz (zc (zi (.int 1)) (zc (zi (.int 0)) (zj)))) (zc (zz (zc (zi (.int 1)) (zc (zi (.int 1)) (zj)))) (zj))))) (zj))))))))) (zr (zT 1 (zp z8 (zh 1) (zR (zc (zz (zc (zz (zc (zi (.int 0)) (zc (zi (.int 1)) (zc (zi (.int 2)) (zj))))) (zc (zz (zc (zi (.int 1)) (zc (zi (.int 0)) (zc (zi (.int 2)) (zj))))) (zc (zz (zc (zi (.int 2)) (zc (zi (.int 2)) (zc (zi (.int 1)) (zj))))) (zj))))) (zc (zi (.str "0")) (zc (zz (zc (zz (zc (zi (.int 0)) (zc (zi (.int 3)) (zc (zi (.int 3)) (zj))))) (zc (zz (zc (zi (.int 3)) (zc (zi (.int 0)) (zc (zi (.int 1)) (zj))))) (zc (zz (zc (zi (.int 3)) (zc (zi (.int 1)) (zc (zi (.int 0)) (zj))))) (zj))))) (zc (zz (zc (zz (zc (zi (.int 0)) (zj))) (zc (zz (zj)) (zj)))) (zc (zz (zc (zi (.int 0)) (zj))) (zj))))))))) (zr (zT 1 (zp z8 (zh 1) (zR (zc (zz (zc (zz (zc (zi .non) (zj))) (zj))) (zc (zz (zc (zz (zc (zi (.int 0)) (zc (zi (.int 0)) (zj)))) (zc (zz (zc (zi (.int 0)) (zc (zi (.int 0)) (zj)))) (zj)))) (zj)))))) (zr (zZ (zp zG (zh 1) (zD qE (zc (zh 0) (zc (zi (.int 23)) (zj)))))) (zA)))))
theorem PV {P:Program}{w:World}{K:Frag}{mg:Str->Option Value}{base:Heap}{k:Nat}(T:Bu mg){f:Addr}{fd:FuncData}(F:qH K "_law_bad_table" "_law_bad_table" Wm f fd)(hm:mg "_law_bad_table" = some (.ref f)){qE:Fn}(qu:zE P w K mg base k "_law_take" 2 qE):zE P w K mg base (k+1) "_law_bad_table" 1 (z9 2 (Wj qE)):=
 Y.jH F hm Q5 (λ _ _ _ _ _ _ us hl=>(yX hl).elim λ a q=>by subst q;rfl) λ cdv A outer s H E hr=>Y.zx (Y.qw 1 Q5.nd (Y.qQ (Y.zl (Y.QI) (Y.zl (Y.zq) (Y.zl (Y.zY (Y.zu) (zt)) (Y.zl (Y.zY (Y.zl (Y.zY (Y.zu) (zt)) (Y.zu)) (zm zt)) (Y.zl (Y.zY (Y.zl (Y.zY (Y.zl (Y.zq) (Y.zu)) (zm zt)) (Y.zu)) (zm zt)) (Y.zl (Y.qQ (Y.zl (Y.qQ (Y.zl (Y.zq) (Y.zu)) (zm zt)) (Y.zu)) (zm zt)) (Y.zl (Y.zY (Y.zl (Y.qQ (Y.zl (Y.zq) (Y.zu)) (zm zt)) (Y.zu)) (zm zt)) (Y.zl (Y.zY (Y.zl (Y.zY (Y.zl (Y.zq) (Y.zu)) (zm zt)) (Y.zl (Y.zY (Y.zl (Y.zq) (Y.zu)) (zm zt)) (Y.zu))) (zm (zm zt))) (Y.zl (Y.zY (Y.zl (Y.zY (Y.zl (Y.zq) (Y.zl (Y.zq) (Y.zu))) (zm (zm zt))) (Y.zl (Y.zY (Y.zl (Y.zq) (Y.zl (Y.zq) (Y.zu))) (zm (zm zt))) (Y.zu))) (zm (zm zt))) (Y.zl (Y.zY (Y.zl (Y.zY (Y.zl (Y.zq) (Y.zl (Y.zq) (Y.zu))) (zm (zm zt))) (Y.zl (Y.zY (Y.zl (Y.zq) (Y.zl (Y.zq) (Y.zu))) (zm (zm zt))) (Y.zu))) (zm (zm zt))) (Y.zl (Y.Rc) (Y.zu)))))))))))) (zm (zm (zm (zm (zm (zm (zm (zm (zm (zm (zm zt))))))))))))) (Y.zx (Y.qw 1 Q5.nd (Y.jA (Y.zo 1) (Y.qQ (Y.zl (Y.zY (Y.zl (Y.zY (Y.zl (Y.zq) (Y.zl (Y.zq) (Y.zu))) (zm (zm zt))) (Y.zl (Y.zY (Y.zl (Y.zq) (Y.zl (Y.zq) (Y.zu))) (zm (zm zt))) (Y.zu))) (zm (zm zt))) (Y.zl (Y.zY (Y.zl (Y.zY (Y.zl (Y.yb) (Y.zu)) (zm zt)) (Y.zu)) (zm zt)) (Y.zl (Y.zY (Y.zl (Y.zY (Y.zl (Y.zq) (Y.zl (Y.yb) (Y.zu))) (zm (zm zt))) (Y.zl (Y.zY (Y.zl (Y.yb) (Y.zl (Y.zq) (Y.zu))) (zm (zm zt))) (Y.zu))) (zm (zm zt))) (Y.zl (Y.zY (Y.zl (Y.zY (Y.zl (Y.zq) (Y.zl (Y.Rf (Y.zq)) (Y.zu))) (zm (zm zt))) (Y.zl (Y.zY (Y.zl (Y.Rf (Y.zq)) (Y.zl (Y.zq) (Y.zu))) (zm (zm zt))) (Y.zu))) (zm (zm zt))) (Y.zl (Y.zY (Y.zl (Y.zY (Y.zl (Y.zq) (Y.zl (Y.zq) (Y.zu))) (zm (zm zt))) (Y.zl (Y.zY (Y.zl (Y.zq) (Y.zl (Y.zq) (Y.zu))) (zm (zm zt))) (Y.zl (Y.zY (Y.zl (Y.zq) (Y.zl (Y.zq) (Y.zu))) (zm (zm zt))) (Y.zu)))) (zm (zm (zm zt)))) (Y.zu)))))) (zm (zm (zm (zm (zm zt)))))))) (Y.zx (Y.qw 1 Q5.nd (Y.jA (Y.zo 1) (Y.qQ (Y.zl (Y.zY (Y.zl (Y.zY (Y.zl (Y.zq) (Y.zl (Y.zq) (Y.zl (Y.zq) (Y.zu)))) (zm (zm (zm zt)))) (Y.zl (Y.zY (Y.zl (Y.zq) (Y.zl (Y.zq) (Y.zl (Y.zq) (Y.zu)))) (zm (zm (zm zt)))) (Y.zl (Y.zY (Y.zl (Y.zq) (Y.zl (Y.zq) (Y.zl (Y.zq) (Y.zu)))) (zm (zm (zm zt)))) (Y.zu)))) (zm (zm (zm zt)))) (Y.zl (Y.Kh) (Y.zl (Y.zY (Y.zl (Y.zY (Y.zl (Y.zq) (Y.zl (Y.zq) (Y.zl (Y.zq) (Y.zu)))) (zm (zm (zm zt)))) (Y.zl (Y.zY (Y.zl (Y.zq) (Y.zl (Y.zq) (Y.zl (Y.zq) (Y.zu)))) (zm (zm (zm zt)))) (Y.zl (Y.zY (Y.zl (Y.zq) (Y.zl (Y.zq) (Y.zl (Y.zq) (Y.zu)))) (zm (zm (zm zt)))) (Y.zu)))) (zm (zm (zm zt)))) (Y.zl (Y.zY (Y.zl (Y.zY (Y.zl (Y.zq) (Y.zu)) (zm zt)) (Y.zl (Y.zY (Y.zu) (zt)) (Y.zu))) (zm (zm zt))) (Y.zl (Y.zY (Y.zl (Y.zq) (Y.zu)) (zm zt)) (Y.zu)))))) (zm (zm (zm (zm (zm zt)))))))) (Y.zx (Y.qw 1 Q5.nd (Y.jA (Y.zo 1) (Y.qQ (Y.zl (Y.zY (Y.zl (Y.zY (Y.zl (Y.QI) (Y.zu)) (zm zt)) (Y.zu)) (zm zt)) (Y.zl (Y.zY (Y.zl (Y.zY (Y.zl (Y.zq) (Y.zl (Y.zq) (Y.zu))) (zm (zm zt))) (Y.zl (Y.zY (Y.zl (Y.zq) (Y.zl (Y.zq) (Y.zu))) (zm (zm zt))) (Y.zu))) (zm (zm zt))) (Y.zu))) (zm (zm zt))))) (Y.zx (Y.qk (Y.qG (Y.zo 1) (Y.qf qu hr (Y.zl (Y.zo 0) (Y.zl (Y.zq) (Y.zu))) (zm (zm zt))))) (Y.zH)))))
noncomputable abbrev Gp:Stmt:=top 50
theorem OC:qU ["_law_found", "_law_due"] ["_law_found", "_law_due"] (qh Gp):=⟨rfl,rfl,rfl,by decide +kernel,rfl,by decide +kernel,by decide +kernel⟩
noncomputable def Zf (wN:Fn):Ex:=zr (qB (Pa .tup .lst (zh 1)) (zr (qB (kA (zp jg (jW .tup (zh 0)) (jW .tup (zh 1))) (zp jg (jW .lst (zh 0)) (jW .lst (zh 1)))) (zr (zZ (zi (.bl false))) (zA)) (zA)) (zr (qB (zp jg (mQ qK (qa (zh 0))) (mQ qK (qa (zh 1)))) (zr (zZ (zi (.bl false))) (zA)) (zA)) (zr (zZ (mQ ZA (zN 2 [] (KO (zh 0) (zh 1)) (wa 0 1) (zi (.bl true)) (zK (zD wN (zc (zh 0) (zc (zh 1) (zj)))))))) (zA)))) (zA)) (zr (zZ (yk (zp jl (zh 0) (zh 1)) (zp jl (jW .bl (zh 0)) (jW .bl (zh 1))))) (zA))
theorem Gy {P:Program}{w:World}{K:Frag}{mg:Str->Option Value}{base:Heap}{k:Nat}(T:Bu mg){f:Addr}{fd:FuncData}(F:qH K "_law_same" "_law_same" Gp f fd)(hm:mg "_law_same" = some (.ref f)){wN:Fn}(kT:zE P w K mg base k "_law_same" 2 wN):zE P w K mg base (k+1) "_law_same" 2 (z9 2 (Zf wN)):=
 Y.jH F hm OC (λ _ _ _ _ _ _ us hl=>(yK hl).elim λ a h=>h.elim λ b q=>by subst q;rfl) λ cdv A outer s H E hr=>Y.zx (Y.jB (Y.kC (Y.F9 .tup .lst T.jm T.yO T.gO (by rfl) (by rfl) (Y.zo 1))) (Y.zx (Y.jB (Y.QD (Y.Kl (Y.jT (km hr) (Y.kD .tup T.jm T.yO (by rfl) (Y.zo 0)) (Y.kD .tup T.jm T.yO (by rfl) (Y.zo 1))) (Y.Ki (Y.jT (km hr) (Y.kD .lst T.jm T.gO (by rfl) (Y.zo 0)) (Y.kD .lst T.jm T.gO (by rfl) (Y.zo 1)))))) (Y.zx (Y.qk (Y.yb)) (Y.zH)) (Y.zH)) (Y.zx (Y.jB (Y.jT (km hr) (Y.kf T.kj (Y.jZ (Y.zo 0))) (Y.kf T.kj (Y.jZ (Y.zo 1)))) (Y.zx (Y.qk (Y.yb)) (Y.zH)) (Y.zH)) (Y.zx (Y.qk (Y.Jv rfl T.Jz (Y.yC (Y.qI (N:=["_law_one", "_law_other"]) 2 [] rfl (cps (by kernel_rfl)) (by kernel_rfl) (Y.E1 rfl T.D3 (Y.zo 0) (Y.zo 1)) (λ _ _ _=>⟨Y.YY 0 1 rfl (by decide +kernel:(["_law_one", "_law_other"]:List Str).Nodup),Y.qP,Y.qF (λ _ _ z=>z) (Y.qf kT hr (Y.zl (Y.zo 0) (Y.zl (Y.zo 1) (Y.zu))) (zm (zm zt))) rfl⟩))))) (Y.zH)))) (Y.zH)) (Y.zx (Y.qk (Y.ZV (Y.wD (yz hr) (Y.zo 0) (Y.zo 1)) (Y.QJ (Y.wD (yz hr) (Y.kD .bl T.jm T.Y9 (by rfl) (Y.zo 0)) (Y.kD .bl T.jm T.Y9 (by rfl) (Y.zo 1)))))) (Y.zH))
noncomputable abbrev WB:Stmt:=top 51
theorem Zc:qU ["_law_call", "_law_error", "e", "_law_marks"] ["_law_call"] (qh WB):=⟨rfl,rfl,rfl,by decide +kernel,rfl,by decide +kernel,by decide +kernel⟩
noncomputable def Wq:Ex:=zr (zT 3 (zR (zc (qL (qZ zO "NoTable") (zh 1)) (zc (qL (qZ zO "NotSteady") (zh 1)) (zc (qL (qZ zO "NoPlace") (zh 1)) (zj)))))) (zr (zT 3 (zp z8 (zh 3) (zR (zc (qL (qZ zO "NoKind") (zh 1)) (zc (qL (qZ zO "NoMix") (zh 1)) (zc (qL (qZ zO "NoNumber") (zh 1)) (zj))))))) (zr (zT 3 (zp z8 (zh 3) (zR (zc (qL (qZ zO "NoLot") (zh 1)) (zc (qL (qZ zO "NoKinds") (zh 1)) (zc (qL (qZ zO "NoPaper") (zh 1)) (zj))))))) (zr (zT 3 (zp z8 (zh 3) (zR (zc (qL (qZ zO "NoParting") (zh 1)) (zc (qL (qZ zO "NoClosed") (zh 1)) (zc (qL (qZ zO "TooMany") (zh 1)) (zj))))))) (zr (zT 3 (zp z8 (zh 3) (zR (zc (qL (qZ zO "NoText") (zh 1)) (zc (qL (qZ zO "NoLine") (zh 1)) (zc (qL (qZ zO "NoDeed") (zh 1)) (zj))))))) (zr (qB (jd (qL (Ub zO) (zh 1))) (zr (zZ (zi .non)) (zA)) (zA)) (zr (zZ (qg (zN 1 [3] (ji (zi (.int 15))) (zI 0) (zp zG (zh 1) (zh 0)) (zK (zh 0))))) (zA)))))))
noncomputable def Q8 (PG:jy)(lam:Nat->Fn):Ex:=zr (zT 1 (zi .non)) (zr (JP 0 1 2 zO PG lam) Wq)
theorem P8 {P:Program}{w:World}{K:Frag}{mg:Str->Option Value}{base:Heap}{k:Nat}(T:Bu mg)(C:yG K zO "NearError")(R:yx.all (qV K zO)=true){f:Addr}{fd:FuncData}(F:qH K "_law_refused" "_law_refused" WB f fd)(hm:mg "_law_refused" = some (.ref f)){PG:jy}{lam:Nat->Fn}{kk:Nat}(hkk:kk<=k)(hL:∀k,Z3 P w K mg base kk (PG k) (lam k)):zE P w K mg base (k+1) "_law_refused" 1 (z9 4 (Q8 PG lam)):=
 Y.jH F hm Zc (λ _ _ _ _ _ _ us hl=>(yX hl).elim λ a q=>by subst q;rfl) λ cdv A outer s H E hr=>Y.zx (Y.qw 1 Zc.nd (Y.QI)) (Y.zx (Y.Dm hL (hr.mono hkk) rfl rfl C.top_at C.top_exc (by decide +kernel) C.under Zc.nd rfl rfl rfl rfl rfl rfl rfl) (Y.zx (Y.qw 3 Zc.nd (Y.qQ (Y.zl (Y.yR (C.isx (rw_NoTable R)) (yS (rw_NoTable R)) T.jm (Y.zo 1)) (Y.zl (Y.yR (C.isx (rw_NotSteady R)) (yS (rw_NotSteady R)) T.jm (Y.zo 1)) (Y.zl (Y.yR (C.isx (rw_NoPlace R)) (yS (rw_NoPlace R)) T.jm (Y.zo 1)) (Y.zu)))) (zm (zm (zm zt))))) (Y.zx (Y.qw 3 Zc.nd (Y.jA (Y.zo 3) (Y.qQ (Y.zl (Y.yR (C.isx (rw_NoKind R)) (yS (rw_NoKind R)) T.jm (Y.zo 1)) (Y.zl (Y.yR (C.isx (rw_NoMix R)) (yS (rw_NoMix R)) T.jm (Y.zo 1)) (Y.zl (Y.yR (C.isx (rw_NoNumber R)) (yS (rw_NoNumber R)) T.jm (Y.zo 1)) (Y.zu)))) (zm (zm (zm zt)))))) (Y.zx (Y.qw 3 Zc.nd (Y.jA (Y.zo 3) (Y.qQ (Y.zl (Y.yR (C.isx (rw_NoLot R)) (yS (rw_NoLot R)) T.jm (Y.zo 1)) (Y.zl (Y.yR (C.isx (rw_NoKinds R)) (yS (rw_NoKinds R)) T.jm (Y.zo 1)) (Y.zl (Y.yR (C.isx (rw_NoPaper R)) (yS (rw_NoPaper R)) T.jm (Y.zo 1)) (Y.zu)))) (zm (zm (zm zt)))))) (Y.zx (Y.qw 3 Zc.nd (Y.jA (Y.zo 3) (Y.qQ (Y.zl (Y.yR (C.isx (rw_NoParting R)) (yS (rw_NoParting R)) T.jm (Y.zo 1)) (Y.zl (Y.yR (C.isx (rw_NoClosed R)) (yS (rw_NoClosed R)) T.jm (Y.zo 1)) (Y.zl (Y.yR (C.isx (rw_TooMany R)) (yS (rw_TooMany R)) T.jm (Y.zo 1)) (Y.zu)))) (zm (zm (zm zt)))))) (Y.zx (Y.qw 3 Zc.nd (Y.jA (Y.zo 3) (Y.qQ (Y.zl (Y.yR (C.isx (rw_NoText R)) (yS (rw_NoText R)) T.jm (Y.zo 1)) (Y.zl (Y.yR (C.isx (rw_NoLine R)) (yS (rw_NoLine R)) T.jm (Y.zo 1)) (Y.zl (Y.yR (C.isx (rw_NoDeed R)) (yS (rw_NoDeed R)) T.jm (Y.zo 1)) (Y.zu)))) (zm (zm (zm zt)))))) (Y.zx (Y.jB (Y.wy (Y.kC (Y.Hs C.isv T.jm T.OI (by rfl) (Y.zo 1)))) (Y.zx (Y.qk (Y.QI)) (Y.zH)) (Y.zH)) (Y.zx (Y.qk (Y.jS (Y.qI (N:=["_law_k", "_law_marks"]) 1 [3] rfl (cps (by kernel_rfl)) (by kernel_rfl) (Y.jX rfl T.jJ (Y.zq)) (λ _ _ _=>⟨Y.qx 0 (by decide +kernel:(["_law_k", "_law_marks"]:List Str).Nodup),Y.Xr (Y.kC (Y.qG (Y.zo 1) (Y.zo 0))),Y.qF (λ _ _ z=>z) (Y.zo 0) rfl⟩)))) (Y.zH)))))))))
noncomputable abbrev WK:Stmt:=top 52
theorem P9:qU ["_law_table_here", "_law_thing"] ["_law_table_here", "_law_thing"] (qh WK):=⟨rfl,rfl,rfl,by decide +kernel,rfl,by decide +kernel,by decide +kernel⟩
noncomputable def WS (gD:Fn)(Yc:Fn):Ex:=zr (qB (kA (jd (jW .tup (zh 1))) (zp jg (mQ qK (qa (zh 1))) (zD gD (zc (zh 0) (zj))))) (zr (zZ (zi (.bl false))) (zA)) (zA)) (zr (zZ (zp jl (qg (zN 1 [] (qj (zh 1)) (zI 0) (jd (zD Yc (zc (zh 0) (zj)))) (zK (zh 0)))) (zR (zj)))) (zA))
theorem Ox {P:Program}{w:World}{K:Frag}{mg:Str->Option Value}{base:Heap}{k:Nat}(T:Bu mg){f:Addr}{fd:FuncData}(F:qH K "_law_is_mix" "_law_is_mix" WK f fd)(hm:mg "_law_is_mix" = some (.ref f)){gD:Fn}(gC:zE P w K mg base k "_law_kinds" 1 gD){Yc:Fn}(Ze:zE P w K mg base k "_law_whole" 1 Yc):zE P w K mg base (k+1) "_law_is_mix" 2 (z9 2 (WS gD Yc)):=
 Y.jH F hm P9 (λ _ _ _ _ _ _ us hl=>(yK hl).elim λ a h=>h.elim λ b q=>by subst q;rfl) λ cdv A outer s H E hr=>Y.zx (Y.jB (Y.QD (Y.Kl (Y.wy (Y.kC (Y.kD .tup T.jm T.yO (by rfl) (Y.zo 1)))) (Y.Ki (Y.jT (km hr) (Y.kf T.kj (Y.jZ (Y.zo 1))) (Y.qf gC hr (Y.zl (Y.zo 0) (Y.zu)) (zm zt)))))) (Y.zx (Y.qk (Y.yb)) (Y.zH)) (Y.zH)) (Y.zx (Y.qk (Y.wD (yz hr) (Y.jS (Y.qI (N:=["_law_one"]) 1 [] rfl (cps (by kernel_rfl)) (by kernel_rfl) (Y.jN (Y.zo 1)) (λ _ _ _=>⟨Y.qx 0 (by decide +kernel:(["_law_one"]:List Str).Nodup),Y.Xr (Y.wy (Y.kC (Y.qf Ze hr (Y.zl (Y.zo 0) (Y.zu)) (zm zt)))),Y.qF (λ _ _ z=>z) (Y.zo 0) rfl⟩))) (Y.qQ (Y.zu) (zt)))) (Y.zH))
noncomputable abbrev Z2:Stmt:=top 53
theorem Zr:qU ["_law_script", "_law_k", "_law_state_here", "_law_table_here", "_law_mix_here", "_law_due", "_law_bad", "_law_thing"] ["_law_script"] (qh Z2):=⟨rfl,rfl,rfl,by decide +kernel,rfl,by decide +kernel,by decide +kernel⟩
noncomputable abbrev jh:Str:=(("law" : Str)++(".<locals>." : Str))++("<lambda>" : Str)
noncomputable def QE (ja:Fn)(qX:Fn):Lm:=QS (V3 (V8 (Dy (VT (JI (JI ((yP Z2).getD 0 Z1) 6) 1)) 1)) 0) ["_law_table_here", "_law_thing"] [3,7] (zD qX (zc (zh 0) (zc (zh 1) (zj))))
noncomputable def QG (ja:Fn)(qX:Fn):Lm:=QS (V3 (V8 (VT (JI (JI ((yP Z2).getD 0 Z1) 6) 2))) 0) ["_law_bad", "_law_thing"] [6,7] (zD qX (zc (zh 0) (zc (zh 1) (zj))))
noncomputable def QC (ja:Fn)(qX:Fn):Lm:=QS (V3 (V8 (VT (JI ((yP Z2).getD 0 Z1) 7))) 0) ["_law_mix_here", "_law_bad"] [4,6] (zD ja (zc (zh 1) (zc (zh 0) (zj))))
noncomputable def yQ (ja:Fn)(qX:Fn):List Lm:=[QE ja qX,QG ja qX,QC ja qX]
theorem LY {P:Program}{w:World}{K:Frag}{mg:Str->Option Value}{k:Nat}(T:Bu mg){ja:Fn}(ZQ:∀base,jE P w K mg base k "is_mix" 2 ja){qX:Fn}(Zg:∀base,jE P w K mg base k "square" 2 qX):ZD P w K mg k jh (QE ja qX):=
 ⟨⟨rfl,rfl,rfl,GY (by kernel_rfl)⟩,λ _ _ _ _=>rfl,λ base cl a c A outer s H E hr xo=>yE (Y.Qx xo (Zg base) hr (Y.zl (Y.zo 0) (Y.zl (Y.zo 1) (Y.zu))) (zm (zm zt)))⟩
theorem Ic {P:Program}{w:World}{K:Frag}{mg:Str->Option Value}{k:Nat}(T:Bu mg){ja:Fn}(ZQ:∀base,jE P w K mg base k "is_mix" 2 ja){qX:Fn}(Zg:∀base,jE P w K mg base k "square" 2 qX):ZD P w K mg k jh (QG ja qX):=
 ⟨⟨rfl,rfl,rfl,GY (by kernel_rfl)⟩,λ _ _ _ _=>rfl,λ base cl a c A outer s H E hr xo=>yE (Y.Qx xo (Zg base) hr (Y.zl (Y.zo 0) (Y.zl (Y.zo 1) (Y.zu))) (zm (zm zt)))⟩
theorem Lx {P:Program}{w:World}{K:Frag}{mg:Str->Option Value}{k:Nat}(T:Bu mg){ja:Fn}(ZQ:∀base,jE P w K mg base k "is_mix" 2 ja){qX:Fn}(Zg:∀base,jE P w K mg base k "square" 2 qX):ZD P w K mg k jh (QC ja qX):=
 ⟨⟨rfl,rfl,rfl,GY (by kernel_rfl)⟩,λ _ _ _ _=>rfl,λ base cl a c A outer s H E hr xo=>yE (Y.Qx xo (ZQ base) hr (Y.zl (Y.zo 1) (Y.zl (Y.zo 0) (Y.zu))) (zm (zm zt)))⟩
theorem Dv {P:Program}{w:World}{K:Frag}{mg:Str->Option Value}{k:Nat}(T:Bu mg){ja:Fn}(ZQ:∀base,jE P w K mg base k "is_mix" 2 ja){qX:Fn}(Zg:∀base,jE P w K mg base k "square" 2 qX):∀t∈yQ ja qX,ZD P w K mg k jh t:=
 all_cons (LY T ZQ Zg) (all_cons (Ic T ZQ Zg) (all_cons (Lx T ZQ Zg) (all_nil)))
noncomputable def VL (JZ:Fn)(J2:Fn)(Q9:Fn)(gD:Fn)(Ym:Fn)(wN:Fn)(J8:Fn)(Yg:Fn)(Ye:Fn)(YN:Fn)(YU:Fn)(ja:Fn)(qX:Fn)(RF:Nat->List W->Hx->R W)(Pt:Addr)(PF:jy):Ex:=zr (kJ (ji (zp VO (zi (.int 1)) (zp Zx (mQ qK (qa (zh 0))) (zi (.int 6))))) (zI 1) (zr (zT 2 (zD Yg (zc (zh 0) (zc (zh 1) (zj))))) (zr (zT 3 (zD Ye (zc (zh 2) (zj)))) (zr (zT 4 (zD Ym (zc (zh 2) (zc (zD gD (zc (zh 3) (zj))) (zj))))) (zr (zT 5 (mQ j0 (zN 1 [] (qj (zD J8 (zc (zh 3) (zc (zh 4) (zj))))) (zI 0) (zi (.bl true)) (zK (mQ j0 (qa (zh 0))))))) (zr (qB (jd (zD wN (zc (zD YU (zc (zh 3) (zc (zh 4) (zj)))) (zc (zh 5) (zj))))) (zr (zZ (zi (.bl false))) (zA)) (zA)) (zr (zT 6 (zD JZ (zc (zh 2) (zj)))) (zr (kJ (qj (zp z8 (zR (zc (zh 4) (zc (zp wC (zz (zc (zi (.int 0)) (zj))) (mQ qK (qa (zh 4)))) (zc (zz (zj)) (zj))))) (qg (zN 1 [2,4] (ji (zi (.int 4))) (zI 0) (zi (.bl true)) (zK (zD J2 (zc (zh 1) (zc (zh 2) (zj))))))))) (zI 7) (zr (qB (jd (zD wN (zc (zD YN (zc (zh 3) (zc (zh 7) (zj)))) (zc (zD Q9 (zc (zh 3) (zc (zh 7) (zj)))) (zj))))) (zr (zZ (zi (.bl false))) (zA)) (zA)) (zr (qB (yk (jd (zD Q9 (zc (zh 3) (zc (zh 7) (zj))))) (zp jg (wz (yQ ja qX) PF (wB RF) (zc (kr 1 jh Pt 0 (PF 0)) (zj))) (zR (zc (zi (.int 4)) (zj))))) (zr (zZ (zi (.bl false))) (zA)) (zA)) (zr (qB (zp jg (wz (yQ ja qX) PF (wB RF) (zc (kr 1 jh Pt 1 (PF 1)) (zj))) (zR (zc (zi (.int 0)) (zj)))) (zr (zZ (zi (.bl false))) (zA)) (zA)) (zA))))) (zr (qB (zp jg (wz (yQ ja qX) PF (wB RF) (zc (kr 1 jh Pt 2 (PF 2)) (zj))) (zR (zc (zi (.int 0)) (zj)))) (zr (zZ (zi (.bl false))) (zA)) (zA)) (zA)))))))))) (zr (zZ (zi (.bl true))) (zA))
theorem o_law {P:Program}{w:World}{K:Frag}{mg:Str->Option Value}{base:Heap}{k:Nat}(T:Bu mg){f c Pt:Addr}{fd:FuncData}(F:qH K "law" "law" Z2 f fd)(hn:PySem.W.nsIn K mainGlobals "law" = some (some (.ref f)))(ht:PySem.W.tabIn K "law" = some (c,Pt))(hB:BMain mg base)(hC:PySem.W.CodeHd base c Pt){JZ:Fn}(ZJ:zE P w K mg base k "_law_bad_table" 1 JZ){J2:Fn}(gy:zE P w K mg base k "_law_bent_mix" 2 J2){Q9:Fn}(kR:zE P w K mg base k "_law_is_mix" 2 Q9){gD:Fn}(gC:zE P w K mg base k "_law_kinds" 1 gD){Ym:Fn}(ZM:zE P w K mg base k "_law_mix" 2 Ym){wN:Fn}(kT:zE P w K mg base k "_law_same" 2 wN){J8:Fn}(Zd:zE P w K mg base k "_law_square" 2 J8){Yg:Fn}(Qq:zE P w K mg base k "_law_state" 2 Yg){Ye:Fn}(ZK:zE P w K mg base k "_law_table" 1 Ye){YN:Fn}(Zi:zE P w K mg base k "is_mix" 2 YN){YU:Fn}(ZP:zE P w K mg base k "square" 2 YU){ja:Fn}{qX:Fn}{RF:Nat->List W->Hx->R W}{j kk:Nat}(hkk:kk<=k)(hls:∀t∈yQ ja qX,ZD P w K mg j jh t)(hR:∀base PG,(∀k,Z3 P w K mg base (j+1) (PG k) (yn (yQ ja qX) k))->zE P w K mg base kk "_law_refused" 1 (ZC PG RF)):yc P w K mg base we (k+1) f fd ["_law_script"] (spT K 1 λ PF=>z9 8 (VL JZ J2 Q9 gD Ym wN J8 Yg Ye YN YU ja qX RF Pt PF)):=
 Y.Bj (ls:=yQ ja qX) F hn ht Zr λ A outer s H E hr=>Y.zx (Y.ZZ PassesOwn.never rfl (Y.jX rfl T.jJ (Y.HE rfl T.Zv (Y.zq) (Y.Xz rfl T.VI (Y.kf T.kj (Y.jZ (Y.zo 0))) (Y.zq)))) (Y.qx 1 Zr.nd) (Y.zx (Y.qw 2 Zr.nd (Y.qf Qq hr (Y.zl (Y.zo 0) (Y.zl (Y.zo 1) (Y.zu))) (zm (zm zt)))) (Y.zx (Y.qw 3 Zr.nd (Y.qf ZK hr (Y.zl (Y.zo 2) (Y.zu)) (zm zt))) (Y.zx (Y.qw 4 Zr.nd (Y.qf ZM hr (Y.zl (Y.zo 2) (Y.zl (Y.qf gC hr (Y.zl (Y.zo 3) (Y.zu)) (zm zt)) (Y.zu))) (zm (zm zt)))) (Y.zx (Y.qw 5 Zr.nd (Y.gH T.yO (Y.yC (Y.qI (N:=["_law_row"]) 1 [] rfl (cps (by kernel_rfl)) (by kernel_rfl) (Y.jN (Y.qf Zd hr (Y.zl (Y.zo 3) (Y.zl (Y.zo 4) (Y.zu))) (zm (zm zt)))) (λ _ _ _=>⟨Y.qx 0 (by decide +kernel:(["_law_row"]:List Str).Nodup),Y.qP,Y.qF (λ _ _ z=>z) (Y.gH T.yO (Y.jZ (Y.zo 0))) rfl⟩))))) (Y.zx (Y.jB (Y.wy (Y.kC (Y.qf kT hr (Y.zl (Y.qf ZP hr (Y.zl (Y.zo 3) (Y.zl (Y.zo 4) (Y.zu))) (zm (zm zt))) (Y.zl (Y.zo 5) (Y.zu))) (zm (zm zt))))) (Y.zx (Y.qk (Y.yb)) (Y.zH)) (Y.zH)) (Y.zx (Y.qw 6 Zr.nd (Y.qf ZJ hr (Y.zl (Y.zo 2) (Y.zu)) (zm zt))) (Y.zx (Y.ZZ PassesOwn.never rfl (Y.jN (Y.jA (Y.qQ (Y.zl (Y.zo 4) (Y.zl (Y.HZ (Y.zY (Y.zl (Y.zq) (Y.zu)) (zm zt)) (Y.kf T.kj (Y.jZ (Y.zo 4)))) (Y.zl (Y.zY (Y.zu) (zt)) (Y.zu)))) (zm (zm (zm zt)))) (Y.jS (Y.qI (N:=["_law_turn", "_law_state_here", "_law_mix_here"]) 1 [2,4] rfl (cps (by kernel_rfl)) (by kernel_rfl) (Y.jX rfl T.jJ (Y.zq)) (λ _ _ _=>⟨Y.qx 0 (by decide +kernel:(["_law_turn", "_law_state_here", "_law_mix_here"]:List Str).Nodup),Y.qP,Y.qF (λ _ _ z=>z) (Y.qf gy hr (Y.zl (Y.zo 1) (Y.zl (Y.zo 2) (Y.zu))) (zm (zm zt))) rfl⟩))))) (Y.qx 7 Zr.nd) (Y.zx (Y.jB (Y.wy (Y.kC (Y.qf kT hr (Y.zl (Y.qf Zi hr (Y.zl (Y.zo 3) (Y.zl (Y.zo 7) (Y.zu))) (zm (zm zt))) (Y.zl (Y.qf kR hr (Y.zl (Y.zo 3) (Y.zl (Y.zo 7) (Y.zu))) (zm (zm zt))) (Y.zu))) (zm (zm zt))))) (Y.zx (Y.qk (Y.yb)) (Y.zH)) (Y.zH)) (Y.zx (Y.jB (Y.QD (Y.Ri (Y.wy (Y.kC (Y.qf kR hr (Y.zl (Y.zo 3) (Y.zl (Y.zo 7) (Y.zu))) (zm (zm zt))))) (Y.S6 (Y.jT (km hr) (Y.Xd (q:=jh) (λ _=>rfl) hls (all_cons (wU (by kernel_rfl)) (all_cons (wU (by kernel_rfl)) (all_cons (wU (by kernel_rfl)) (all_nil)))) hR Xi (hr.mono hkk) (Y.zl (Y.XI (ls:=yQ ja qX) (t:=QE ja qX) rfl (by kernel_rfl) hB rfl hC rfl rfl) (Y.zu)) (zm zt)) (Y.qQ (Y.zl (Y.zq) (Y.zu)) (zm zt)))))) (Y.zx (Y.qk (Y.yb)) (Y.zH)) (Y.zH)) (Y.zx (Y.jB (Y.jT (km hr) (Y.Xd (q:=jh) (λ _=>rfl) hls (all_cons (wU (by kernel_rfl)) (all_cons (wU (by kernel_rfl)) (all_cons (wU (by kernel_rfl)) (all_nil)))) hR Xi (hr.mono hkk) (Y.zl (Y.XI (ls:=yQ ja qX) (t:=QG ja qX) rfl (by kernel_rfl) hB rfl hC rfl rfl) (Y.zu)) (zm zt)) (Y.qQ (Y.zl (Y.zq) (Y.zu)) (zm zt))) (Y.zx (Y.qk (Y.yb)) (Y.zH)) (Y.zH)) (Y.zH))))) (Y.zx (Y.jB (Y.jT (km hr) (Y.Xd (q:=jh) (λ _=>rfl) hls (all_cons (wU (by kernel_rfl)) (all_cons (wU (by kernel_rfl)) (all_cons (wU (by kernel_rfl)) (all_nil)))) hR Xi (hr.mono hkk) (Y.zl (Y.XI (ls:=yQ ja qX) (t:=QC ja qX) rfl (by kernel_rfl) hB rfl hC rfl rfl) (Y.zu)) (zm zt)) (Y.qQ (Y.zl (Y.zq) (Y.zu)) (zm zt))) (Y.zx (Y.qk (Y.yb)) (Y.zH)) (Y.zH)) (Y.zH)))))))))) (Y.zx (Y.qk (Y.yb)) (Y.zH))
noncomputable def GF:Fn:=z9 1 (GP)
noncomputable def wO:Fn :=  GF
noncomputable def Td:Fn:=z9 5 (Yw)
noncomputable def Jf:Fn:=iso Td
noncomputable def Uv:Fn:=z9 2 (Wd)
noncomputable def Q4:Fn:=iso Uv
noncomputable def OB:Fn:=z9 1 (WL)
noncomputable def gz:Fn:=iso OB
noncomputable def Nd:Fn:=z9 2 (Gm)
noncomputable def Jc:Fn:=iso Nd
noncomputable def Oa:Fn:=z9 2 (J3)
noncomputable def Qp:Fn :=  Oa
noncomputable def Yl:Fn:=z9 4 (Yj)
noncomputable def qu:Fn:=ku Yl
noncomputable def UQ:Fn:=z9 2 (W6)
noncomputable def kS:Fn :=  UQ
noncomputable def OL:Fn:=z9 1 (W0)
noncomputable def gC:Fn:=iso OL
noncomputable def UG:Fn:=z9 2 (WD)
noncomputable def Zd:Fn :=  UG
noncomputable def UP:Fn:=z9 1 (Ga)
noncomputable def Ze:Fn :=  UP
noncomputable def Gu:Fn:=z9 2 (Yh wO)
noncomputable def yw:Fn :=  Gu
noncomputable def OW:Fn:=z9 3 (Yd Qp)
noncomputable def Qq:Fn :=  OW
noncomputable def UC:Fn:=z9 4 (Wl qu)
noncomputable def gw:Fn :=  UC
noncomputable def UO:Fn:=z9 11 (Ya qu)
noncomputable def Qr:Fn :=  UO
noncomputable def GA:Fn:=z9 3 (GG qu)
noncomputable def ZM:Fn:=ku GA
noncomputable def UD:Fn:=z9 5 (Wt qu)
noncomputable def gy:Fn :=  UD
noncomputable def Uz:Fn:=z9 2 (Wj qu)
noncomputable def ZJ:Fn :=  Uz
noncomputable def UK:Fn:=z9 2 (WS gC Ze)
noncomputable def kR:Fn :=  UK
noncomputable def Ux:Fn:=z9 3 (Wi yw)
noncomputable def ZI:Fn :=  Ux
noncomputable def J4:Fn:=yZ 2 (J7 gz yw)
noncomputable def Gh:Fn:=z9 4 (W4 gw kS Qr)
noncomputable def gE:Fn:=ku Gh
noncomputable def OG:Fn:=z9 2 (Zf (λ _ _=>.bad))
noncomputable def WW:Fn:=iso OG
noncomputable def OH:Fn:=z9 2 (Zf WW)
noncomputable def WU:Fn:=iso OH
noncomputable def Nc:Fn:=z9 2 (Zf WU)
noncomputable def kT:Fn:=iso Nc
noncomputable def U3:Fn:=z9 2 (GQ Jf ZI Q4)
noncomputable def wQ:Fn :=  U3
noncomputable def Ge:Fn:=z9 7 (WT gE kS qu)
noncomputable def ZK:Fn:=ku Ge
noncomputable def Q6:Fn:=yZ 1 (J1 wQ)
noncomputable def yH:Fn:=yZ 2 (YB gz yw Q6)
noncomputable def Zi:Fn:=(λ ws A=>(yH ws A).nox)
noncomputable def yr:Fn:=yZ 2 (Jk Jc J4 Q6)
noncomputable def ZP:Fn:=(λ ws A=>(yr ws A).nox)
structure Tx (K:Frag):Prop where
 GI:FD K "is_whole" GC
 GU:FD K "is_even" G1
 We:FD K "leaves_no_kind_out" Wc
 WM:FD K "count_kinds" WG
 Gn:FD K "put_names" Gv
 WA:FD K "_law_cell_at" Wx
 Gw:FD K "_law_take" Gr
 Gj:FD K "_law_named" W2
 W7:FD K "_law_kinds" Gg
 WR:FD K "_law_square" WQ
 Gk:FD K "_law_whole" W8
 Gz:FD K "is_wholes" Gq
 W3:FD K "_law_state" WY
 Wk:FD K "_law_mixed_row" Wn
 Gd:FD K "_law_plain" WX
 GD:FD K "_law_mix" GK
 Wu:FD K "_law_bent_mix" Wv
 Wo:FD K "_law_bad_table" Wm
 WJ:FD K "_law_is_mix" WK
 Wf:FD K "is_wholes_below" Wg
 WH:FD K "require_mix" WO
 W9:FD K "_law_known" WV
 Jb:FD K "_law_same" Gp
 GJ:FD K "is_table" GN
 WZ:FD K "_law_table" Gf
 Ww:FD K "require_table" Ws
 Xn:FD K "is_mix" Xf
 G8:FD K "square" Xa
 Wz:FD K "_law_refused" WB
 Vr:FD K "law" Z2
 Gb:PySem.W.nsIn K mainGlobals "ValueError" = some none
 VJ:PySem.W.nsIn K mainGlobals "abs" = some none
 Vz:PySem.W.nsIn K mainGlobals "all" = some none
 X2:PySem.W.nsIn K mainGlobals "bool" = some none
 Gx:PySem.W.nsIn K mainGlobals "enumerate" = some none
 VH:PySem.W.nsIn K mainGlobals "int" = some none
 W5:PySem.W.nsIn K mainGlobals "isinstance" = some none
 Vx:PySem.W.nsIn K mainGlobals "len" = some none
 XT:PySem.W.nsIn K mainGlobals "list" = some none
 Vy:PySem.W.nsIn K mainGlobals "max" = some none
 Vq:PySem.W.nsIn K mainGlobals "min" = some none
 Xx:PySem.W.nsIn K mainGlobals "range" = some none
 VB:PySem.W.nsIn K mainGlobals "set" = some none
 Xh:PySem.W.nsIn K mainGlobals "sorted" = some none
 Vl:PySem.W.nsIn K mainGlobals "sum" = some none
 XA:PySem.W.nsIn K mainGlobals "tuple" = some none
 VD:PySem.W.nsIn K mainGlobals "zip" = some none
 WI:CD K "MOST_PLACES" 8
 VM:zO.all (Kd K "NearError" ·)=true
 VE:X1 K "NearError" = true
 VR:yx.all (qV K zO)=true
section
variable {P:Program}{w:World}{K:Frag}{mg:Str->Option Value}{base h:Heap}
theorem bu (X:K.In h)(G:h.Ns mainGlobals mg)(T:Tx K):Bu mg:=⟨PySem.W.mg_none_of X G T.Gb,PySem.W.mg_none_of X G T.VJ,PySem.W.mg_none_of X G T.Vz,PySem.W.mg_none_of X G T.X2,PySem.W.mg_none_of X G T.Gx,PySem.W.mg_none_of X G T.VH,PySem.W.mg_none_of X G T.W5,PySem.W.mg_none_of X G T.Vx,PySem.W.mg_none_of X G T.XT,PySem.W.mg_none_of X G T.Vy,PySem.W.mg_none_of X G T.Vq,PySem.W.mg_none_of X G T.Xx,PySem.W.mg_none_of X G T.VB,PySem.W.mg_none_of X G T.Xh,PySem.W.mg_none_of X G T.Vl,PySem.W.mg_none_of X G T.XA,PySem.W.mg_none_of X G T.VD,(let ⟨t,e⟩:=T.WI;⟨t,PySem.W.mg_of X G e⟩)⟩
theorem cl (T:Tx K):yG K zO "NearError" := Dg T.VM T.VE
theorem NK (X:K.In h)(G:h.Ns mainGlobals mg)(T:Tx K):zE P w K mg base 1 "is_whole" 1 wO:=by
 obtain ⟨f,fd,F,a⟩:=T.GI
 exact (Nm (k:=0) (bu X G T) F (PySem.W.mg_of X G a))
theorem MJ (X:K.In h)(G:h.Ns mainGlobals mg)(T:Tx K):zE P w K mg base 1 "is_even" 1 Jf:=by
 obtain ⟨f,fd,F,a⟩:=T.GU
 exact (NW (k:=0) (bu X G T) F (PySem.W.mg_of X G a)).iso
theorem PD (X:K.In h)(G:h.Ns mainGlobals mg)(T:Tx K):zE P w K mg base 1 "leaves_no_kind_out" 1 Q4:=by
 obtain ⟨f,fd,F,a⟩:=T.We
 exact (Pz (k:=0) (bu X G T) F (PySem.W.mg_of X G a)).iso
theorem UJ (X:K.In h)(G:h.Ns mainGlobals mg)(T:Tx K):zE P w K mg base 1 "count_kinds" 1 gz:=by
 obtain ⟨f,fd,F,a⟩:=T.WM
 exact (Ow (k:=0) (bu X G T) F (PySem.W.mg_of X G a)).iso
theorem Nf (X:K.In h)(G:h.Ns mainGlobals mg)(T:Tx K):zE P w K mg base 1 "put_names" 2 Jc:=by
 obtain ⟨f,fd,F,a⟩:=T.Gn
 exact (Na (k:=0) (bu X G T) F (PySem.W.mg_of X G a)).iso
theorem Od (X:K.In h)(G:h.Ns mainGlobals mg)(T:Tx K):zE P w K mg base 1 "_law_cell_at" 2 Qp:=by
 obtain ⟨f,fd,F,a⟩:=T.WA
 exact (Ob (k:=0) (bu X G T) F (PySem.W.mg_of X G a))
theorem Qs (X:K.In h)(G:h.Ns mainGlobals mg)(T:Tx K):zE P w K mg base 1 "_law_take" 2 qu:=by
 obtain ⟨f,fd,F,a⟩:=T.Gw
 exact (O3 (k:=0) (bu X G T) F (PySem.W.mg_of X G a)).ku
theorem UN (X:K.In h)(G:h.Ns mainGlobals mg)(T:Tx K):zE P w K mg base 1 "_law_named" 1 kS:=by
 obtain ⟨f,fd,F,a⟩:=T.Gj
 exact (OT (k:=0) (bu X G T) F (PySem.W.mg_of X G a))
theorem UR (X:K.In h)(G:h.Ns mainGlobals mg)(T:Tx K):zE P w K mg base 1 "_law_kinds" 1 gC:=by
 obtain ⟨f,fd,F,a⟩:=T.W7
 exact (OO (k:=0) (bu X G T) F (PySem.W.mg_of X G a)).iso
theorem Oy (X:K.In h)(G:h.Ns mainGlobals mg)(T:Tx K):zE P w K mg base 1 "_law_square" 2 Zd:=by
 obtain ⟨f,fd,F,a⟩:=T.WR
 exact (Ou (k:=0) (bu X G T) F (PySem.W.mg_of X G a))
theorem O0 (X:K.In h)(G:h.Ns mainGlobals mg)(T:Tx K):zE P w K mg base 1 "_law_whole" 1 Ze:=by
 obtain ⟨f,fd,F,a⟩:=T.Gk
 exact (OM (k:=0) (bu X G T) F (PySem.W.mg_of X G a))
theorem Gs (X:K.In h)(G:h.Ns mainGlobals mg)(T:Tx K):zE P w K mg base 2 "is_wholes" 2 yw:=by
 obtain ⟨f,fd,F,a⟩:=T.Gz
 exact (Ni (k:=1) (bu X G T) F (PySem.W.mg_of X G a) ((NK X G T).mono (by decide)))
theorem O2 (X:K.In h)(G:h.Ns mainGlobals mg)(T:Tx K):zE P w K mg base 2 "_law_state" 2 Qq:=by
 obtain ⟨f,fd,F,a⟩:=T.W3
 exact (OE (k:=1) (bu X G T) F (PySem.W.mg_of X G a) ((Od X G T).mono (by decide)))
theorem PZ (X:K.In h)(G:h.Ns mainGlobals mg)(T:Tx K):zE P w K mg base 2 "_law_mixed_row" 2 gw:=by
 obtain ⟨f,fd,F,a⟩:=T.Wk
 exact (PU (k:=1) (bu X G T) F (PySem.W.mg_of X G a) ((Qs X G T).mono (by decide)))
theorem OV (X:K.In h)(G:h.Ns mainGlobals mg)(T:Tx K):zE P w K mg base 2 "_law_plain" 1 Qr:=by
 obtain ⟨f,fd,F,a⟩:=T.Gd
 exact (OQ (k:=1) (bu X G T) F (PySem.W.mg_of X G a) ((Qs X G T).mono (by decide)))
theorem Nw (X:K.In h)(G:h.Ns mainGlobals mg)(T:Tx K):zE P w K mg base 2 "_law_mix" 2 ZM:=by
 obtain ⟨f,fd,F,a⟩:=T.GD
 exact (NO (k:=1) (bu X G T) F (PySem.W.mg_of X G a) ((Qs X G T).mono (by decide))).ku
theorem P6 (X:K.In h)(G:h.Ns mainGlobals mg)(T:Tx K):zE P w K mg base 2 "_law_bent_mix" 2 gy:=by
 obtain ⟨f,fd,F,a⟩:=T.Wu
 exact (P5 (k:=1) (bu X G T) F (PySem.W.mg_of X G a) ((Qs X G T).mono (by decide)))
theorem PY (X:K.In h)(G:h.Ns mainGlobals mg)(T:Tx K):zE P w K mg base 2 "_law_bad_table" 1 ZJ:=by
 obtain ⟨f,fd,F,a⟩:=T.Wo
 exact (PV (k:=1) (bu X G T) F (PySem.W.mg_of X G a) ((Qs X G T).mono (by decide)))
theorem Ov (X:K.In h)(G:h.Ns mainGlobals mg)(T:Tx K):zE P w K mg base 2 "_law_is_mix" 2 kR:=by
 obtain ⟨f,fd,F,a⟩:=T.WJ
 exact (Ox (k:=1) (bu X G T) F (PySem.W.mg_of X G a) ((UR X G T).mono (by decide)) ((O0 X G T).mono (by decide)))
theorem PM (X:K.In h)(G:h.Ns mainGlobals mg)(T:Tx K):zE P w K mg base 3 "is_wholes_below" 3 ZI:=by
 obtain ⟨f,fd,F,a⟩:=T.Wf
 exact (PN (k:=2) (bu X G T) F (PySem.W.mg_of X G a) ((Gs X G T).mono (by decide)))
theorem Oi (X:K.In h)(G:h.Ns mainGlobals mg)(T:Tx K):jE P w K mg base 3 "require_mix" 2 J4:=by
 obtain ⟨f,fd,F,a⟩:=T.WH
 exact Ot (k:=2) (bu X G T) (cl T) F (PySem.W.mg_of X G a) ((UJ X G T).mono (by decide)) ((Gs X G T).mono (by decide))
theorem OU (X:K.In h)(G:h.Ns mainGlobals mg)(T:Tx K):zE P w K mg base 3 "_law_known" 1 gE:=by
 obtain ⟨f,fd,F,a⟩:=T.W9
 exact (OK (k:=2) (bu X G T) F (PySem.W.mg_of X G a) ((PZ X G T).mono (by decide)) ((UN X G T).mono (by decide)) ((OV X G T).mono (by decide))).ku
theorem OZ (X:K.In h)(G:h.Ns mainGlobals mg)(T:Tx K):zE P w K mg base 1 "_law_same" 2 WW:=by
 obtain ⟨f,fd,F,a⟩:=T.Jb
 exact (Gy (k:=0) (bu X G T) F (PySem.W.mg_of X G a) (Cj (ps:=["_law_found", "_law_due"]) F (PySem.W.mg_of X G a) (λ _ _ _ _ _ _ us hl=>(yK hl).elim λ a h=>h.elim λ b q=>by subst q;rfl))).iso
theorem OS (X:K.In h)(G:h.Ns mainGlobals mg)(T:Tx K):zE P w K mg base 2 "_law_same" 2 WU:=by
 obtain ⟨f,fd,F,a⟩:=T.Jb
 exact (Gy (k:=1) (bu X G T) F (PySem.W.mg_of X G a) (OZ X G T)).iso
theorem Nb (X:K.In h)(G:h.Ns mainGlobals mg)(T:Tx K):zE P w K mg base 3 "_law_same" 2 kT:=by
 obtain ⟨f,fd,F,a⟩:=T.Jb
 exact (Gy (k:=2) (bu X G T) F (PySem.W.mg_of X G a) (OS X G T)).iso
theorem Nk (X:K.In h)(G:h.Ns mainGlobals mg)(T:Tx K):zE P w K mg base 4 "is_table" 1 wQ:=by
 obtain ⟨f,fd,F,a⟩:=T.GJ
 exact (NJ (k:=3) (bu X G T) F (PySem.W.mg_of X G a) ((MJ X G T).mono (by decide)) ((PM X G T).mono (by decide)) ((PD X G T).mono (by decide)))
theorem OP (X:K.In h)(G:h.Ns mainGlobals mg)(T:Tx K):zE P w K mg base 4 "_law_table" 1 ZK:=by
 obtain ⟨f,fd,F,a⟩:=T.WZ
 exact (OY (k:=3) (bu X G T) F (PySem.W.mg_of X G a) ((OU X G T).mono (by decide)) ((UN X G T).mono (by decide)) ((Qs X G T).mono (by decide))).ku
theorem Uy (X:K.In h)(G:h.Ns mainGlobals mg)(T:Tx K):jE P w K mg base 5 "require_table" 1 Q6:=by
 obtain ⟨f,fd,F,a⟩:=T.Ww
 exact P1 (k:=4) (bu X G T) (cl T) F (PySem.W.mg_of X G a) ((Nk X G T).mono (by decide))
theorem Ts (X:K.In h)(G:h.Ns mainGlobals mg)(T:Tx K):jE P w K mg base 6 "is_mix" 2 yH:=by
 obtain ⟨f,fd,F,a⟩:=T.Xn
 exact Lh (k:=5) (bu X G T) (cl T) F (PySem.W.mg_of X G a) ((UJ X G T).mono (by decide)) ((Gs X G T).mono (by decide)) ((Uy X G T).mono (by decide))
theorem LJ (X:K.In h)(G:h.Ns mainGlobals mg)(T:Tx K):zE P w K mg base 6 "is_mix" 2 Zi:=(Ts X G T).m
theorem Tt (X:K.In h)(G:h.Ns mainGlobals mg)(T:Tx K):jE P w K mg base 6 "square" 2 yr:=by
 obtain ⟨f,fd,F,a⟩:=T.G8
 exact LG (k:=5) (bu X G T) (cl T) F (PySem.W.mg_of X G a) ((Nf X G T).mono (by decide)) ((Oi X G T).mono (by decide)) ((Uy X G T).mono (by decide))
theorem M5 (X:K.In h)(G:h.Ns mainGlobals mg)(T:Tx K):zE P w K mg base 6 "square" 2 ZP:=(Tt X G T).m
end
end G
namespace Mi
open PySem L2
section
variable {ws:List W}{m me:Ev}{ρ:En}{A A1:Hx}{cap:List Nat}
theorem Zl (h:m ρ A=.ok (.tup ws) A1):qj m ρ A=.ok ⟨λ A i=>(zU (.tup ws) A).map λ ws=>ws[i]?,ws.length⟩ A1:=by
 unfold qj KC
 rw [h,zJ]
 rfl
theorem Xc (h:m ρ A=.ok (.tup ws) A)(hl:ws.length<=zW){g:W->W}(he:∀w∈ws,me (some w::cap.map λ i=>(ρ[i]?).join) A=.ok (g w) A):
  zN 1 cap (qj m) (zI 0) (zi (.bl true)) (zK me) ρ A=.ok (ws.map g) A:=by
 have e:=Qt (cap:=cap) (me:=me) (ρ:=ρ) (A:=A) (N:=ws.length) (item:=λ i=>ws.getD i .non) (g:=λ i=>g (ws.getD i .non)) (Zl h) rfl hl
  (λ i hi=>by show some ws[i]? =_;rw [List.getElem?_eq_getElem hi,List.getD_eq_getElem?_getD,List.getElem?_eq_getElem hi];rfl)
  (by show some ws[ws.length]? =_;rw [List.getElem?_eq_none (Nat.le_refl _)])
  (λ i hi=>by
   have:ws.getD i .non=ws[i]:=by rw [List.getD_eq_getElem?_getD,List.getElem?_eq_getElem hi];rfl
   rw [this];exact he _ (List.getElem_mem hi))
 rw [e]
 congr 1
 apply List.ext_getElem
 ·simp
 ·intro i h1 h2
  have hi:i<ws.length:=by simpa using h2
  simp [List.getD_eq_getElem?_getD,List.getElem?_eq_getElem hi]
theorem G3 {α:Type}(p:α->Bool):∀l:List α,wA (l.map λ x=>W.bl (p x))=some (l.map p)
 | []=>rfl
 | x::l=>by
  show (match JJ (.bl (p x)),wA (l.map λ x=>W.bl (p x)) with | some k,some ks=>some (k::ks) | _,_=>none)=_
  rw [G3 p l];rfl
theorem HM {α:Type}{p:α->Bool}{l:List α}(h:∀x∈l,p x=true):ZA (l.map λ x=>W.bl (p x)) A=.ok (.bl true) A:=by
 show gU (λ ks=>ks.all id) _ A=_
 unfold gU
 rw [G3]
 dsimp only
 have:(l.map p).all id=true:=by
  rw [List.all_map]
  exact List.all_eq_true.mpr λ x hx=>h x hx
 rw [this]
theorem XG {α:Type}{f:α->W}(h:∀x,(f x).nr=true):∀l:List α,jt (l.map f)=true
 | []=>rfl
 | x::l=>by
  show ((f x).nr&&jt (l.map f))=true
  rw [h x,XG h l];rfl
theorem Qi (i j:Int)(A:Hx):jl (.int i) (.int j) A=.ok (.bl (decide (i=j))) A:=by
 show R.ok (W.bl (PyData.eqv (.int i) (.int j))) A=_
 simp [PyData.eqv]
 rfl
theorem Uc (i j:Int)(A:Hx):jg (.int i) (.int j) A=.ok (.bl (!decide (i=j))) A:=by
 show R.ok (W.bl (!PyData.eqv (.int i) (.int j))) A=_
 simp [PyData.eqv]
 rfl
theorem Bc (i j:Bool)(A:Hx):jg (.bl i) (.bl j) A=.ok (.bl (!(i==j))) A:=by
 cases i<;>cases j<;>rfl
end
noncomputable def zy (r:List Int):W:=.tup (r.map W.int)
noncomputable def zC (t:List (List Int)):W:=.tup (t.map zy)
theorem YV (r:List Int):(zy r).nr=true:=by
 show jt (r.map W.int)=true
 exact XG (λ _=>rfl) r
theorem gL (t:List (List Int)):(zC t).nr=true:=by
 show jt (t.map zy)=true
 exact XG YV t
end Mi
namespace G
open PySem L2 Mi
end G
namespace Mi
open PySem L2
theorem Yv {m:Ev}{ρ:En}{A A1:Hx}{ws:List W}(h:m ρ A=.ok (.tup ws) A1):QN m ρ A=.ok (wd (.tup ws) ws.length) A1:=by
 unfold QN
 rw [h,zJ]
 rfl
theorem RJ {A:Hx}{ws:List W}{i:Nat}{w:W}(h:ws[i]? =some w):(wd (.tup ws) ws.length).at_ A i=some (some (.tup [.int i,w])):=by
 show atEnd ws i _=_
 unfold atEnd
 rw [h]
theorem RC {A:Hx}{ws:List W}:(wd (.tup ws) ws.length).at_ A ws.length=some none:=by
 show atEnd ws _ _=_
 unfold atEnd
 rw [List.getElem?_eq_none (Nat.le_refl _)]
 exact if_pos rfl
noncomputable def at2 (t:List (List Int))(a b:Nat):Int:=(t.getD a []).getD b 0
structure qD (t:List (List Int)):Prop where
 n1:1<=t.length
 n8:t.length<=8
 sq:∀r∈t,r.length=t.length
 lo:∀r∈t,∀v∈r,0<=v/\v<(t.length:Int)
 dg:∀a b,a<t.length->b<t.length->(at2 t a b=0↔a=b)
 sy:∀a b,a<t.length->b<t.length->at2 t a b=at2 t b a
 fu:∀k:Nat,(∃v∈t.flatten,(k:Int)<v)->(k:Int)∈t.flatten
section
variable {t:List (List Int)}{A:Hx}{a b:Nat}
theorem XX (ha:a<t.length):(t.map zy)[a]? =some (zy (t.getD a [])):=by
 rw [List.getElem?_map,List.getD_eq_getElem?_getD,List.getElem?_eq_getElem ha];rfl
theorem kW (ha:a<t.length):t.getD a []∈t:=by
 rw [List.getD_eq_getElem?_getD,List.getElem?_eq_getElem ha];exact List.getElem_mem ha
theorem Rn (ha:a<t.length):zG (zC t) (.int a) A=.ok (zy (t.getD a [])) A:=by
 unfold zG
 show (match kx (t.map zy) (a:Int) with | some w=>R.ok w A | none=>R.bad)=_
 rw [YX (XX ha)]
theorem int_at {r:List Int}(hb:b<r.length):(r.map W.int)[b]? =some (.int (r.getD b 0)):=by
 rw [List.getElem?_map,List.getD_eq_getElem?_getD,List.getElem?_eq_getElem hb];rfl
theorem Kf {r:List Int}(hb:b<r.length):zG (zy r) (.int b) A=.ok (.int (r.getD b 0)) A:=by
 unfold zG
 show (match kx (r.map W.int) (b:Int) with | some w=>R.ok w A | none=>R.bad)=_
 rw [YX (v:=.int (r.getD b 0)) (by rw [List.getElem?_map,List.getD_eq_getElem?_getD,List.getElem?_eq_getElem hb];rfl)]
end
end Mi
namespace G
open PySem L2 Mi
end G
namespace Mi
open PySem L2
section
variable {t:List (List Int)}{A:Hx}
theorem Ih {j:jq}{me:Ev}{ws:List W}{c:Option W}(hj:∀i,i<ws.length->j.at_ A i=some (some (ws.getD i .non)))(hend:j.at_ A ws.length=some none)(he:∀w,me [c,some w] A=.ok w A):
  ∀(f i:Nat) (x:Option W) (acc:List W),i+f=ws.length->acc.length+f<=zW->∃y,jk j (zI 1) (zi (.bl true)) (zK me) f i [c,x] acc A=.ok ([c,y],acc++ws.drop i) A:=by
 intro f
 induction f with
 | zero=>
  intro i x acc h hl
  have:i=ws.length:=by omega
  subst this
  refine ⟨x,?_⟩
  unfold jk
  rw [hend,List.drop_length,List.append_nil]
 | succ f ih=>
  intro i x acc h hl
  have hi:i<ws.length:=by omega
  have ew:ws.getD i .non=ws[i]:=by rw [List.getD_eq_getElem?_getD,List.getElem?_eq_getElem hi];rfl
  obtain ⟨y,e⟩:=ih (i+1) (some ws[i]) (acc++[ws[i]]) (by omega) (by rw [List.length_append,List.length_singleton];omega)
  refine ⟨y,?_⟩
  rw [jk,hj i hi,ew]
  dsimp only [zI,List.set,zi]
  rw [zJ]
  dsimp only
  have ee:zK me [c,some ws[i]] acc A=.ok ([c,some ws[i]],acc++[ws[i]]) A:=by
   unfold zK
   rw [he,zJ,if_pos (by omega)]
  rw [ee,zJ]
  rw [e,List.append_assoc]
  congr 3
  rw [List.singleton_append,<- List.drop_eq_getElem_cons hi]
theorem Mb {j:jq}(hj:∀i,i<t.length->j.at_ A i=some (some (zy (t.getD i []))))(hend:j.at_ A t.length=some none):
  ∀(f i:Nat) (x y:Option W) (acc:List W),i+f=t.length->acc.length+(t.drop i).flatten.length<=zW->
   ∃ρ,jk j (zI 0) (zi (.bl true)) (QO (qj (zh 0)) (zI 1) (zi (.bl true)) (zK (zh 1))) f i [x,y] acc A=.ok (ρ,acc++(t.drop i).flatten.map W.int) A:=by
 intro f
 induction f with
 | zero=>
  intro i x y acc h hl
  have:i=t.length:=by omega
  subst this
  refine ⟨[x,y],?_⟩
  unfold jk
  rw [hend,List.drop_length]
  simp
 | succ f ih=>
  intro i x y acc h hl
  have hi:i<t.length:=by omega
  have er:t.getD i []=t[i]:=by rw [List.getD_eq_getElem?_getD,List.getElem?_eq_getElem hi];rfl
  have ed:t.drop i=t[i]::t.drop (i+1):=List.drop_eq_getElem_cons hi
  rw [ed,List.flatten_cons,List.length_append] at hl
  obtain ⟨z,e1⟩:=Ih (A:=A) (j:=⟨λ A i_1=>(zU (zy t[i]) A).map λ ws=>ws[i_1]?,(t[i].map W.int).length⟩) (me:=zh 1) (ws:=t[i].map W.int) (c:=some (zy t[i]))
   (λ k hk=>by
    show some (t[i].map W.int)[k]? =_
    rw [List.getD_eq_getElem?_getD,List.getElem?_eq_getElem hk];rfl)
   (by show some (t[i].map W.int)[(t[i].map W.int).length]? =_;rw [List.getElem?_eq_none (Nat.le_refl _)])
   (λ w=>zw rfl) (t[i].map W.int).length 0 y acc (by omega) (by rw [List.length_map];omega)
  rw [List.drop_zero] at e1
  obtain ⟨ρ,e2⟩:=ih (i+1) (some (zy t[i])) z (acc++t[i].map W.int) (by omega) (by rw [List.length_append,List.length_map];omega)
  refine ⟨ρ,?_⟩
  rw [jk,hj i hi,er]
  dsimp only [zI,List.set,zi]
  rw [zJ]
  dsimp only
  have ee:QO (qj (zh 0)) (zI 1) (zi (.bl true)) (zK (zh 1)) [some (zy t[i]),y] acc A=.ok ([some (zy t[i]),z],acc++t[i].map W.int) A:=by
   unfold QO
   rw [Zl (ws:=t[i].map W.int) (A1:=A) (zw (i:=0) rfl),zJ]
   exact e1
  rw [ee,zJ]
  rw [e2,ed,List.flatten_cons,List.map_append,List.append_assoc]
theorem IU {m:Ev}{ρ:En}(h:m ρ A=.ok (zC t) A)(hl:t.flatten.length<=zW):
  zN 2 [] (qj m) (zI 0) (zi (.bl true)) (QO (qj (zh 0)) (zI 1) (zi (.bl true)) (zK (zh 1))) ρ A=.ok (t.flatten.map W.int) A:=by
 have hlen:(t.map zy).length=t.length:=List.length_map ..
 obtain ⟨ρ',e⟩:=Mb (t:=t) (A:=A) (j:=⟨λ A i=>(zU (zC t) A).map λ ws=>ws[i]?,(t.map zy).length⟩) (λ i hi=>by show some (t.map zy)[i]? =_;rw [XX hi])
  (by show some (t.map zy)[t.length]? =_;rw [List.getElem?_eq_none (by omega)]) t.length 0 none none [] (by omega) (by simpa using hl)
 unfold zN
 rw [Zl (ws:=t.map zy) h,zJ]
 show R.bind (R.nox (jk ⟨λ A i=>(zU (zC t) A).map λ ws=>ws[i]?,(t.map zy).length⟩ _ _ _ (t.map zy).length 0 [none,none] [] A)) _=_
 rw [hlen] at e ⊢
 rw [e]
 simp
 rfl
end
theorem Yk:∀l:List Int,intsOf (l.map W.int)=some l
 | []=>rfl
 | i::l=>by
  show (match intsOf (l.map W.int) with | some is=>some (i::is) | none=>none)=_
  rw [Yk l]
theorem G4:∀(l:List Int) (m:Int),jF l m=m∨jF l m∈l
 | [],_=>.inl rfl
 | i::l,m=>by
  show jF l (if i > m then i else m)=m∨jF l (if i > m then i else m)∈i::l
  rcases G4 l (if i > m then i else m) with e | e
  ·by_cases h:i > m
   ·rw [if_pos h] at e ⊢;exact .inr (by rw [e];exact List.mem_cons_self ..)
   ·rw [if_neg h] at e ⊢;exact .inl e
  ·exact .inr (List.mem_cons_of_mem _ e)
end Mi
namespace G
open PySem L2 Mi
end G
namespace Mi
open PySem L2
section
variable {A:Hx}{c:En}{me:Ev}{j jin:jq}{N M:Nat}{ot it:Nat->W}{u:Option W}
end
end Mi
namespace G
open PySem L2 Mi
section
variable {s t:List (List Int)}
theorem Yt {n:Nat}(h:n<1000000):jz (n:Int)=true:=by
 unfold jz
 simp
 omega
end
end G
namespace Mi
open PySem L2
theorem Jp {m:Ev}{ρ:En}{A A1:Hx}{n:Nat}{ws:List W}(h:m ρ A=.ok (.ref n) A1)(hA:A1[n]? =some (.lst ws)):qj m ρ A=.ok ⟨λ A i=>(zU (.ref n) A).map λ ws=>ws[i]?,ws.length⟩ A1:=by
 unfold qj KC
 rw [h,zJ]
 have e:zU (.ref n) A1=some ws:=by unfold zU;dsimp only;rw [hA]
 rw [e]
theorem wX {n i:Nat}{A:Hx}{ws:List W}(hA:A[n]? =some (.lst ws)):((zU (.ref n) A).map λ ws=>ws[i]?)=some ws[i]?:=by
 have e:zU (.ref n) A=some ws:=by unfold zU;dsimp only;rw [hA]
 rw [e];rfl
noncomputable def kq:List Int->Int
 | []=>0
 | i::is=>jF is i
theorem SY {r:List Int}{A:Hx}(h:r≠[]):jU (r.map W.int) A=.ok (.int (kq r)) A:=by
 unfold jU
 rw [Yk]
 cases r with
 | nil=>exact absurd rfl h
 | cons i is=>rfl
theorem YO {r:List Int}(h:r≠[]):kq r∈r:=by
 cases r with
 | nil=>exact absurd rfl h
 | cons i is=>
  rcases G4 is i with e | e
  ·show jF is i∈_;rw [e];exact List.mem_cons_self ..
  ·exact List.mem_cons_of_mem _ e
noncomputable def qT (t:List (List Int)):Int:=kq (t.map kq)+1
end Mi
namespace G
open PySem L2 Mi
section
variable {s t:List (List Int)}
theorem _root_.Mi.qD.row_ne (h:qD t){r:List Int}(hr:r∈t):r≠[]:=λ e=>by
 have h1:=h.sq r hr
 have h2:=h.n1
 rw [e,List.length_nil] at h1
 omega
theorem _root_.Mi.qD.map_ne (h:qD t):t.map kq≠[]:=λ e=>by
 have:=h.n1
 rw [List.map_eq_nil_iff] at e
 rw [e] at this
 simp at this
theorem VP (h:qD t):1<=qT t/\qT t<=8:=by
 obtain ⟨r,hr,e⟩:=List.mem_map.mp (YO h.map_ne)
 have:=h.lo r hr _ (YO (h.row_ne hr))
 have:=h.n8
 unfold qT
 rw [<- e]
 omega
theorem RH (h:qD t){a b:Nat}(ha:a<t.length)(hb:b<t.length):0<=at2 t a b/\at2 t a b<8:=by
 have hl:=h.sq _ (kW ha)
 have:(t.getD a []).getD b 0∈t.getD a []:=by
  rw [List.getD_eq_getElem?_getD (l:=t.getD a []),List.getElem?_eq_getElem (by omega)];exact List.getElem_mem _
 have h1:=h.lo _ (kW ha) _ this
 have:=h.n8
 unfold at2
 omega
theorem gN {q:jD}{ρ:En}{A A1:Hx}{ws:List W}(h:q ρ A=.ok ws A1):mQ j0 q ρ A=.ok (.tup ws) A1:=(yA h).trans rfl
end
end G
namespace Mi
open PySem L2
theorem yI {n:Nat}{ws:List W}{w:W}{A:Hx}{s:Nat}(h:A[n]? =some (.lst ws))(hs:ws[s]? =some w):zG (.ref n) (.int (s:Int)) A=.ok w A:=by
 unfold zG
 have e:zU (.ref n) A=some ws:=by unfold zU;dsimp only;rw [h]
 rw [e]
 dsimp only
 rw [YX hs]
theorem yh {A:Hx}{o u:O}{n:Nat}(h:A[n]? =some o):(A++[u])[n]? =some o:=by
 have:=(List.getElem?_eq_some_iff.mp h).1
 rw [List.getElem?_append_left this];exact h
theorem je {A:Hx}{u:O}:(A++[u])[A.length]? =some u:=by simp
theorem XU:∀(n:Nat) (ks:List Int),ks.Nodup->(∀r∈ks,0<=r/\r<(n:Int))->ks.length<=n
 | 0,ks,_,h=>by
  cases ks with
  | nil=>exact Nat.le_refl _
  | cons r l=>have:=h r (List.mem_cons_self ..);omega
 | n+1,ks,nd,h=>by
  by_cases hm:(n:Int)∈ks
  ·have h1:=XU n (ks.erase (n:Int)) (nd.erase _) λ r hr=>by
    have h2:=h r (List.mem_of_mem_erase hr)
    have h3:r≠(n:Int):=λ z=>(List.Nodup.mem_erase_iff nd).mp hr |>.1 z
    omega
   rw [List.length_erase_of_mem hm] at h1
   omega
  ·have:=XU n ks nd λ r hr=>by
    have h2:=h r hr
    have h3:r≠(n:Int):=λ z=>hm (z ▸ hr)
    omega
   omega
noncomputable def gr (μ:Nat->Nat->Int)(a b:Nat)(k:Int):Nat->Nat->Int:=λ i j=>if i=a/\j=b then k else μ i j
structure Mu (n:Nat)(μ:Nat->Nat->Int)(c:Nat)(done:Nat->Nat->Prop):Prop where
 dg:∀i,μ i i=0
 sy:∀i j,μ i j=μ j i
 dn:∀i j,i<j->j<n->done i j->1<=μ i j/\μ i j<=(c:Int)
 un:∀i j,i<j->j<n->¬done i j->μ i j=0
 fu:∀k:Nat,1<=k->k<=c->∃i j,i<n/\j<n/\μ i j=(k:Int)
noncomputable def yd (n:Nat)(μ:Nat->Nat->Int):List (List Int):=(List.range n).map λ i=>(List.range n).map (μ i)
theorem Zk {n:Nat}{μ:Nat->Nat->Int}{i j:Nat}(hi:i<n)(hj:j<n):at2 (yd n μ) i j=μ i j:=by
 unfold at2 yd
 rw [List.getD_eq_getElem?_getD (l:=(List.range n).map λ i=>(List.range n).map (μ i)),List.getElem?_map,List.getElem?_range hi]
 show ((List.range n).map (μ i)).getD j 0=_
 rw [List.getD_eq_getElem?_getD,List.getElem?_map,List.getElem?_range hj]
 rfl
theorem Mu.tab {n c:Nat}{μ:Nat->Nat->Int}{d:Nat->Nat->Prop}(h:Mu n μ c d)(all:∀i j,i<j->j<n->d i j)(n1:1<=n)(n8:n<=8)(hc:n=1∨c<n):qD (yd n μ):=by
 have len:(yd n μ).length=n:=by unfold yd;simp
 have val:∀i j,i<n->j<n->i≠j->1<=μ i j/\μ i j<=(c:Int):=λ i j hi hj ne=>by
  rcases Nat.lt_or_gt_of_ne ne with q | q
  ·exact h.dn i j q hj (all i j q hj)
  ·rw [h.sy];exact h.dn j i q hi (all j i q hi)
 have mem:∀r∈yd n μ,∀v∈r,∃i j,i<n/\j<n/\v=μ i j:=λ r hr v hv=>by
  unfold yd at hr
  obtain ⟨i,hi,rfl⟩:=List.mem_map.mp hr
  obtain ⟨j,hj,rfl⟩:=List.mem_map.mp hv
  exact ⟨i,j,List.mem_range.mp hi,List.mem_range.mp hj,rfl⟩
 have inF:∀i j,i<n->j<n->μ i j∈(yd n μ).flatten:=λ i j hi hj=>List.mem_flatten.mpr ⟨_,List.mem_map.mpr ⟨i,List.mem_range.mpr hi,rfl⟩,List.mem_map.mpr ⟨j,List.mem_range.mpr hj,rfl⟩⟩
 refine ⟨by rw [len];exact n1,by rw [len];exact n8,λ r hr=>?_,λ r hr v hv=>?_,λ a b ha hb=>?_,λ a b ha hb=>?_,λ k hk=>?_⟩
 ·rw [len]
  unfold yd at hr
  obtain ⟨i,hi,rfl⟩:=List.mem_map.mp hr
  simp
 ·rw [len]
  obtain ⟨i,j,hi,hj,rfl⟩:=mem r hr v hv
  by_cases q:i=j
  ·subst q;rw [h.dg];omega
  ·have:=val i j hi hj q
   omega
 ·rw [len] at ha hb
  rw [Zk ha hb]
  constructor
  ·intro e
   by_cases q:a=b
   ·exact q
   ·have:=val a b ha hb q;omega
  ·intro e;subst e;exact h.dg a
 ·rw [len] at ha hb
  rw [Zk ha hb,Zk hb ha]
  exact h.sy a b
 ·obtain ⟨v,hv,hlt⟩:=hk
  obtain ⟨r,hr,hv'⟩:=List.mem_flatten.mp hv
  obtain ⟨i,j,hi,hj,rfl⟩:=mem r hr v hv'
  by_cases k0:k=0
  ·subst k0
   have:=inF 0 0 (by omega) (by omega)
   rw [h.dg] at this
   exact this
  ·by_cases q:i=j
   ·subst q;rw [h.dg] at hlt;omega
   ·have:=val i j hi hj q
    obtain ⟨i',j',hi',hj',e⟩:=h.fu k (by omega) (by omega)
    have:=inF i' j' hi' hj'
    rw [e] at this
    exact this
end Mi
namespace G
open PySem L2 Mi
theorem Jt {i j:Int}{A:Hx}(h1:-(2 ^ 64)<i)(h2:i<2 ^ 64):jf (.int i) (.int j) A=.ok (.int (i * j)) A:=by
 unfold jf
 dsimp only
 rw [if_pos]
 unfold JH
 rw [Bool.or_eq_true,Bool.and_eq_true,decide_eq_true_iff,decide_eq_true_iff]
 exact .inl ⟨h1,h2⟩
theorem ZX {i j:Int}{A:Hx}(h:0<j):yT (.int i) (.int j) A=.ok (.int (i % j)) A:=by
 unfold yT Zb
 dsimp only
 rw [if_pos]
 unfold KQ
 exact decide_eq_true h
theorem XM {i j:Int}{A:Hx}(h:0<j)(h2:j<1152921504606846976):k8 (.int i) (.int j) A=.ok (.int (i / j)) A:=by
 unfold k8 Zb
 dsimp only
 rw [if_pos]
 unfold Kv
 rw [Bool.and_eq_true,decide_eq_true_iff,decide_eq_true_iff]
 exact ⟨h,h2⟩
theorem FQ {c m:Int}(h1:0<m)(h2:m<1000000000000000):Yl [.ref 0,.int m] [.lst [.int c,.bl true]]=.ok (.int (c % m)) [.lst [.int (c / m),.bl true]]:=by
 refine qy ?_
 unfold Yj
 refine qe (A1:=[.lst [.int (c / m),.bl true]]) ?_
 refine (yW (A1:=[.lst [.int c,.bl true]]) rfl).trans ?_
 refine (zM (ρ1:=[some (.ref 0),some (.int m),some (.int (c % m)),none]) (A1:=[.lst [.int c,.bl true]]) ?_).trans ?_
 ·refine (qO (w:=.int (c % m)) (A1:=[.lst [.int c,.bl true]]) ?_).trans rfl
  exact (zL (x:=.int c) (y:=.int m) (A1:=[.lst [.int c,.bl true]]) (A2:=[.lst [.int c,.bl true]]) rfl rfl).trans (ZX h1)
 ·refine (zM (ρ1:=[some (.ref 0),some (.int m),some (.int (c % m)),none]) (A1:=[.lst [.int (c / m),.bl true]]) ?_).trans rfl
  have e:zp k8 (zp zG (zh 0) (zi (.int 0))) (zh 1) [some (.ref 0),some (.int m),some (.int (c % m)),none] [.lst [.int c,.bl true]]=.ok (.int (c / m)) [.lst [.int c,.bl true]]:=
   (zL (x:=.int c) (y:=.int m) (A1:=[.lst [.int c,.bl true]]) (A2:=[.lst [.int c,.bl true]]) rfl rfl).trans (XM h1 (by omega))
  unfold kh
  rw [e,zJ]
  rfl
noncomputable def ZF (c:Int):Int:=(c * 48271+29) % 2147483647
noncomputable def kN (d:Int):Int:=(d * d+39373 * d+7) % 2147483629
noncomputable def wk (e:Int):Int:=(e * e+16807 * e) % 2147483587
theorem Va (c:Int):0<=ZF c/\ZF c<2147483647:=⟨Int.emod_nonneg _ (by decide),Int.emod_lt_of_pos _ (by decide)⟩
theorem D2 (c:Int):0<=kN c/\kN c<2147483629:=⟨Int.emod_nonneg _ (by decide),Int.emod_lt_of_pos _ (by decide)⟩
theorem Dr {c m:Int}(hc:0<=c)(hc2:c<2147483647)(h1:0<m)(h2:m<1000000000000000):Yl [.ref 0,.int m] [.lst [.int c,.bl false]]=.ok (.int (wk (kN (ZF c)) / 8 % m)) [.lst [.int (ZF c),.bl false]]:=by
 have b1:=Va c
 refine qy ?_
 unfold Yj
 refine (zM (ρ1:=[some (.ref 0),some (.int m),none,none]) (A1:=[.lst [.int c,.bl false]]) ((j3 (A1:=[.lst [.int c,.bl false]]) rfl).trans rfl)).trans ?_
 have e1:zp yT (zp z8 (zp jf (zp zG (zh 0) (zi (.int 0))) (zi (.int 48271))) (zi (.int 29))) (zi (.int 2147483647)) [some (.ref 0),some (.int m),none,none] [.lst [.int c,.bl false]]=.ok (.int (ZF c)) [.lst [.int c,.bl false]]:=by
  have em:zp jf (zp zG (zh 0) (zi (.int 0))) (zi (.int 48271)) [some (.ref 0),some (.int m),none,none] [.lst [.int c,.bl false]]=.ok (.int (c * 48271)) [.lst [.int c,.bl false]]:=
   (zL (x:=.int c) (y:=.int 48271) (A1:=[.lst [.int c,.bl false]]) (A2:=[.lst [.int c,.bl false]]) rfl rfl).trans (Jt (by omega) (by omega))
  refine (zL (x:=.int (c * 48271+29)) (y:=.int 2147483647) (A1:=[.lst [.int c,.bl false]]) (A2:=[.lst [.int c,.bl false]]) ((zL em rfl).trans rfl) rfl).trans ?_
  exact ZX (by decide)
 refine (zM (ρ1:=[some (.ref 0),some (.int m),none,none]) (A1:=[.lst [.int (ZF c),.bl false]]) ?_).trans ?_
 ·unfold kh
  rw [e1,zJ]
  rfl
 generalize ZF c=d at *
 have e2:zp yT (zp z8 (zp z8 (zp jf (zp zG (zh 0) (zi (.int 0))) (zp zG (zh 0) (zi (.int 0)))) (zp jf (zi (.int 39373)) (zp zG (zh 0) (zi (.int 0))))) (zi (.int 7))) (zi (.int 2147483629)) [some (.ref 0),some (.int m),none,none] [.lst [.int d,.bl false]]=
   .ok (.int (kN d)) [.lst [.int d,.bl false]]:=by
  have em:zp jf (zp zG (zh 0) (zi (.int 0))) (zp zG (zh 0) (zi (.int 0))) [some (.ref 0),some (.int m),none,none] [.lst [.int d,.bl false]]=.ok (.int (d * d)) [.lst [.int d,.bl false]]:=
   (zL (x:=.int d) (y:=.int d) (A1:=[.lst [.int d,.bl false]]) (A2:=[.lst [.int d,.bl false]]) rfl rfl).trans (Jt (by omega) (by omega))
  have en:zp jf (zi (.int 39373)) (zp zG (zh 0) (zi (.int 0))) [some (.ref 0),some (.int m),none,none] [.lst [.int d,.bl false]]=.ok (.int (39373 * d)) [.lst [.int d,.bl false]]:=
   (zL (x:=.int 39373) (y:=.int d) (A1:=[.lst [.int d,.bl false]]) (A2:=[.lst [.int d,.bl false]]) rfl rfl).trans (Jt (by decide) (by decide))
  have es:zp z8 (zp jf (zp zG (zh 0) (zi (.int 0))) (zp zG (zh 0) (zi (.int 0)))) (zp jf (zi (.int 39373)) (zp zG (zh 0) (zi (.int 0)))) [some (.ref 0),some (.int m),none,none] [.lst [.int d,.bl false]]=.ok (.int (d * d+39373 * d)) [.lst [.int d,.bl false]]:=
   (zL em en).trans rfl
  refine (zL (x:=.int (d * d+39373 * d+7)) (y:=.int 2147483629) (A1:=[.lst [.int d,.bl false]]) (A2:=[.lst [.int d,.bl false]]) ((zL es rfl).trans rfl) rfl).trans ?_
  exact ZX (by decide)
 refine (zM (ρ1:=[some (.ref 0),some (.int m),none,some (.int (kN d))]) (A1:=[.lst [.int d,.bl false]]) ((qO e2).trans rfl)).trans ?_
 have b2:=D2 d
 generalize kN d=e at *
 have e3:zp yT (zp z8 (zp jf (zh 3) (zh 3)) (zp jf (zi (.int 16807)) (zh 3))) (zi (.int 2147483587)) [some (.ref 0),some (.int m),none,some (.int e)] [.lst [.int d,.bl false]]=.ok (.int (wk e)) [.lst [.int d,.bl false]]:=by
  have em:zp jf (zh 3) (zh 3) [some (.ref 0),some (.int m),none,some (.int e)] [.lst [.int d,.bl false]]=.ok (.int (e * e)) [.lst [.int d,.bl false]]:=
   (zL (x:=.int e) (y:=.int e) (A1:=[.lst [.int d,.bl false]]) (A2:=[.lst [.int d,.bl false]]) rfl rfl).trans (Jt (by omega) (by omega))
  have en:zp jf (zi (.int 16807)) (zh 3) [some (.ref 0),some (.int m),none,some (.int e)] [.lst [.int d,.bl false]]=.ok (.int (16807 * e)) [.lst [.int d,.bl false]]:=
   (zL (x:=.int 16807) (y:=.int e) (A1:=[.lst [.int d,.bl false]]) (A2:=[.lst [.int d,.bl false]]) rfl rfl).trans (Jt (by decide) (by decide))
  refine (zL (x:=.int (e * e+16807 * e)) (y:=.int 2147483587) (A1:=[.lst [.int d,.bl false]]) (A2:=[.lst [.int d,.bl false]]) ((zL em en).trans rfl) rfl).trans ?_
  exact ZX (by decide)
 refine (zM (ρ1:=[some (.ref 0),some (.int m),none,some (.int (wk e))]) (A1:=[.lst [.int d,.bl false]]) ((qO e3).trans rfl)).trans ?_
 generalize wk e=f at *
 refine qe (qC ?_)
 refine (zL (x:=.int (f / 8)) (y:=.int m) (A1:=[.lst [.int d,.bl false]]) (A2:=[.lst [.int d,.bl false]]) ?_ rfl).trans (ZX h1)
 exact (zL (x:=.int f) (y:=.int 8) (A1:=[.lst [.int d,.bl false]]) (A2:=[.lst [.int d,.bl false]]) rfl rfl).trans (XM (by decide) (by decide))
noncomputable def qo (n:Nat)(A:Hx):Prop:=∃c b,A[n]? =some (.lst [.int c,.bl b])/\0<=c/\(b=false->c<2147483647)
theorem Rz {n:Nat}{A:Hx}(h:qo n A){m:Int}(h1:0<m)(h2:m<1000000000000000):∃r o,qu [.ref n,.int m] A=.ok (.int r) (A.set n o)/\0<=r/\r<m/\qo n (A.set n o):=by
 obtain ⟨c,b,hA,hc,hb⟩:=h
 have hn:n<A.length:=(List.getElem?_eq_some_iff.mp hA).1
 have fin:∀(r c':Int),Yl [.ref 0,.int m] [.lst [.int c,.bl b]]=.ok (.int r) [.lst [.int c',.bl b]]->qu [.ref n,.int m] A=.ok (.int r) (A.set n (.lst [.int c',.bl b])):=λ r c' e=>by
  unfold qu ku
  dsimp only
  rw [hA]
  dsimp only
  have hn1:(jt [W.int c,W.bl b]&&jt [W.int m])=true:=rfl
  rw [if_pos hn1,e]
  rfl
 cases b with
 | true=>
  refine ⟨c % m,_,fin _ _ (FQ h1 h2),Int.emod_nonneg _ (by omega),Int.emod_lt_of_pos _ h1,c / m,true,List.getElem?_set_self hn,Int.ediv_nonneg hc (by omega),λ z=>nomatch z⟩
 | false=>
  exact ⟨_,_,fin _ _ (Dr hc (hb rfl) h1 h2),Int.emod_nonneg _ (by omega),Int.emod_lt_of_pos _ h1,ZF c,false,List.getElem?_set_self hn,(Va c).1,λ _=>(Va c).2⟩
end G
namespace Mi
open PySem L2
theorem Yz {n k:Nat}{xs ys:List W}{A:Hx}(h:A[n]? =some (.lst xs))(h2:A[k]? =some (.lst ys))(hl:xs.length+ys.length<=zW):z8 (.ref n) (.ref k) A=.ok (.ref A.length) (A++[.lst (xs++ys)]):=by
 unfold z8
 dsimp only
 rw [h,h2]
 dsimp only
 rw [if_pos hl]
noncomputable def Ext (A A':Hx):Prop:=∃l,A'=A++l
theorem Ext.refl {A:Hx}:Ext A A:=⟨[],by simp⟩
theorem Ext.trans {A B C:Hx}(a:Ext A B)(b:Ext B C):Ext A C:=let ⟨l,e⟩:=a;let ⟨k,f⟩:=b;⟨l++k,by rw [f,e,List.append_assoc]⟩
theorem Ext.one {A:Hx}{o:O}:Ext A (A++[o]):=⟨[o],rfl⟩
theorem Ext.at {A A':Hx}{n:Nat}{o:O}(x:Ext A A')(h:A[n]? =some o):A'[n]? =some o:=by
 obtain ⟨l,rfl⟩:=x
 have:=(List.getElem?_eq_some_iff.mp h).1
 rw [List.getElem?_append_left this];exact h
end Mi
namespace G
open PySem L2 Mi
end G
namespace Mi
open PySem L2
theorem M0 {j:jq}{tw:Tg}{ifs:Ev}{em:Em}{N:Nat}{I:Nat->En->List W->Hx->Prop}
  (hstep:∀i ρ acc A,i<N->I i ρ acc A->∃w ρ1,j.at_ A i=some (some w)/\tw w ρ=some ρ1/\((∃A1 ρ2 acc2 A2,ifs ρ1 A=.ok (.bl true) A1/\em ρ1 acc A1=.ok (ρ2,acc2) A2/\I (i+1) ρ2 acc2 A2)∨(∃A1,ifs ρ1 A=.ok (.bl false) A1/\I (i+1) ρ1 acc A1)))
  (hend:∀ρ acc A,I N ρ acc A->j.at_ A N=some none):
  ∀(f i:Nat) (ρ:En) (acc:List W) (A:Hx),i+f=N->I i ρ acc A->∃ρ' acc' A',jk j tw ifs em f i ρ acc A=.ok (ρ',acc') A'/\I N ρ' acc' A':=by
 intro f
 induction f with
 | zero=>
  intro i ρ acc A h hI
  have:i=N:=by omega
  subst this
  refine ⟨ρ,acc,A,?_,hI⟩
  unfold jk
  rw [hend _ _ _ hI]
 | succ f ih=>
  intro i ρ acc A h hI
  obtain ⟨w,ρ1,h1,h2,h3⟩:=hstep i ρ acc A (by omega) hI
  rw [jk,h1]
  dsimp only
  rw [h2]
  dsimp only
  rcases h3 with ⟨A1,ρ2,acc2,A2,e1,e2,e3⟩ | ⟨A1,e1,e3⟩
  ·rw [e1,zJ]
   dsimp only
   rw [e2,zJ]
   exact ih (i+1) _ _ _ (by omega) e3
  ·rw [e1,zJ]
   dsimp only
   exact ih (i+1) _ _ _ (by omega) e3
theorem Qu {nl:Nat}{cap:List Nat}{mi:Ei}{ρ:En}{A A1:Hx}{j:jq}{tw:Tg}{ifs:Ev}{em:Em}{N:Nat}{I:Nat->En->List W->Hx->Prop}(hm:mi ρ A=.ok j A1)(hj:j.len=N)
  (hstep:∀i ρ acc A,i<N->I i ρ acc A->∃w ρ1,j.at_ A i=some (some w)/\tw w ρ=some ρ1/\((∃A1 ρ2 acc2 A2,ifs ρ1 A=.ok (.bl true) A1/\em ρ1 acc A1=.ok (ρ2,acc2) A2/\I (i+1) ρ2 acc2 A2)∨(∃A1,ifs ρ1 A=.ok (.bl false) A1/\I (i+1) ρ1 acc A1)))
  (hend:∀ρ acc A,I N ρ acc A->j.at_ A N=some none)(h0:I 0 (Z4 nl cap ρ) [] A1):∃ρ' acc' A',zN nl cap mi tw ifs em ρ A=.ok acc' A'/\I N ρ' acc' A':=by
 obtain ⟨ρ',acc',A',e,hI⟩:=M0 hstep hend N 0 _ _ _ (by omega) h0
 refine ⟨ρ',acc',A',?_,hI⟩
 unfold zN
 rw [hm,zJ,hj,e]
 rfl
theorem Yp {j:jq}{st:W->Ex}{N:Nat}{I:Nat->En->Hx->Prop}
  (hstep:∀i ρ A,i<N->I i ρ A->∃w ρ1 A1,j.at_ A i=some (some w)/\st w ρ A=.ok (.nx ρ1) A1/\I (i+1) ρ1 A1)(hend:∀ρ A,I N ρ A->j.at_ A N=some none):
  ∀(f i:Nat) (ρ:En) (A:Hx),i+f=N->I i ρ A->∃ρ' A',jL j st f i ρ A=.ok (.nx ρ') A'/\I N ρ' A':=by
 intro f
 induction f with
 | zero=>
  intro i ρ A h hI
  have:i=N:=by omega
  subst this
  exact ⟨ρ,A,U8 (hend _ _ hI),hI⟩
 | succ f ih=>
  intro i ρ A h hI
  obtain ⟨w,ρ1,A1,h1,h2,h3⟩:=hstep i ρ A (by omega) hI
  rw [Sd h1 h2]
  exact ih (i+1) _ _ (by omega) h3
theorem QA {me:Ev}{ρ:En}{acc:List W}{A A1:Hx}{y:W}(h:me ρ A=.ok y A1)(hl:acc.length<zW):zK me ρ acc A=.ok (ρ,acc++[y]) A1:=by
 unfold zK
 rw [h,zJ,if_pos hl]
theorem take_succ {α:Type}{l:List α}{i:Nat}(h:i<l.length):l.take (i+1)=l.take i++[l[i]]:=by
 rw [List.take_succ,List.getElem?_eq_getElem h];rfl
theorem Ext.app {A B:Hx}{l:Hx}(x:Ext A B):Ext A (B++l):=x.trans ⟨l,rfl⟩
theorem Ext.len {A B:Hx}(x:Ext A B):A.length<=B.length:=by obtain ⟨l,rfl⟩:=x;simp
theorem wR {A:Hx}{n:Nat}{o:O}(h:A[n]? =some o):n<A.length:=(List.getElem?_eq_some_iff.mp h).1
end Mi
namespace G
open PySem L2 Mi
theorem Dk {n i:Nat}{A:Hx}{ws:List W}{w:W}(hA:A[n]? =some (.lst ws))(h:ws[i]? =some w):((zU (.ref n) A).map λ ws=>ws[i]?)=some (some w):=by
 rw [wX hA,h]
theorem FK {n i:Nat}{A:Hx}{ws:List W}(hA:A[n]? =some (.lst ws))(h:ws.length<=i):((zU (.ref n) A).map λ ws=>ws[i]?)=some none:=by
 rw [wX hA,List.getElem?_eq_none h]
end G
namespace Mi
open PySem L2
theorem Jq:∀(l:List Int) (m:Int),m<=jF l m/\∀x∈l,x<=jF l m
 | [],m=>⟨Int.le_refl _,λ x h=>by cases h⟩
 | y::l,m=>by
  unfold jF
  split
  ·rename_i hy
   obtain ⟨h1,h2⟩:=Jq l y
   refine ⟨by omega,λ x hx=>?_⟩
   rcases List.mem_cons.mp hx with rfl | hx
   ·exact h1
   ·exact h2 x hx
  ·rename_i hy
   obtain ⟨h1,h2⟩:=Jq l m
   refine ⟨h1,λ x hx=>?_⟩
   rcases List.mem_cons.mp hx with rfl | hx
   ·omega
   ·exact h2 x hx
theorem U7 {α:Type}:∀{l:List α} {k:Nat} {w:α},l[k]? =some w->l.Perm (w::l.eraseIdx k)
 | [],_,_,h=>by simp at h
 | x::l,0,w,h=>by
  simp at h
  subst h
  simp
 | x::l,k+1,w,h=>by
  rw [List.getElem?_cons_succ] at h
  rw [List.eraseIdx_cons_succ]
  exact ((U7 h).cons x).trans (List.Perm.swap w x _)
theorem NN {A:Hx}{n k:Nat}{i:Int}{ws:List W}{w:W}(h:A[n]? =some (.lst ws))(hw:ws[k]? =some w)(hs:jz i=true)(e:seqIndex? i ws.length=some k):w5 (.ref n) (.int i) A=.ok w (A.set n (.lst (ws.eraseIdx k))):=by
 unfold w5
 dsimp only
 rw [h]
 dsimp only
 rw [if_pos hs,e]
 dsimp only
 rw [hw]
theorem E5 {k n:Nat}(hl:k<n):seqIndex? (k:Int) n=some k:=by
 have:=PySem.StrLaws.seqIndex_nonneg (i:=(k:Int)) (n:=n) (by omega) (by omega)
 rw [Int.toNat_natCast] at this
 exact this
theorem NS {A:Hx}{n k:Nat}{ws:List W}{w:W}(h:A[n]? =some (.lst ws))(hw:ws[k]? =some w)(hk:k<1000000):w5 (.ref n) (.int (k:Int)) A=.ok w (A.set n (.lst (ws.eraseIdx k))):=
 NN h hw (G.Yt hk) (E5 (List.getElem?_eq_some_iff.mp hw).1)
theorem TH {α β:Type}(f:α->β):∀(l:List α) (k:Nat),(l.map f).eraseIdx k=(l.eraseIdx k).map f
 | [],_=>rfl
 | _::_,0=>rfl
 | a::l,k+1=>by
  rw [List.map_cons,List.eraseIdx_cons_succ,List.eraseIdx_cons_succ,List.map_cons,TH f l k]
theorem Xg {g:W->W->Hx->R W}{a b:Ev}{ρ:En}{A A1:Hx}{n:Nat}{ws:List W}{y:W}(ha:a ρ A=.ok (.ref n) A)(hA:A[n]? =some (.lst ws))(hb:b ρ A=.ok y A1):yV g a b ρ A=g (.ref n) y A1:=by
 unfold yV
 have hl:QY (.ref n) A=true:=by unfold QY;dsimp only;rw [hA]
 rw [ha,zJ,if_pos hl,hb,zJ]
theorem Nl {A:Hx}{n:Nat}{ws:List W}{y:W}(h:A[n]? =some (.lst ws))(hl:ws.length<1000):wu (.ref n) y A=.ok .non (A.set n (.lst (ws++[y]))):=by
 unfold wu
 dsimp only
 rw [h]
 dsimp only
 rw [if_pos (by unfold zW;omega)]
theorem XF {f:Fn}{n:Nat}{us:List W}{A A1:Hx}{c c':Int}{b b':Bool}{w:W}(hA:A[n]? =some (.lst [.int c,.bl b]))(hu:jt us=true)(h:f (.ref 0::us) [.lst [.int c,.bl b]]=.ok w A1)(h1:A1[0]? =some (.lst [.int c',.bl b']))(hw:w.nr=true):ku f (.ref n::us) A=.ok w (A.set n (.lst [.int c',.bl b'])):=by
 unfold ku
 dsimp only
 rw [hA]
 dsimp only
 have h2:(jt [W.int c,W.bl b]&&jt us)=true:=by rw [hu];rfl
 rw [if_pos h2,h]
 dsimp only
 rw [List.head?_eq_getElem?,h1]
 dsimp only
 have h3:(jt [W.int c',W.bl b']&&w.nr)=true:=by rw [hw];rfl
 rw [if_pos h3]
noncomputable abbrev iL (l:List Nat):List W:=l.map λ (a:Nat)=>W.int (a:Int)
end Mi
namespace G
open PySem L2 Mi
theorem NX {m:Ev}{ρ:En}{A A1:Hx}{n:Nat}(h:m ρ A=.ok (.int (n:Int)) A1)(hn:n<=100):Jo m ρ A=.ok (.ref A1.length) (A1++[.lst (iL (List.range n))]):=by
 unfold Jo
 rw [h,zJ]
 dsimp only
 rw [Yt (by omega),Int.toNat_natCast,decide_eq_true (by unfold zW;omega)]
 rfl
end G
namespace Mi
open PySem L2
theorem Jg {α:Type}{m me:Ev}{ρ:En}{A:Hx}{cap:List Nat}{o:List α}{f:α->W}{G:α->W}(h:m ρ A=.ok (.tup (o.map f)) A)(hl:o.length<=zW)(he:∀a∈o,me (some (f a)::cap.map λ i=>(ρ[i]?).join) A=.ok (G a) A):
  zN 1 cap (qj m) (zI 0) (zi (.bl true)) (zK me) ρ A=.ok (o.map G) A:=by
 by_cases h0:o=[]
 ·subst h0
  have e:=Qt (cap:=cap) (me:=me) (ρ:=ρ) (A:=A) (N:=0) (item:=λ _=>.non) (g:=λ _=>.non) (Zl h) rfl (by unfold zW;omega) (λ i hi=>by omega) rfl (λ i hi=>by omega)
  exact e
 ·obtain ⟨x,hx⟩:∃x,x∈o:=List.exists_mem_of_ne_nil o h0
  have e:=Qt (cap:=cap) (me:=me) (ρ:=ρ) (A:=A) (N:=o.length) (item:=λ i=>f (o.getD i x)) (g:=λ i=>G (o.getD i x)) (Zl h) (List.length_map ..) hl
   (λ i hi=>by show some (o.map f)[i]? =_;rw [List.getElem?_map,List.getElem?_eq_getElem hi,List.getD_eq_getElem?_getD,List.getElem?_eq_getElem hi];rfl)
   (by show some (o.map f)[o.length]? =_;rw [List.getElem?_eq_none (by rw [List.length_map];exact Nat.le_refl _)])
   (λ i hi=>by
    have:o.getD i x=o[i]:=by rw [List.getD_eq_getElem?_getD,List.getElem?_eq_getElem hi];rfl
    rw [this];exact he _ (List.getElem_mem hi))
  rw [e]
  congr 1
  apply List.ext_getElem
  ·simp
  ·intro i h1 h2
   have hi:i<o.length:=by simpa using h2
   simp [List.getD_eq_getElem?_getD,List.getElem?_eq_getElem hi]
theorem Qo {α β:Type}(o:List α)(x:α)(f:α->β):o.map f=(List.range o.length).map λ i=>f (o.getD i x):=by
 apply List.ext_getElem
 ·simp
 ·intro i h1 h2
  have hi:i<o.length:=by simpa using h1
  simp [List.getD_eq_getElem?_getD,List.getElem?_eq_getElem hi]
theorem gI {t:List (List Int)}(hq:∀r∈t,r.length=t.length){v:Int}(h:v∈t.flatten):∃a b,a<t.length/\b<t.length/\at2 t a b=v:=by
 obtain ⟨r,hr,hv⟩:=List.mem_flatten.mp h
 obtain ⟨a,ha,e1⟩:=List.getElem_of_mem hr
 obtain ⟨b,hb,e2⟩:=List.getElem_of_mem hv
 refine ⟨a,b,ha,by rw [<- hq r hr];exact hb,?_⟩
 unfold at2
 have e3:t.getD a []=r:=by rw [List.getD_eq_getElem?_getD,List.getElem?_eq_getElem ha];exact e1
 rw [e3,List.getD_eq_getElem?_getD,List.getElem?_eq_getElem hb]
 exact e2
theorem YZ {t:List (List Int)}(hq:∀r∈t,r.length=t.length){a b:Nat}(ha:a<t.length)(hb:b<t.length):∃r∈t,at2 t a b∈r/\at2 t a b∈t.flatten:=by
 have h1:t.getD a []∈t:=kW ha
 have h2:at2 t a b∈t.getD a []:=by
  unfold at2
  have hb':b<(t.getD a []).length:=by rw [hq _ h1];exact hb
  rw [List.getD_eq_getElem?_getD (l:=t.getD a []),List.getElem?_eq_getElem hb']
  exact List.getElem_mem _
 exact ⟨_,h1,h2,List.mem_flatten.mpr ⟨_,h1,h2⟩⟩
theorem Sv {r:List Int}{x:Int}(h:x∈r):x<=kq r:=by
 cases r with
 | nil=>cases h
 | cons i is=>
  show x<=jF is i
  rcases List.mem_cons.mp h with rfl | h
  ·exact (Jq is x).1
  ·exact (Jq is i).2 x h
end Mi
namespace G
open PySem L2 Mi
section
variable {t:List (List Int)}
theorem Y7 (h:qD t){a b:Nat}(ha:a<t.length)(hb:b<t.length):at2 t a b<qT t:=by
 obtain ⟨r,hr,h1,_⟩:=YZ h.sq ha hb
 have e1:=Sv h1
 have e2:=Sv (List.mem_map.mpr ⟨r,hr,rfl⟩:kq r∈t.map kq)
 unfold qT
 omega
theorem Xu (h:qD t):qT t - 1∈t.flatten:=by
 obtain ⟨r,hr,e⟩:=List.mem_map.mp (YO h.map_ne)
 have:qT t - 1=kq r:=by unfold qT;omega
 rw [this]
 exact List.mem_flatten.mpr ⟨r,hr,YO (h.row_ne hr)⟩
theorem F1 (h:qD t):qT t<=(t.length:Int):=by
 obtain ⟨r,hr,hv⟩:=List.mem_flatten.mp (Xu h)
 have:=h.lo r hr _ hv
 omega
theorem E6 (h:qD t){v:Nat}(hv:(v:Int)<qT t):∃a b,a<t.length/\b<t.length/\at2 t a b=(v:Int):=by
 by_cases e:(v:Int)=qT t - 1
 ·rw [e];exact gI h.sq (Xu h)
 ·exact gI h.sq (h.fu v ⟨_,Xu h,by omega⟩)
noncomputable def jP (p:List Nat):List Int:=0::p.map λ (k:Nat)=>1+(k:Int)
noncomputable def Qa (t:List (List Int))(p o:List Nat):List (List Int):=o.map λ a=>o.map λ b=>(jP p).getD (at2 t a b).toNat 0
theorem SV {p:List Nat}{v:Nat}(h1:1<=v)(h2:v<=p.length):(jP p).getD v 0=1+((p[v - 1]'(by omega):Nat):Int):=by
 obtain ⟨v,rfl⟩:∃u,v=u+1:=⟨v - 1,by omega⟩
 unfold jP
 rw [List.getD_eq_getElem?_getD,List.getElem?_cons_succ,List.getElem?_map,List.getElem?_eq_getElem (by omega)]
 rfl
theorem NP (h:qD t){p o:List Nat}(hp:p.Perm (List.range (qT t - 1).toNat))(ho:o.Perm (List.range t.length)):qD (Qa t p o)/\(Qa t p o).length=t.length:=by
 have hol:o.length=t.length:=by rw [ho.length_eq,List.length_range]
 have kb:=VP h
 have kl:=F1 h
 have hpl:p.length=(qT t - 1).toNat:=by rw [hp.length_eq,List.length_range]
 have n1:=h.n1
 have hin:∀i,o.getD i 0<t.length:=λ i=>by
  by_cases hi:i<o.length
  ·rw [List.getD_eq_getElem?_getD,List.getElem?_eq_getElem hi]
   exact List.mem_range.mp (ho.mem_iff.mp (List.getElem_mem hi))
  ·rw [List.getD_eq_getElem?_getD,List.getElem?_eq_none (by omega)]
   exact n1
 have hnd:o.Nodup:=(ho.nodup_iff).mpr List.nodup_range
 have hsur:∀a,a<t.length->∃i,i<t.length/\o.getD i 0=a:=λ a ha=>by
  obtain ⟨i,hi,e⟩:=List.getElem_of_mem (ho.mem_iff.mpr (List.mem_range.mpr ha))
  exact ⟨i,by omega,by rw [List.getD_eq_getElem?_getD,List.getElem?_eq_getElem hi];exact e⟩
 have hplt:∀q (hq:q<p.length),p[q]<p.length:=λ q hq=>by
  have:=List.mem_range.mp (hp.mem_iff.mp (List.getElem_mem hq))
  omega
 have hM:Mu t.length (λ i j=>(jP p).getD (at2 t (o.getD i 0) (o.getD j 0)).toNat 0) p.length (λ _ _=>True):=by
  refine ⟨λ i=>?_,λ i j=>?_,λ i j hij hj _=>?_,λ i j _ _ hn=>absurd trivial hn,λ k k1 kc=>?_⟩
  ·show (jP p).getD (at2 t (o.getD i 0) (o.getD i 0)).toNat 0=0
   rw [(h.dg _ _ (hin i) (hin i)).mpr rfl]
   rfl
  ·show (jP p).getD (at2 t (o.getD i 0) (o.getD j 0)).toNat 0=(jP p).getD (at2 t (o.getD j 0) (o.getD i 0)).toNat 0
   rw [h.sy _ _ (hin i) (hin j)]
  ·show 1<=(jP p).getD (at2 t (o.getD i 0) (o.getD j 0)).toNat 0/\(jP p).getD (at2 t (o.getD i 0) (o.getD j 0)).toNat 0<=(p.length:Int)
   have hne:o.getD i 0≠o.getD j 0:=by
    have hi':i<o.length:=by omega
    have hj':j<o.length:=by omega
    rw [List.getD_eq_getElem?_getD,List.getElem?_eq_getElem hi',List.getD_eq_getElem?_getD,List.getElem?_eq_getElem hj']
    intro e
    have e':o[i]=o[j]:=e
    have:=(List.getElem_inj hnd).mp e'
    omega
   have d:=h.dg _ _ (hin i) (hin j)
   have b0:=RH h (hin i) (hin j)
   have b2:=Y7 h (hin i) (hin j)
   have b3:at2 t (o.getD i 0) (o.getD j 0)≠0:=λ e=>hne (d.mp e)
   rw [SV (by omega) (by omega)]
   have:=hplt ((at2 t (o.getD i 0) (o.getD j 0)).toNat - 1) (by omega)
   omega
  ·obtain ⟨q,hq,e⟩:=List.getElem_of_mem (hp.mem_iff.mpr (List.mem_range.mpr (by omega:k - 1<(qT t - 1).toNat)))
   obtain ⟨a,b,ha,hb,e2⟩:=E6 h (v:=q+1) (by omega)
   obtain ⟨i,hi,e3⟩:=hsur a ha
   obtain ⟨j,hj,e4⟩:=hsur b hb
   refine ⟨i,j,hi,hj,?_⟩
   show (jP p).getD (at2 t (o.getD i 0) (o.getD j 0)).toNat 0=(k:Int)
   rw [e3,e4,e2,Int.toNat_natCast,SV (by omega) (by omega)]
   have:p[q+1 - 1]'(by omega)=k - 1:=e
   rw [this]
   omega
 have hT:Qa t p o=yd t.length (λ i j=>(jP p).getD (at2 t (o.getD i 0) (o.getD j 0)).toNat 0):=by
  unfold Qa yd
  rw [Qo o 0,hol]
  congr 1
  funext i
  rw [Qo o 0 (λ b=>(jP p).getD (at2 t (o.getD i 0) b).toNat 0),hol]
 refine ⟨?_,by unfold Qa;rw [List.length_map,hol]⟩
 rw [hT]
 exact hM.tab (λ _ _ _ _=>trivial) n1 h.n8 (.inr (by omega))
end
end G
namespace Mi
open PySem L2
theorem Ha {A:Hx}{r b:Nat}{ws:List W}{v:W}(h:A[r]? =some (.lst ws))(hb:b<ws.length):yL (.ref r) (.int (b:Int)) v A=.ok () (A.set r (.lst (ws.set b v))):=by
 have e:wq ws.length (b:Int)=some b:=by unfold wq;rw [if_pos (by omega),if_pos (by omega),Int.toNat_natCast]
 unfold yL
 dsimp only
 rw [h]
 dsimp only
 rw [e]
structure Kp (n:Nat)(A B:Hx):Prop where
 len:A.length<=B.length
 at_:∀i,i<A.length->i≠n->B[i]? =A[i]?
section
variable {n:Nat}{A B C:Hx}
theorem Kp.refl:Kp n A A:=⟨Nat.le_refl _,λ _ _ _=>rfl⟩
theorem Kp.trans (a:Kp n A B)(b:Kp n B C):Kp n A C:=⟨Nat.le_trans a.len b.len,λ i h1 h2=>(b.at_ i (Nat.lt_of_lt_of_le h1 a.len) h2).trans (a.at_ i h1 h2)⟩
theorem Kp.set {o:O}:Kp n A (A.set n o):=⟨by rw [List.length_set];exact Nat.le_refl _,λ i _ h=>List.getElem?_set_ne (Ne.symm h)⟩
theorem Kp.ext (x:Ext A B):Kp n A B:=by
 obtain ⟨l,rfl⟩:=x
 exact ⟨by simp,λ i h _=>List.getElem?_append_left h⟩
theorem Kp.put (a:Kp n A B){k:Nat}{o:O}(h:A.length<=k):Kp n A (B.set k o):=⟨by rw [List.length_set];exact a.len,λ i h1 h2=>by rw [List.getElem?_set_ne (by omega)];exact a.at_ i h1 h2⟩
theorem Kp.get (a:Kp n A B){i:Nat}{o:O}(h:A[i]? =some o)(hn:i≠n):B[i]? =some o:=by rw [a.at_ i (wR h) hn];exact h
end
theorem YH {n:Nat}{μ:Nat->Nat->Int}:(yd n μ).length=n:=by unfold yd;simp
theorem XH {n:Nat}{μ:Nat->Nat->Int}:∀r∈yd n μ,r.length=(yd n μ).length:=λ r hr=>by
 obtain ⟨i,_,rfl⟩:=List.mem_map.mp hr
 rw [YH];simp
end Mi
namespace G
open PySem L2 Mi
section
variable {ns:List Int}{Pt:Addr}{n:Nat}{A:Hx}{t:List (List Int)}
end
end G
namespace Mi
open PySem L2
section
variable {t:List (List Int)}{o:List Nat}{p q:Nat}
end
end Mi
namespace G
open PySem L2 Mi
section
variable {t:List (List Int)}{o:List Nat}{w:W}{A:Hx}
noncomputable abbrev Sq (t:List (List Int)):Prop:=∀r∈t,r.length=t.length
end
end G
namespace Mi
open PySem L2
noncomputable def VW (t:List (List Int)):Bool:=decide (1<=t.length)&&(decide (t.length<=8)&&((t.all λ r=>r.length==t.length&&r.all λ v=>decide (0<=v)&&decide (v<(t.length:Int)))&&
 (((List.range t.length).all λ a=>(List.range t.length).all λ b=>(decide (at2 t a b=0)==decide (a=b))&&decide (at2 t a b=at2 t b a))&&(List.range 8).all λ k=>!(t.flatten.any λ v=>decide ((k:Int)<v)) || t.flatten.contains (k:Int))))
theorem Hh {t:List (List Int)}(h:VW t=true):qD t:=by
 unfold VW at h
 rw [Bool.and_eq_true,Bool.and_eq_true,Bool.and_eq_true,Bool.and_eq_true,decide_eq_true_iff,decide_eq_true_iff] at h
 obtain ⟨n1,n8,hr,hs,hf⟩:=h
 have rw_:∀r∈t,r.length=t.length/\∀v∈r,0<=v/\v<(t.length:Int):=λ r hm=>by
  have:=List.all_eq_true.mp hr r hm
  rw [Bool.and_eq_true,beq_iff_eq] at this
  refine ⟨this.1,λ v hv=>?_⟩
  have:=List.all_eq_true.mp this.2 v hv
  rw [Bool.and_eq_true,decide_eq_true_iff,decide_eq_true_iff] at this
  exact this
 have at_:∀a b,a<t.length->b<t.length->(decide (at2 t a b=0)==decide (a=b))=true/\at2 t a b=at2 t b a:=λ a b ha hb=>by
  have:=List.all_eq_true.mp (List.all_eq_true.mp hs a (List.mem_range.mpr ha)) b (List.mem_range.mpr hb)
  rw [Bool.and_eq_true,decide_eq_true_iff] at this
  exact this
 refine ⟨n1,n8,λ r hm=>(rw_ r hm).1,λ r hm=>(rw_ r hm).2,λ a b ha hb=>?_,λ a b ha hb=>(at_ a b ha hb).2,λ k hk=>?_⟩
 ·have:=beq_iff_eq.mp (at_ a b ha hb).1
  by_cases q:a=b
  ·rw [decide_eq_true q] at this;exact ⟨λ _=>q,λ _=>of_decide_eq_true this⟩
  ·rw [decide_eq_false q] at this;exact ⟨λ z=>absurd z (of_decide_eq_false this),λ z=>absurd z q⟩
 ·obtain ⟨v,hv,hlt⟩:=hk
  obtain ⟨r,hm,hv'⟩:=List.mem_flatten.mp hv
  have:=(rw_ r hm).2 v hv'
  have h8:=List.all_eq_true.mp hf k (List.mem_range.mpr (by omega))
  rw [Bool.or_eq_true] at h8
  rcases h8 with z | z
  ·exfalso
   have:(t.flatten.any λ v=>decide ((k:Int)<v))=true:=List.any_eq_true.mpr ⟨v,hv,decide_eq_true hlt⟩
   rw [this] at z
   cases z
  ·exact List.contains_iff_mem.mp z
end Mi
namespace G
open PySem L2 Mi
section
variable (A:Hx)
end
section
variable {ns:List Int}{Pt:Addr}{n:Nat}{A:Hx}{t:List (List Int)}
end
end G
namespace Mi
open PySem L2
structure Part (w:W):Prop where
 ty:∃ty,∀A,qW w A=some ty
 dt:∃d,∀A,qd A 7 w=some d
noncomputable def yv:W->Bool
 | .int _=>true
 | _=>false
inductive gm (A:Hx)(w:W):Prop
 | tup (ws:List W) (e:w=.tup ws) (hl:ws.length<=100) (h:∀x∈ws,Part x)
 | oth (ty:Ty) (h:qW w A=some ty) (hn:ty≠.tup)
inductive ZH (A:Hx)(w:W):Prop
 | tup (ws:List W) (e:w=.tup ws) (hl:ws.length<=100) (h:∀x∈ws,gm A x)
 | oth (ty:Ty) (h:qW w A=some ty) (hn:ty≠.tup)
noncomputable def Z8 (n:Nat)(w:W):Prop:=∃r:List Int,w=zy r/\r.length=n
noncomputable def JS (n:Nat)(w:W):Prop:=∃r:List Int,w=zy r/\r.length=n/\∀v∈r,0<=v/\v<(n:Int)
theorem all_ints:∀{ws:List W},ws.all yv=true->∃r:List Int,ws=r.map W.int
 | [],_=>⟨[],rfl⟩
 | w::ws,h=>by
  rw [List.all_cons,Bool.and_eq_true] at h
  obtain ⟨r,rfl⟩:=all_ints h.2
  cases w with
  | int i=>exact ⟨i::r,rfl⟩
  | _=>cases h.1
theorem TN (r:List Int):(r.map W.int).all yv=true:=by
 rw [List.all_map];exact List.all_eq_true.mpr λ _ _=>rfl
theorem Jr {α:Type}{A:Hx}(p:α->Bool)(l:List α):ZA (l.map λ x=>W.bl (p x)) A=.ok (.bl (l.all p)) A:=by
 show gU (λ ks=>ks.all id) _ A=_
 unfold gU
 rw [G3]
 dsimp only
 rw [List.all_map]
 rfl
theorem T5 {r s:List Int}(h:zy r=zy s):r=s:=by
 unfold zy at h
 injection h with h
 induction r generalizing s with
 | nil=>cases s with
  | nil=>rfl
  | cons _ _=>cases h
 | cons a r ih=>cases s with
  | nil=>cases h
  | cons b s=>
   simp only [List.map_cons,List.cons.injEq] at h
   injection h.1 with h1
   rw [h1,ih h.2]
theorem U9 {j:jq}{st:W->Ex}{N:Nat}{I:Nat->En->Hx->Prop}{p:Nat->Prop}{J:Hx->Prop}{w:W}
  (hs:∀i ρ A,i<N->I i ρ A->∃x,j.at_ A i=some (some x)/\((p i/\∃ρ' A',st x ρ A=.ok (.nx ρ') A'/\I (i+1) ρ' A')∨(¬p i/\∃A',st x ρ A=.ok (.rt w) A'/\J A')))
  (hend:∀ρ A,I N ρ A->j.at_ A N=some none):
  ∀(f i:Nat) (ρ:En) (A:Hx),i+f=N->I i ρ A->((∀k,i<=k->k<N->p k)/\∃ρ' A',jL j st f i ρ A=.ok (.nx ρ') A'/\I N ρ' A')∨((∃k,i<=k/\k<N/\¬p k)/\∃A',jL j st f i ρ A=.ok (.rt w) A'/\J A'):=by
 intro f
 induction f with
 | zero=>
  intro i ρ A h hI
  have:i=N:=by omega
  subst this
  exact .inl ⟨λ k h1 h2=>by omega,ρ,A,U8 (hend _ _ hI),hI⟩
 | succ f ih=>
  intro i ρ A h hI
  obtain ⟨x,h1,h2⟩:=hs i ρ A (by omega) hI
  rcases h2 with ⟨hp,ρ',A',e,hI'⟩ | ⟨hp,A',e,hJ⟩
  ·rw [Sd h1 e]
   rcases ih (i+1) ρ' A' (by omega) hI' with ⟨q,r⟩ | ⟨⟨k,q1,q2,q3⟩,r⟩
   ·refine .inl ⟨λ k k1 k2=>?_,r⟩
    by_cases z:k=i
    ·rw [z];exact hp
    ·exact q k (by omega) k2
   ·exact .inr ⟨⟨k,by omega,q2,q3⟩,r⟩
  ·exact .inr ⟨⟨i,Nat.le_refl _,by omega,hp⟩,A',Ib h1 e,hJ⟩
noncomputable def K7 (t:List (List Int)):Prop:=∀a,a<t.length->∀b,b<t.length->(at2 t a b=0↔a=b)/\at2 t a b=at2 t b a
noncomputable def Wa (t:List (List Int)):Prop:=∀k:Nat,(∃v∈t.flatten,(k:Int)<v)->(k:Int)∈t.flatten
structure Qe (t:List (List Int)):Prop where
 n1:1<=t.length
 n8:t.length<=8
 sq:∀r∈t,r.length=t.length
 lo:∀r∈t,∀v∈r,0<=v/\v<(t.length:Int)
noncomputable def IsT (w:W):Prop:=∃t,qD t/\w=zC t
theorem Qe.tab {t:List (List Int)}(h:Qe t)(e:K7 t)(f:Wa t):qD t:=⟨h.n1,h.n8,h.sq,h.lo,λ a b ha hb=>(e a ha b hb).1,λ a b ha hb=>(e a ha b hb).2,f⟩
theorem LC {s t:List (List Int)}(h:zC s=zC t):s=t:=by
 unfold zC at h
 injection h with h
 induction s generalizing t with
 | nil=>cases t with
  | nil=>rfl
  | cons _ _=>cases h
 | cons a r ih=>cases t with
  | nil=>cases h
  | cons b s=>
   simp only [List.map_cons,List.cons.injEq] at h
   rw [T5 h.1,ih h.2]
theorem IW {t:List (List Int)}(h:Qe t):IsT (zC t)↔K7 t/\Wa t:=by
 constructor
 ·rintro ⟨s,hs,e⟩
  obtain rfl:=LC e
  exact ⟨λ a ha b hb=>⟨hs.dg a b ha hb,hs.sy a b ha hb⟩,hs.fu⟩
 ·rintro ⟨e,f⟩
  exact ⟨t,h.tab e f,rfl⟩
theorem Hl {ws:List W}(h1:1<=ws.length)(h8:ws.length<=8)(h:∀w∈ws,JS ws.length w):∃t,Qe t/\ws=t.map zy:=by
 have:∀(n:Nat) (ws:List W),(∀w∈ws,JS n w)->∃t:List (List Int),ws=t.map zy/\∀r∈t,r.length=n/\∀v∈r,0<=v/\v<(n:Int):=by
  intro n ws
  induction ws with
  | nil=>intro _;exact ⟨[],rfl,λ _ h=>by cases h⟩
  | cons w ws ih=>
   intro h
   obtain ⟨r,e,hl,hv⟩:=h w (List.mem_cons_self ..)
   obtain ⟨t,e2,ht⟩:=ih λ x hx=>h x (List.mem_cons_of_mem _ hx)
   refine ⟨r::t,by rw [e,e2];rfl,λ s hs=>?_⟩
   rcases List.mem_cons.mp hs with rfl | hs
   ·exact ⟨hl,hv⟩
   ·exact ht s hs
 obtain ⟨t,e,ht⟩:=this ws.length ws h
 have hl:ws.length=t.length:=by rw [e,List.length_map]
 rw [hl] at h1 h8 ht
 exact ⟨t,⟨h1,h8,λ r hr=>(ht r hr).1,λ r hr=>(ht r hr).2⟩,e⟩
theorem Yy {ws:List W}(h:IsT (.tup ws)):1<=ws.length/\ws.length<=8/\∀w∈ws,JS ws.length w:=by
 obtain ⟨t,ht,e⟩:=h
 unfold zC at e
 injection e with e
 subst e
 rw [List.length_map]
 refine ⟨ht.n1,ht.n8,λ w hw=>?_⟩
 obtain ⟨r,hr,rfl⟩:=List.mem_map.mp hw
 exact ⟨r,rfl,ht.sq r hr,ht.lo r hr⟩
end Mi
namespace G
open PySem L2 Mi
theorem HG {w:W}(h:Part w)(A:Hx):wO [w] A=.ok (.bl (yv w)) A:=by
 obtain ⟨ty,h⟩:=h.ty
 unfold wO GF
 cases w with
 | ref n=>have:=h [];simp [qW] at this
 | clo _ _ _=>have:=h [];simp [qW] at this
 | xc _=>have:=h [];simp [qW] at this
 | _=>exact qy (A1:=A) rfl
theorem Km {ty:Ty}(h:ty≠.tup):ym ty .tup=false:=by
 cases ty<;>first | rfl | exact absurd rfl h
theorem gc {m:Ev}{ρ:En}{A A1:Hx}{w:W}{ty c:Ty}(h:m ρ A=.ok w A1)(ht:qW w A1=some ty):jW c m ρ A=.ok (.bl (ym ty c)) A1:=by
 unfold jW
 rw [h,zJ,ht]
theorem Zw {ws:List W}{ρ:En}{i:Nat}{A:Hx}(h:ρ[i]? =some (some (.tup ws))):mQ qK (qa (zh i)) ρ A=.ok (.int ws.length) A:=by
 rw [yA (ka (w:=.tup ws) (A1:=A) (zw h) rfl)]
 rfl
theorem Ie {w:W}{A:Hx}(h:gm A w)(n:Nat):∃b,yw [w,.int n] A=.ok (.bl b) A/\(b=true↔Z8 n w):=by
 unfold yw Gu
 unfold Yh
 cases h with
 | oth ty ht hn=>
  refine ⟨false,qy (qe (qC (gM ((gc (A1:=A) (zw (i:=0) rfl) ht).trans (by rw [Km hn]))))),?_⟩
  refine ⟨λ z=>(by cases z),?_⟩
  rintro ⟨r,rfl,_⟩
  simp [zy,qW] at ht
  exact absurd ht.symm hn
 | tup ws e hl hp=>
  subst e
  have el:=Zw (ws:=ws) (ρ:=[some (.tup ws),some (.int n)]) (i:=0) (A:=A) rfl
  have e1:=(zL el (zw (ρ:=[some (.tup ws),some (.int n)]) (A:=A) (i:=1) rfl)).trans (Qi _ _ _)
  have e0:jW .tup (zh 0) [some (.tup ws),some (.int n)] A=.ok (.bl true) A:=rfl
  by_cases q:ws.length=n
  ·have ec:=Xc (cap:=[]) (A:=A) (ρ:=[some (.tup ws),some (.int n)]) (ws:=ws) (me:=zD wO (zc (zh 0) (zj))) (g:=λ w=>.bl (yv w)) (zw (i:=0) rfl) (by unfold zW;omega) (λ w hw=>(qm (ws:=[w]) (A1:=A) rfl).trans (HG (hp w hw) A))
   refine ⟨ws.all yv,qy (qe (qC ((kX e0).trans ((kX (e1.trans (by rw [decide_eq_true (by omega)]))).trans ((yA ec).trans (Jr yv ws)))))),?_⟩
   constructor
   ·intro z
    obtain ⟨r,rfl⟩:=all_ints z
    rw [List.length_map] at q
    exact ⟨r,rfl,q⟩
   ·rintro ⟨r,e,_⟩
    unfold zy at e
    injection e with e
    rw [e]
    exact TN r
  ·refine ⟨false,qy (qe (qC ((kX e0).trans (gM (e1.trans (by rw [decide_eq_false (by omega)])))))),?_⟩
   refine ⟨λ z=>(by cases z),?_⟩
   rintro ⟨r,e,hr⟩
   unfold zy at e
   injection e with e
   rw [e,List.length_map] at q
   exact absurd hr q
theorem HP {ρ:En}{A:Hx}{me:Ev}{v n:Int}{i:Nat}(hi:ρ[i]? =some (some (.int v)))(hn:me ρ A=.ok (.int n) A):yu kB Q2 (zi (.int 0)) (zh i) me ρ A=.ok (.bl (decide (0<=v)&&decide (v<n))) A:=by
 unfold yu
 rw [qN,zJ,zw hi,zJ]
 show R.bind (R.ok (W.bl (decide ((0:Int)<=v))) A) _=_
 by_cases h:0<=v
 ·rw [decide_eq_true h,zJ]
  dsimp only
  rw [hn,zJ]
  rfl
 ·rw [decide_eq_false h,zJ]
  rfl
theorem HI {w:W}{A:Hx}(h:gm A w)(n:Nat):∃b,ZI [w,.int n,.int n] A=.ok (.bl b) A/\(b=true↔JS n w):=by
 obtain ⟨b,e,hb⟩:=Ie h n
 unfold ZI Ux
 unfold Wi
 have e0:zD yw (zc (zh 0) (zc (zh 1) (zj))) [some w,some (.int n),some (.int n)] A=.ok (.bl b) A:=(qm (ws:=[w,.int n]) (A1:=A) rfl).trans e
 cases b with
 | false=>
  refine ⟨false,qy (qe (qC (gM e0))),λ z=>(by cases z),?_⟩
  rintro ⟨r,e1,e2,_⟩
  exact hb.mpr ⟨r,e1,e2⟩
 | true=>
  obtain ⟨r,rfl,hr⟩:=hb.mp rfl
  have hl:r.length<=100:=by
   cases h with
   | tup ws e hl _=>unfold zy at e;injection e with e;rw [<- e,List.length_map] at hl;exact hl
   | oth ty ht hn=>simp [zy,qW] at ht;exact absurd ht.symm hn
  have ec:=Jg (cap:=[2]) (A:=A) (ρ:=[some (zy r),some (.int n),some (.int n)]) (o:=r) (f:=W.int) (m:=zh 0) (me:=yu kB Q2 (zi (.int 0)) (zh 0) (zh 1)) (G:=λ v=>.bl (decide (0<=v)&&decide (v<(n:Int)))) (zw (i:=0) rfl) (by unfold zW;omega) (λ v hv=>HP rfl (zw rfl))
  refine ⟨_,qy (qe (qC ((kX e0).trans ((yA ec).trans (Jr (λ v=>decide (0<=v)&&decide (v<(n:Int))) r))))),?_⟩
  rw [List.all_eq_true]
  constructor
  ·intro z
   exact ⟨r,rfl,hr,λ v hv=>by have:=z v hv;simp at this;exact this⟩
  ·rintro ⟨s,e,_,hs⟩ v hv
   obtain rfl:=T5 e
   have:=hs v hv
   simp
   exact this
theorem Fw {p q:Prop}{a b:Bool}(h1:a=true↔p)(h2:b=true↔q):(a&&b)=true↔p/\q:=by
 rw [Bool.and_eq_true,h1,h2]
theorem Eh {t:List (List Int)}(h:Qe t)(A:Hx):∃b,Jf [zC t] A=.ok (.bl b) A/\(b=true↔K7 t):=by
 suffices z:∃b A1,Td [zC t] []=.ok (.bl b) A1/\(b=true↔K7 t) by
  obtain ⟨b,A1,e,hb⟩:=z
  exact ⟨b,w6 (by show ((zC t).nr&&true)=true;rw [gL];rfl) rfl e,hb⟩
 have hlen:(t.map zy).length=t.length:=List.length_map ..
 rcases U9 (N:=t.length) (p:=λ a=>∀b,b<t.length->(at2 t a b=0↔a=b)/\at2 t a b=at2 t b a) (J:=λ _=>True) (w:=.bl false) (I:=λ _ ρ A=>A=[]/\∃y1 y2 y3 y4,ρ=[some (zC t),y1,y2,y3,y4])
  (j:=wd (zC t) (t.map zy).length) (st:=turn (wa 1 2) (zr (kJ (QN (zh 2)) (wa 3 4) (zr (qB (kA (zp jg (zp jl (zh 4) (zi (.int 0))) (zp jl (zh 1) (zh 3))) (zp jg (zp zG (zp zG (zh 0) (zh 3)) (zh 1)) (zh 4))) (zr (zZ (zi (.bl false))) (zA)) (zA)) (zA))) (zA)))
  (λ a ρ A ha ⟨hA,hρ⟩=>by
   subst hA
   obtain ⟨y1,y2,y3,y4,rfl⟩:=hρ
   have hrl:=h.sq _ (kW ha)
   have hl2:((t.getD a []).map W.int).length=t.length:=by rw [List.length_map,hrl]
   refine ⟨_,RJ (XX ha),?_⟩
   rcases U9 (N:=t.length) (p:=λ b=>(at2 t a b=0↔a=b)/\at2 t a b=at2 t b a) (J:=λ _=>True) (w:=.bl false) (I:=λ _ ρ A=>A=[]/\∃y3 y4,ρ=[some (zC t),some (.int a),some (zy (t.getD a [])),y3,y4])
    (j:=wd (zy (t.getD a [])) ((t.getD a []).map W.int).length) (st:=turn (wa 3 4) (zr (qB (kA (zp jg (zp jl (zh 4) (zi (.int 0))) (zp jl (zh 1) (zh 3))) (zp jg (zp zG (zp zG (zh 0) (zh 3)) (zh 1)) (zh 4))) (zr (zZ (zi (.bl false))) (zA)) (zA)) (zA)))
    (λ b ρ A hb ⟨hA,hρ⟩=>by
     subst hA
     obtain ⟨y3,y4,rfl⟩:=hρ
     have hbl:=h.sq _ (kW hb)
     refine ⟨_,RJ (int_at (by omega)),?_⟩
     have e1:zp jg (zp jl (zh 4) (zi (.int 0))) (zp jl (zh 1) (zh 3)) [some (zC t),some (.int a),some (zy (t.getD a [])),some (.int b),some (.int ((t.getD a []).getD b 0))] []=.ok (.bl (!(decide (at2 t a b=0)==decide ((a:Int)=b)))) []:=
      (zL ((zL (zw (i:=4) rfl) (qN (w:=.int 0))).trans (Qi _ _ _)) ((zL (zw (i:=1) rfl) (zw (i:=3) rfl)).trans (Qi _ _ _))).trans (Bc _ _ _)
     have e2:zp jg (zp zG (zp zG (zh 0) (zh 3)) (zh 1)) (zh 4) [some (zC t),some (.int a),some (zy (t.getD a [])),some (.int b),some (.int ((t.getD a []).getD b 0))] []=.ok (.bl (!decide (at2 t b a=at2 t a b))) []:=
      (zL ((zL ((zL (zw (i:=0) rfl) (zw (i:=3) rfl)).trans (Rn hb)) (zw (i:=1) rfl)).trans (Kf (by omega))) (zw (i:=4) rfl)).trans (Uc _ _ _)
     by_cases q1:at2 t a b=0↔a=b
     ·have e1':(!(decide (at2 t a b=0)==decide ((a:Int)=b)))=false:=by
       have:decide (at2 t a b=0)=decide ((a:Int)=b):=decide_eq_decide.mpr (q1.trans ⟨λ z=>by omega,λ z=>by omega⟩)
       rw [this];simp
      rw [e1'] at e1
      by_cases q2:at2 t a b=at2 t b a
      ·have e2':(!decide (at2 t b a=at2 t a b))=false:=by rw [decide_eq_true q2.symm];rfl
       rw [e2'] at e2
       exact .inl ⟨⟨q1,q2⟩,_,[],(gK rfl).trans ((zM ((j3 (A1:=[]) ((Z7 e1).trans e2)).trans j8)).trans j8),rfl,_,_,rfl⟩
      ·have e2':(!decide (at2 t b a=at2 t a b))=true:=by rw [decide_eq_false (λ z=>q2 z.symm)];rfl
       rw [e2'] at e2
       exact .inr ⟨λ z=>q2 z.2,[],(gK rfl).trans (qe ((yW (A1:=[]) ((Z7 e1).trans e2)).trans (qe (qC qN)))),trivial⟩
     ·have e1':(!(decide (at2 t a b=0)==decide ((a:Int)=b)))=true:=by
       have:decide (at2 t a b=0)≠decide ((a:Int)=b):=λ z=>q1 ((decide_eq_decide.mp z).trans ⟨λ z=>by omega,λ z=>by omega⟩)
       rw [Bool.not_eq_true',beq_eq_false_iff_ne];exact this
      rw [e1'] at e1
      exact .inr ⟨λ z=>q1 z.1,[],(gK rfl).trans (qe ((yW (A1:=[]) (Vp e1)).trans (qe (qC qN)))),trivial⟩)
    (λ ρ A _=>by have:=RC (A:=A) (ws:=(t.getD a []).map W.int);rw [hl2] at this ⊢;exact this) t.length 0 [some (zC t),some (.int a),some (zy (t.getD a [])),y3,y4] [] (by omega) ⟨rfl,_,_,rfl⟩ with ⟨q,ρ',A',e,rfl,z3,z4,hz⟩ | ⟨⟨k,_,k2,k3⟩,A',e,_⟩
   ·rw [hz] at e
    refine .inl ⟨λ b hb=>q b (Nat.zero_le _) hb,[some (zC t),some (.int a),some (zy (t.getD a [])),z3,z4],[],(gK rfl).trans ((zM ((Zm (Yv (zw (i:=2) rfl))).trans ?_)).trans j8),rfl,_,_,_,_,rfl⟩
    ·show jL (wd (zy (t.getD a [])) ((t.getD a []).map W.int).length) _ ((t.getD a []).map W.int).length 0 _ _=_
     rw [hl2] at e ⊢
     exact e
   ·refine .inr ⟨λ z=>k3 (z k k2),A',(gK rfl).trans (qe ((Zm (Yv (zw (i:=2) rfl))).trans ?_)),trivial⟩
    show jL (wd (zy (t.getD a [])) ((t.getD a []).map W.int).length) _ ((t.getD a []).map W.int).length 0 _ _=_
    rw [hl2] at e ⊢
    exact e)
  (λ ρ A _=>by have:=RC (A:=A) (ws:=t.map zy);rw [hlen] at this ⊢;exact this) t.length 0 [some (zC t),none,none,none,none] [] (by omega) ⟨rfl,_,_,_,_,rfl⟩ with ⟨q,ρ',A',e,_⟩ | ⟨⟨k,_,k2,k3⟩,A',e,_⟩
 ·refine ⟨true,A',qy ?_,λ _=>λ a ha=>q a (Nat.zero_le _) ha,λ _=>rfl⟩
  unfold Yw
  refine (zM (ρ1:=ρ') (A1:=A') ((Zm (Yv (zw (i:=0) rfl))).trans ?_)).trans (qe (qC qN))
  show jL (wd (zC t) (t.map zy).length) _ (t.map zy).length 0 _ _=_
  rw [hlen] at e ⊢
  exact e
 ·refine ⟨false,A',qy ?_,λ z=>(by cases z),λ z=>absurd (z k k2) k3⟩
  unfold Yw
  refine qe ((Zm (Yv (zw (i:=0) rfl))).trans ?_)
  show jL (wd (zC t) (t.map zy).length) _ (t.map zy).length 0 _ _=_
  rw [hlen] at e ⊢
  exact e
end G
namespace Mi
open PySem L2
theorem UX:∀(l m:List Int),PyData.eqvAll (l.map PyData.int) (m.map PyData.int)=decide (l=m)
 | [],[]=>by simp [PyData.eqvAll]
 | [],_::_=>by simp [PyData.eqvAll]
 | _::_,[]=>by simp [PyData.eqvAll]
 | a::l,b::m=>by
  simp only [List.map_cons,PyData.eqvAll,UX l m,PyData.eqv]
  rw [Bool.eq_iff_iff]
  simp
theorem G2 {A:Hx}{n:Nat}:∀l:List Int,j4 (qd A n) (l.map W.int)=some (l.map PyData.int)
 | []=>rfl
 | i::l=>by
  have:qd A n (.int i)=some (.int i):=by cases n<;>rfl
  show (match qd A n (.int i),j4 (qd A n) (l.map W.int) with | some d,some ds=>some (d::ds) | _,_=>none)=_
  rw [this,G2 l]
  rfl
theorem Kj {A:Hx}{r:Nat}{l:List Int}(h:A[r]? =some (.lst (l.map W.int))):qd A 8 (.ref r)=some (.list (l.map PyData.int)):=by
 show (match zU (.ref r) A with | some ws=>(j4 (qd A 7) ws).map PyData.list | none=>none)=_
 have:zU (.ref r) A=some (l.map W.int):=by unfold zU;dsimp only;rw [h]
 rw [this]
 dsimp only
 rw [G2]
 rfl
end Mi
namespace G
open PySem L2 Mi
theorem N7 {t:List (List Int)}(h:Qe t):t.flatten.length<=64:=by
 have:∀l:List (List Int),(∀r∈l,r.length<=8)->l.flatten.length<=8 * l.length:=by
  intro l
  induction l with
  | nil=>intro _;simp
  | cons r l ih=>
   intro hr
   have h1:=hr r (List.mem_cons_self ..)
   have h2:=ih λ r' hr'=>hr r' (List.mem_cons_of_mem _ hr')
   rw [List.flatten_cons,List.length_append,List.length_cons]
   omega
 have h8:=h.n8
 have:=this t λ r hr=>by rw [h.sq r hr];exact h.n8
 omega
theorem HJ {t:List (List Int)}(h:Qe t)(A:Hx):∃b,Q4 [zC t] A=.ok (.bl b) A/\(b=true↔Wa t):=by
 have hfl:=N7 h
 have hne:t.flatten≠[]:=by
  intro e
  have h1:=h.n1
  have hr:=h.sq _ (kW (t:=t) (a:=0) (by omega))
  have:t.getD 0 []=[]:=by
   have:=List.flatten_eq_nil_iff.mp e _ (kW (t:=t) (a:=0) (by omega))
   exact this
  rw [this] at hr
  simp at hr
  omega
 obtain ⟨v0,l0,el⟩:=List.exists_cons_of_ne_nil hne
 suffices z:∃b,Uv [zC t] []=.ok (.bl b) [.lst (t.flatten.map W.int)]/\(b=true↔Wa t) by
  obtain ⟨b,e,hb⟩:=z
  exact ⟨b,w6 (by show ((zC t).nr&&true)=true;rw [gL];rfl) rfl e,hb⟩
 have hmax:jF l0 v0∈t.flatten:=by
  rw [el]
  rcases G4 l0 v0 with e | e
  ·rw [e];exact List.mem_cons_self ..
  ·exact List.mem_cons_of_mem _ e
 have hge:∀v∈t.flatten,v<=jF l0 v0:=by
  rw [el]
  intro v hv
  have:=Jq l0 v0
  rcases List.mem_cons.mp hv with rfl | hv
  ·exact this.1
  ·exact this.2 v hv
 have hb:0<=jF l0 v0/\jF l0 v0<8:=by
  obtain ⟨r,hr,hv⟩:=List.mem_flatten.mp hmax
  have:=h.lo r hr _ hv
  have:=h.n8
  omega
 have em:mQ jU (qa (zh 1)) [some (zC t),some (.ref 0)] [.lst (t.flatten.map W.int)]=.ok (.int (jF l0 v0)) [.lst (t.flatten.map W.int)]:=by
  rw [yA (ka (w:=.ref 0) (A1:=[.lst (t.flatten.map W.int)]) (ws:=t.flatten.map W.int) (zw rfl) rfl)]
  unfold jU
  rw [Yk,el]
 generalize jF l0 v0=M at em hmax hb hge
 obtain ⟨K,rfl⟩:=Int.eq_ofNat_of_zero_le hb.1
 have ec:=Qt (cap:=[1]) (me:=zp K6 (zh 0) (zh 1)) (ρ:=[some (zC t),some (.ref 0)]) (A:=[.lst (t.flatten.map W.int)]) (N:=K) (j:=yU 0 K) (item:=λ i=>.int (0+i)) (g:=λ (i:Nat)=>.bl (decide ((i:Int)∈t.flatten)))
  ((Jl em (by unfold jz;simp;omega)).trans (by rw [Int.toNat_natCast])) rfl (by unfold zW;omega) (λ i hi=>ZY hi) (ZT (by omega))
  (λ i hi=>by
   refine (zL (zw (i:=0) (w:=.int (0+i)) rfl) (zw (i:=1) (w:=.ref 0) rfl)).trans ?_
   show Qh false _ _ _=_
   unfold Qh
   have hs:zU (.ref 0) [O.lst (t.flatten.map W.int)]=some (t.flatten.map W.int):=rfl
   rw [hs]
   dsimp only
   have hf:(k9 (.int (0+(i:Int)))&&(t.flatten.map W.int).all k9)=true:=by
    have:(t.flatten.map W.int).all k9=true:=List.all_eq_true.mpr λ w hw=>by obtain ⟨x,_,rfl⟩:=List.mem_map.mp hw;rfl
    rw [this];rfl
   rw [if_pos hf]
   have hin:QZ (.int (0+(i:Int))) (t.flatten.map W.int)=decide ((i:Int)∈t.flatten):=by
    rw [Bool.eq_iff_iff,decide_eq_true_iff]
    unfold QZ
    rw [List.any_eq_true]
    constructor
    ·rintro ⟨w,hw,e⟩
     obtain ⟨x,hx,rfl⟩:=List.mem_map.mp hw
     have:(x==0+(i:Int))=true:=e
     have:x=0+(i:Int):=eq_of_beq this
     rw [Int.zero_add] at this
     exact this ▸ hx
    ·intro z
     refine ⟨.int i,List.mem_map.mpr ⟨(i:Int),z,rfl⟩,?_⟩
     show ((i:Int)==0+(i:Int))=true
     rw [Int.zero_add];exact beq_self_eq_true _
   rw [hin]
   rfl)
 refine ⟨(List.range K).all λ (i:Nat)=>decide ((i:Int)∈t.flatten),qy ?_,?_⟩
 ·unfold Wd
  refine (zM (ρ1:=[some (zC t),some (.ref 0)]) (A1:=[.lst (t.flatten.map W.int)]) ((qO (kU (IU (zw rfl) (by unfold zW;omega)))).trans rfl)).trans (qe (qC ?_))
  exact (yA ec).trans (Jr _ _)
 ·rw [List.all_eq_true]
  constructor
  ·rintro z k ⟨v,hv,hk⟩
   have:=hge v hv
   exact of_decide_eq_true (z k (List.mem_range.mpr (by omega)))
  ·intro z k hk
   have:=List.mem_range.mp hk
   exact decide_eq_true (z k ⟨_,hmax,by omega⟩)
theorem Fu {ρ:En}{A:Hx}{me:Ev}{n:Nat}(hn:me ρ A=.ok (.int n) A):yu kB kB (zi (.int 1)) me (zi (.int 8)) ρ A=.ok (.bl (decide (1<=n)&&decide (n<=8))) A:=by
 unfold yu
 rw [qN,zJ,hn,zJ]
 show R.bind (R.ok (W.bl (decide ((1:Int)<=n))) A) _=_
 by_cases h:1<=n
 ·rw [decide_eq_true (show (1:Int)<=n by omega),zJ,decide_eq_true h]
  dsimp only
  rw [qN,zJ]
  show R.ok (W.bl (decide ((n:Int)<=8))) A=_
  rw [Bool.true_and]
  congr 2
  exact decide_eq_decide.mpr ⟨λ z=>by omega,λ z=>by omega⟩
 ·rw [decide_eq_false (show ¬(1:Int)<=n by omega),zJ,decide_eq_false h]
  rfl
theorem HW {w:W}{A:Hx}{ρ:En}(h:ZH A w)(h0:ρ[0]? =some (some w)):(kA (jd (jW .tup (zh 0))) (jd (yu kB kB (zi (.int 1)) (mQ qK (qa (zh 0))) (zi (.int 8)))) ρ A=.ok (.bl true) A/\¬IsT w)∨
  (∃ws,w=.tup ws/\1<=ws.length/\ws.length<=8/\(∀x∈ws,gm A x)/\kA (jd (jW .tup (zh 0))) (jd (yu kB kB (zi (.int 1)) (mQ qK (qa (zh 0))) (zi (.int 8)))) ρ A=.ok (.bl false) A):=by
 cases h with
 | oth ty ht hn=>
  refine .inl ⟨Vp (yJ (k:=false) ((gc (zw h0) ht).trans (by rw [Km hn]))),?_⟩
  rintro ⟨t,_,rfl⟩
  simp [zC,qW] at ht
  exact absurd ht.symm hn
 | tup ws e hl hr=>
  subst e
  have e0:jd (jW .tup (zh 0)) ρ A=.ok (.bl false) A:=yJ (k:=true) ((gc (zw h0) rfl).trans rfl)
  have e1:=yJ (Fu (Zw (A:=A) h0))
  by_cases q:1<=ws.length/\ws.length<=8
  ·refine .inr ⟨ws,rfl,q.1,q.2,hr,(Z7 e0).trans (e1.trans ?_)⟩
   rw [decide_eq_true q.1,decide_eq_true q.2];rfl
  ·refine .inl ⟨(Z7 e0).trans (e1.trans ?_),λ z=>q ⟨(Yy z).1,(Yy z).2.1⟩⟩
   by_cases q1:1<=ws.length
   ·rw [decide_eq_true q1,decide_eq_false λ z=>q ⟨q1,z⟩];rfl
   ·rw [decide_eq_false q1];rfl
theorem pick {α:Type}{P:α->Bool->Prop}{l:List α}(h:∀x∈l,∃b,P x b):∃f:α->Bool,∀x∈l,P x (f x):=by
 classical
 refine ⟨λ x=>if hx:x∈l then (h x hx).choose else false,λ x hx=>?_⟩
 have:(if hx:x∈l then (h x hx).choose else false)=(h x hx).choose:=dif_pos hx
 show P x (if hx:x∈l then (h x hx).choose else false)
 rw [this]
 exact (h x hx).choose_spec
theorem XD {w:W}{A:Hx}(h:ZH A w):∃b,wQ [w] A=.ok (.bl b) A/\(b=true↔IsT w):=by
 unfold wQ U3
 unfold GQ
 rcases HW (ρ:=[some w,none]) h rfl with ⟨e,hn⟩ | ⟨ws,rfl,h1,h8,hr,e⟩
 ·exact ⟨false,qy (qe ((yW e).trans (qe (qC qN)))),λ z=>(by cases z),λ z=>absurd z hn⟩
 ·obtain ⟨f,hf⟩:=pick λ x hx=>HI (hr x hx) ws.length
  have ec:=Xc (cap:=[1]) (A:=A) (ρ:=[some (.tup ws),some (.int ws.length)]) (ws:=ws) (me:=zD ZI (zc (zh 0) (zc (zh 1) (zc (zh 1) (zj))))) (g:=λ x=>.bl (f x)) (zw (i:=0) rfl) (by unfold zW;omega) (λ x hx=>(qm (ws:=[x,.int ws.length,.int ws.length]) (A1:=A) rfl).trans (hf x hx).1)
  have ea:=yJ ((yA ec).trans (Jr f ws))
  have go:∀(m1 m2 m3:Ex) (c:Ev),zr (qB (kA (jd (jW .tup (zh 0))) (jd (yu kB kB (zi (.int 1)) (mQ qK (qa (zh 0))) (zi (.int 8))))) m1 zA) (zr (zT 1 (mQ qK (qa (zh 0)))) m2) [some (.tup ws),none] A=m2 [some (.tup ws),some (.int ws.length)] A:=λ m1 m2 m3 c=>
   (zM ((j3 e).trans j8)).trans (zM ((qO (Zw rfl)).trans rfl))
  by_cases q:ws.all f=true
  ·rw [q] at ea
   have hg:∀x∈ws,JS ws.length x:=λ x hx=>(hf x hx).2.mp (List.all_eq_true.mp q x hx)
   obtain ⟨t,gt,et⟩:=Hl h1 h8 hg
   have ew:W.tup ws=zC t:=by rw [et];rfl
   obtain ⟨b1,e1,k1⟩:=Eh gt A
   obtain ⟨b2,e2,k2⟩:=HJ gt A
   refine ⟨b1&&b2,qy ((go _ _ zA ZE).trans ((zM ((j3 ea).trans j8)).trans (qe (qC ?_)))),?_⟩
   ·rw [ew]
    cases b1 with
    | true=>exact (kX ((qm (ws:=[zC t]) (A1:=A) rfl).trans e1)).trans ((qm (ws:=[zC t]) (A1:=A) rfl).trans e2)
    | false=>exact gM ((qm (ws:=[zC t]) (A1:=A) rfl).trans e1)
   ·rw [ew,IW gt]
    exact Fw k1 k2
  ·have q':ws.all f=false:=by cases h:ws.all f<;>simp_all
   rw [q'] at ea
   refine ⟨false,qy ((go _ _ zA ZE).trans (qe ((yW ea).trans (qe (qC qN))))),λ z=>(by cases z),λ z=>?_⟩
   exact absurd (List.all_eq_true.mpr λ x hx=>(hf x hx).2.mpr ((Yy z).2.2 x hx)) q
end G
namespace Mi
open PySem L2
noncomputable def Ky (A B:Hx):Prop:=∀w ty,qW w A=some ty->qW w B=some ty
theorem Ext.ky {A B:Hx}(x:Ext A B):Ky A B:=λ w ty h=>by
 cases w with
 | ref n=>
  unfold qW at h ⊢
  dsimp only at h ⊢
  cases e:A[n]? with
  | none=>rw [e] at h;cases h
  | some o=>rw [e] at h;rw [x.at e];exact h
 | _=>exact h
theorem gm.mono {A B:Hx}{w:W}(k:Ky A B)(h:gm A w):gm B w:=by
 cases h with
 | tup ws e hl h=>exact .tup ws e hl h
 | oth ty h hn=>exact .oth ty (k _ _ h) hn
theorem ZH.mono {A B:Hx}{w:W}(k:Ky A B)(h:ZH A w):ZH B w:=by
 cases h with
 | tup ws e hl h=>exact .tup ws e hl λ x hx=>(h x hx).mono k
 | oth ty h hn=>exact .oth ty (k _ _ h) hn
end Mi
namespace G
open PySem L2 Mi
section
variable {t:List (List Int)}{A B:Hx}{D a b:Nat}
end
end G
namespace Mi
open PySem L2
theorem Qy (i:Int):Part (.int i):=⟨⟨.int,λ _=>rfl⟩,⟨.int i,λ _=>rfl⟩⟩
theorem Sf (r:List Int):Part (zy r):=⟨⟨.tup,λ _=>rfl⟩,⟨.tuple (r.map PyData.int),λ A=>by
 show (j4 (qd A 6) (r.map W.int)).map PyData.tuple=_
 rw [G2];rfl⟩⟩
theorem Iq {A:Hx}{r:List Int}(h:r.length<=100):gm A (zy r):=.tup (r.map W.int) rfl (by rw [List.length_map];exact h) λ x hx=>by
 obtain ⟨v,_,rfl⟩:=List.mem_map.mp hx
 exact Qy v
noncomputable def Vk:W->Bool
 | .non=>true
 | .bl _=>true
 | .int _=>true
 | .str x=>PyData.strOk x
 | .tup ws=>ws.all yv
 | _=>false
theorem part_of {w:W}(h:Vk w=true):Part w:=by
 cases w with
 | non=>exact ⟨⟨_,λ _=>rfl⟩,⟨_,λ _=>rfl⟩⟩
 | bl b=>exact ⟨⟨_,λ _=>rfl⟩,⟨_,λ _=>rfl⟩⟩
 | int i=>exact Qy i
 | str x=>exact ⟨⟨_,λ _=>rfl⟩,⟨.str x,λ A=>by show (if PyData.strOk x then some (PyData.str x) else none)=_;have h:PyData.strOk x=true:=h;rw [if_pos h]⟩⟩
 | tup ws=>
  obtain ⟨r,rfl⟩:=all_ints h
  exact Sf r
 | _=>cases h
noncomputable def VV:W->Bool
 | .non=>true
 | .bl _=>true
 | .int _=>true
 | .str _=>true
 | .tup ws=>decide (ws.length<=100)&&ws.all Vk
 | _=>false
theorem Fm {A:Hx}{w:W}(h:VV w=true):gm A w:=by
 cases w with
 | tup ws=>
  have h:(decide (ws.length<=100)&&ws.all Vk)=true:=h
  rw [Bool.and_eq_true] at h
  exact .tup ws rfl (of_decide_eq_true h.1) λ x hx=>part_of (List.all_eq_true.mp h.2 x hx)
 | non=>exact .oth .non rfl (by decide)
 | bl b=>exact .oth .bl rfl (by decide)
 | int b=>exact .oth .int rfl (by decide)
 | str b=>exact .oth .str rfl (by decide)
 | _=>cases h
noncomputable def Ug:W->Bool
 | .non=>true
 | .bl _=>true
 | .int _=>true
 | .str _=>true
 | .tup ws=>decide (ws.length<=100)&&ws.all VV
 | _=>false
theorem Ru {A:Hx}{w:W}(h:Ug w=true):ZH A w:=by
 cases w with
 | tup ws=>
  have h:(decide (ws.length<=100)&&ws.all VV)=true:=h
  rw [Bool.and_eq_true] at h
  exact .tup ws rfl (of_decide_eq_true h.1) λ x hx=>Fm (List.all_eq_true.mp h.2 x hx)
 | non=>exact .oth .non rfl (by decide)
 | bl b=>exact .oth .bl rfl (by decide)
 | int b=>exact .oth .int rfl (by decide)
 | str b=>exact .oth .str rfl (by decide)
 | _=>cases h
section
variable {m:Ev}{a:Ea}{ρ:En}{k:Nat}{w:W}
theorem XZ {A:Hx}{ws:List W}:qW (.ref A.length) (A++[.lst ws])=some .lst:=by
 unfold qW
 dsimp only
 rw [je]
end
structure Kn (n:Nat)(A B:Hx):Prop where
 kp:Kp n A B
 st:G.qo n B
theorem _root_.G.qo.ty {n:Nat}{A:Hx}(h:G.qo n A):qW (.ref n) A=some .lst:=by
 obtain ⟨c,b,e,_⟩:=h
 unfold qW
 dsimp only
 rw [e]
theorem _root_.G.qo.lt {n:Nat}{A:Hx}(h:G.qo n A):n<A.length:=by
 obtain ⟨c,b,e,_⟩:=h
 exact wR e
theorem _root_.G.qo.ext {n:Nat}{A B:Hx}(h:G.qo n A)(x:Ext A B):G.qo n B:=by
 obtain ⟨c,b,e,r⟩:=h
 exact ⟨c,b,x.at e,r⟩
theorem _root_.G.qo.put {n k:Nat}{A:Hx}{o:O}(h:G.qo n A)(hk:k≠n):G.qo n (A.set k o):=by
 obtain ⟨c,b,e,r⟩:=h
 exact ⟨c,b,by rw [List.getElem?_set_ne hk];exact e,r⟩
theorem Kn.ky {n:Nat}{A B:Hx}(s:G.qo n A)(k:Kn n A B):Ky A B:=λ w ty h=>by
 cases w with
 | ref i=>
  by_cases q:i=n
  ·subst q
   rw [s.ty] at h
   rw [k.st.ty];exact h
  ·unfold qW at h ⊢
   dsimp only at h ⊢
   by_cases z:i<A.length
   ·rw [k.kp.at_ i z q];exact h
   ·rw [List.getElem?_eq_none (by omega)] at h;cases h
 | _=>exact h
theorem Kn.trans {n:Nat}{A B C:Hx}(a:Kn n A B)(b:Kn n B C):Kn n A C:=⟨a.kp.trans b.kp,b.st⟩
theorem Kn.ext {n:Nat}{A B:Hx}(s:G.qo n A)(x:Ext A B):Kn n A B:=⟨Kp.ext x,s.ext x⟩
end Mi
namespace G
open PySem L2 Mi
theorem Rv {n:Nat}{A:Hx}(h:qo n A){m:Int}(h1:0<m)(h2:m<1000000000000000):∃(r:Nat) (B:Hx),qu [.ref n,.int m] A=.ok (.int r) B/\(r:Int)<m/\Kn n A B/\B.length=A.length:=by
 obtain ⟨r,o,e,a,b,s⟩:=Rz h h1 h2
 exact ⟨r.toNat,A.set n o,by rw [e,Int.toNat_of_nonneg a],by omega,⟨Kp.set,s⟩,List.length_set ..⟩
theorem wV {n:Nat}{A:Hx}{ρ:En}{m:Int}{me:Ev}(h:qo n A)(h0:ρ[0]? =some (some (.ref n)))(hm:me ρ A=.ok (.int m) A)(h1:0<m)(h2:m<1000000000000000):∃(r:Nat) (B:Hx),zD qu (zc (zh 0) (zc me (zj))) ρ A=.ok (.int r) B/\(r:Int)<m/\Kn n A B/\B.length=A.length:=by
 obtain ⟨r,B,e,a⟩:=Rv h h1 h2
 exact ⟨r,B,(qm (zV (zw h0) (zV hm qt))).trans e,a⟩
section
variable {n:Nat}{A:Hx}{ρ:En}{a:Ea}{k i:Nat}
end
end G
namespace Mi
open PySem L2
noncomputable def kv (A:Hx)(w:W):Prop:=ZH A w/\¬IsT w
theorem kv.mono {A B:Hx}{w:W}(k:Ky A B)(h:kv A w):kv B w:=⟨h.1.mono k,h.2⟩
theorem Rw {k:Nat}:¬IsT (.ref k):=by rintro ⟨t,_,e⟩;cases e
end Mi
namespace G
open PySem L2 Mi
theorem FL {w:W}(hk:Ug w=true)(h:wQ [w] []=.ok (.bl false) []):¬IsT w:=λ z=>by
 obtain ⟨b,e,hb⟩:=XD (Ru (A:=[]) hk)
 rw [h] at e
 have:=hb.mpr z
 subst this
 cases e
noncomputable def ET (m:Ev)(ρ:En):Prop:=∀A,∃w A1,m ρ A=.ok w A1/\Ext A A1/\kv A1 w
noncomputable def AT (a:Ea)(ρ:En)(k:Nat):Prop:=∀A,∃ws A1,a ρ A=.ok ws A1/\Ext A A1/\ws.length=k/\∀w∈ws,kv A1 w
section
variable {m:Ev}{a:Ea}{ρ:En}{k:Nat}{w:W}
theorem Ke:AT zj ρ 0:=λ A=>⟨[],A,rfl,Ext.refl,rfl,λ _ h=>by cases h⟩
theorem jR (h:ET m ρ)(t:AT a ρ k):AT (zc m a) ρ (k+1):=λ A=>by
 obtain ⟨w,A1,e1,x1,h1⟩:=h A
 obtain ⟨ws,A2,e2,x2,l2,h2⟩:=t A1
 refine ⟨w::ws,A2,zV e1 e2,x1.trans x2,by rw [List.length_cons,l2],λ y hy=>?_⟩
 rcases List.mem_cons.mp hy with rfl | hy
 ·exact h1.mono x2.ky
 ·exact h2 y hy
theorem j9 (h:∀A,m ρ A=.ok w A)(hw:Ug w=true)(hf:wQ [w] []=.ok (.bl false) []:=by kernel_rfl):ET m ρ:=λ A=>⟨w,A,h A,Ext.refl,Ru hw,FL hw hf⟩
theorem Dl:ET ZE ρ:=λ A=>⟨.ref A.length,A++[.dct []],rfl,Ext.one,.oth .dct (by unfold qW;dsimp only;rw [je]) (by decide),Rw⟩
end
section
variable {n:Nat}{A:Hx}{ρ:En}{a:Ea}{k i:Nat}
structure TL (A:Hx)(r k:Nat)(B:Hx):Prop where
 at_:∃ws,B[r]? =some (.lst ws)/\ws.length=k/\∀w∈ws,kv B w
 nw:A.length<=r
 ext:Ext A B
theorem Dd (h:AT a ρ k)(A:Hx):∃r B,zR a ρ A=.ok (.ref r) B/\TL A r k B:=by
 obtain ⟨ws,A1,e,x,hl,hw⟩:=h A
 exact ⟨_,_,jx e,⟨ws,je,hl,λ w hw'=>(hw w hw').mono Ext.one.ky⟩,x.len,x.app⟩
theorem XY {r j:Nat}{B:Hx}(t:TL A r j B)(h:AT a ρ k)(hi:ρ[i]? =some (some (.ref r)))(hl:j+k<=100):∃r' C,zp z8 (zh i) (zR a) ρ B=.ok (.ref r') C/\TL A r' (j+k) C:=by
 obtain ⟨ws,e,l,hw⟩:=t.at_
 obtain ⟨us,B1,e1,x1,l1,hu⟩:=h B
 have x2:Ext B (B1++[.lst us]):=x1.app
 refine ⟨_,_,(zL (zw hi) (jx e1)).trans (Yz (x2.at e) je (by unfold zW;omega)),⟨ws++us,je,by rw [List.length_append,l,l1],λ w hw'=>?_⟩,?_,(t.ext.trans x2).app⟩
 ·rcases List.mem_append.mp hw' with q | q
  ·exact (hw w q).mono (x2.app).ky
  ·exact (hu w q).mono (Ext.one.trans Ext.one).ky
 ·have:=t.ext.len
  have:=x2.len
  omega
theorem Hu {r:Nat}{B:Hx}{m:Int}{mm:Ev}(s:qo n A)(t:TL A r k B)(hi:ρ[i]? =some (some (.ref r)))(h0:ρ[0]? =some (some (.ref n)))(hm:∀A,mm ρ A=.ok (.int m) A)(hk:(k:Int)=m)(h1:0<m)(h2:m<1000):∃w C,zp zG (zh i) (zD qu (zc (zh 0) (zc mm (zj)))) ρ B=.ok w C/\kv C w/\Kn n A C:=by
 obtain ⟨ws,e,l,hw⟩:=t.at_
 have sB:=s.ext t.ext
 obtain ⟨j,C,ec,hj,kn,_⟩:=wV sB h0 (hm B) h1 (by omega)
 have hjl:j<ws.length:=by omega
 have hr:r≠n:=by have:=s.lt;have:=t.nw;omega
 refine ⟨ws[j],C,(zL (zw hi) ec).trans (yI (kn.kp.get e hr) (List.getElem?_eq_getElem hjl)),(hw _ (List.getElem_mem hjl)).mono (kn.ky sB),(Kn.ext s t.ext).trans kn⟩
end
theorem D1 {n:Nat}{A:Hx}(s:qo n A):∃w B,ZJ [.ref n] A=.ok w B/\kv B w/\Kn n A B:=by
 unfold ZJ Uz
 unfold Wj
 have et1:∀ρ,ET (zR (zc (zR (zc (zi (.int 0)) (zj))) (zj))) ρ:=λ ρ A=>⟨_,_,jx (zV (jx (zV qN qt)) qt),Ext.one.app,.oth .lst XZ (by decide),Rw⟩
 have et2:∀ρ,ET (zz (zc (zR (zc (zi (.int 0)) (zj))) (zj))) ρ:=λ ρ A=>⟨_,_,Y6 (zV (jx (zV qN qt)) qt),Ext.one,.tup _ rfl (by simp) λ x hx=>(by
  rw [List.mem_singleton.mp hx]
  exact .oth .lst XZ (by decide)),λ z=>by
  obtain ⟨r,e,_⟩:=(Yy z).2.2 _ (List.mem_singleton.mpr rfl)
  cases e⟩
 obtain ⟨r1,B1,e1,t1⟩:=Dd (k:=11) (ρ:=[some (.ref n),none]) (a:=zc (zi .non) (zc (zi (.int 0)) (zc (zz (zj)) (zc (zz (zc (zz (zj)) (zj))) (zc (zz (zc (zz (zc (zi (.int 1)) (zj))) (zj))) (zc (zR (zc (zR (zc (zi (.int 0)) (zj))) (zj))) (zc (zz (zc (zR (zc (zi (.int 0)) (zj))) (zj))) (zc (zz (zc (zz (zc (zi (.int 0)) (zj))) (zc (zz (zc (zi (.int 0)) (zj))) (zj)))) (zc (zz (zc (zz (zc (zi (.int 0)) (zc (zi (.int 1)) (zj)))) (zc (zz (zc (zi (.int 2)) (zc (zi (.int 0)) (zj)))) (zj)))) (zc (zz (zc (zz (zc (zi (.int 0)) (zc (zi (.int 2)) (zj)))) (zc (zz (zc (zi (.int 2)) (zc (zi (.int 0)) (zj)))) (zj)))) (zc (ZE) (zj)))))))))))) (jR (j9 (λ _=>rfl) rfl) (jR (j9 (λ _=>rfl) rfl) (jR (j9 (w:=.tup []) (λ _=>rfl) rfl) (jR (j9 (w:=.tup [.tup []]) (λ _=>rfl) rfl) (jR (j9 (w:=.tup [.tup [.int 1]]) (λ _=>rfl) rfl) (jR (et1 _) (jR (et2 _) (jR (j9 (w:=.tup [.tup [.int 0],.tup [.int 0]]) (λ _=>rfl) rfl)
  (jR (j9 (w:=.tup [.tup [.int 0,.int 1],.tup [.int 2,.int 0]]) (λ _=>rfl) rfl) (jR (j9 (w:=.tup [.tup [.int 0,.int 2],.tup [.int 2,.int 0]]) (λ _=>rfl) rfl) (jR Dl Ke))))))))))) A
 obtain ⟨r2,B2,e2,t2⟩:=XY (k:=5) (i:=1) (ρ:=[some (.ref n),some (.ref r1)]) (a:=zc (zz (zc (zz (zc (zi (.int 0)) (zc (zi (.int 1)) (zj)))) (zc (zz (zc (zi (.int 1)) (zc (zi (.int 1)) (zj)))) (zj)))) (zc (zz (zc (zz (zc (zi (.bl true)) (zj))) (zj))) (zc (zz (zc (zz (zc (zi (.int 0)) (zc (zi (.bl true)) (zj)))) (zc (zz (zc (zi (.bl true)) (zc (zi (.int 0)) (zj)))) (zj)))) (zc (zz (zc (zz (zc (zi (.int 0)) (zc (jV QW (zi (.int 1))) (zj)))) (zc (zz (zc (jV QW (zi (.int 1))) (zc (zi (.int 0)) (zj)))) (zj)))) (zc (zz (zc (zz (zc (zi (.int 0)) (zc (zi (.int 1)) (zj)))) (zc (zz (zc (zi (.int 1)) (zc (zi (.int 0)) (zj)))) (zc (zz (zc (zi (.int 1)) (zc (zi (.int 1)) (zj)))) (zj))))) (zj)))))) t1 (jR (j9 (w:=.tup [.tup [.int 0,.int 1],.tup [.int 1,.int 1]]) (λ _=>rfl) rfl) (jR (j9 (w:=.tup [.tup [.bl true]]) (λ _=>rfl) rfl) (jR (j9 (w:=.tup [.tup [.int 0,.bl true],.tup [.bl true,.int 0]]) (λ _=>rfl) rfl)
  (jR (j9 (w:=.tup [.tup [.int 0,.int (-1)],.tup [.int (-1),.int 0]]) (λ _=>rfl) rfl) (jR (j9 (w:=.tup [.tup [.int 0,.int 1],.tup [.int 1,.int 0],.tup [.int 1,.int 1]]) (λ _=>rfl) rfl) Ke))))) rfl (by omega)
 obtain ⟨r3,B3,e3,t3⟩:=XY (k:=5) (i:=1) (ρ:=[some (.ref n),some (.ref r2)]) (a:=zc (zz (zc (zz (zc (zi (.int 0)) (zc (zi (.int 1)) (zc (zi (.int 2)) (zj))))) (zc (zz (zc (zi (.int 1)) (zc (zi (.int 0)) (zc (zi (.int 2)) (zj))))) (zc (zz (zc (zi (.int 2)) (zc (zi (.int 2)) (zc (zi (.int 1)) (zj))))) (zj))))) (zc (zi (.str "0")) (zc (zz (zc (zz (zc (zi (.int 0)) (zc (zi (.int 3)) (zc (zi (.int 3)) (zj))))) (zc (zz (zc (zi (.int 3)) (zc (zi (.int 0)) (zc (zi (.int 1)) (zj))))) (zc (zz (zc (zi (.int 3)) (zc (zi (.int 1)) (zc (zi (.int 0)) (zj))))) (zj))))) (zc (zz (zc (zz (zc (zi (.int 0)) (zj))) (zc (zz (zj)) (zj)))) (zc (zz (zc (zi (.int 0)) (zj))) (zj)))))) t2 (jR (j9 (w:=.tup [.tup [.int 0,.int 1,.int 2],.tup [.int 1,.int 0,.int 2],.tup [.int 2,.int 2,.int 1]]) (λ _=>rfl) rfl) (jR (j9 (λ _=>rfl) rfl)
  (jR (j9 (w:=.tup [.tup [.int 0,.int 3,.int 3],.tup [.int 3,.int 0,.int 1],.tup [.int 3,.int 1,.int 0]]) (λ _=>rfl) rfl) (jR (j9 (w:=.tup [.tup [.int 0],.tup []]) (λ _=>rfl) rfl) (jR (j9 (w:=.tup [.int 0]) (λ _=>rfl) rfl) Ke))))) rfl (by omega)
 obtain ⟨r4,B4,e4,t4⟩:=XY (k:=2) (i:=1) (ρ:=[some (.ref n),some (.ref r3)]) (a:=zc (zz (zc (zz (zc (zi .non) (zj))) (zj))) (zc (zz (zc (zz (zc (zi (.int 0)) (zc (zi (.int 0)) (zj)))) (zc (zz (zc (zi (.int 0)) (zc (zi (.int 0)) (zj)))) (zj)))) (zj))) t3 (jR (j9 (w:=.tup [.tup [.non]]) (λ _=>rfl) rfl) (jR (j9 (w:=.tup [.tup [.int 0,.int 0],.tup [.int 0,.int 0]]) (λ _=>rfl) rfl) Ke)) rfl (by omega)
 obtain ⟨w,C,e5,hw,kn⟩:=Hu (i:=1) (ρ:=[some (.ref n),some (.ref r4)]) (mm:=zi (.int 23)) (m:=23) s t4 rfl rfl (λ _=>rfl) rfl (by decide) (by decide)
 refine ⟨w,C,qy ?_,hw,kn⟩
 refine (zM ((qO e1).trans rfl)).trans ((zM ((qO e2).trans rfl)).trans ((zM ((qO e3).trans rfl)).trans ((zM ((qO e4).trans rfl)).trans (qe (qC e5)))))
end G
namespace Mi
open PySem L2
noncomputable def TE (m:Ev)(ρ:En)(ws:List W):Prop:=∀A,m ρ A=.ok (.tup ws) A
noncomputable def RA (ws:List W):Prop:=∀x∈ws,∀A,gm A x
section
variable {m m':Ev}{ρ:En}{xs ys:List W}{pl pu:Po}{l u:Option Int}
theorem Ka (h:TE m ρ xs)(h':TE m' ρ ys)(hl:xs.length+ys.length<=1000):TE (zp z8 m m') ρ (xs++ys):=λ A=>(zL (h A) (h' A)).trans (by
 unfold z8
 dsimp only
 rw [if_pos (by unfold zW;omega)])
theorem EU {A A1 A2 A3:Hx}(h:m ρ A=.ok (.tup xs) A1)(h1:pl ρ A1=.ok l A2)(h2:pu ρ A2=.ok u A3):yY m pl pu ρ A=.ok (.tup (kK xs l u)) A3:=by
 unfold yY
 rw [h,zJ,h1,zJ,h2,zJ]
theorem XQ (h:TE m ρ xs)(h1:∀A,pl ρ A=.ok l A)(h2:∀A,pu ρ A=.ok u A):TE (yY m pl pu) ρ (kK xs l u):=λ A=>EU (h A) (h1 A) (h2 A)
theorem XN {w:W}(h:∀A,m ρ A=.ok w A):TE (zz (zc m (zj))) ρ [w]:=λ A=>Y6 (zV (h A) qt)
theorem Y2 {x:W}(h:x∈kK xs l u):x∈xs:=List.mem_of_mem_drop (List.mem_of_mem_take h)
theorem Xs:(kK xs l u).length<=xs.length:=by
 unfold kK
 rw [List.length_take,List.length_drop]
 omega
end
end Mi
namespace G
open PySem L2 Mi
section
variable {t:List (List Int)}{n N a b:Nat}{A B:Hx}{ρ:En}
theorem NM (h8:t.length<=8)(hq:Sq t){m:Ev}{B0:Hx}(h1:m ρ B0=.ok (zC t) B):qg (zN 1 [] (qj m) (zI 0) (zi (.bl true)) (zK (qg (qa (zh 0))))) ρ B0=
  .ok (.ref (B.length+t.length)) (B++(t.map λ r=>O.lst (r.map W.int))++[O.lst ((List.range t.length).map λ i=>W.ref (B.length+i))]):=by
 obtain ⟨ρ',acc',B',e,⟨z,g1⟩,g2,g3⟩:=Qu (nl:=1) (cap:=[]) (tw:=zI 0) (ifs:=zi (.bl true)) (em:=zK (qg (qa (zh 0)))) (ρ:=ρ) (A:=B0) (N:=t.length)
  (I:=λ p ρ' a C=>(∃z,ρ'=[z])/\C=B++((t.take p).map λ r=>O.lst (r.map W.int))/\a=(List.range p).map λ i=>W.ref (B.length+i)) (Zl h1) (by simp)
  (λ p ρ' a C hp ⟨⟨z,f1⟩,f2,f3⟩=>by
   subst f1 f2 f3
   refine ⟨zy t[p],[some (zy t[p])],?_,rfl,.inl ⟨_,_,_,_,rfl,QA (kU (ka (w:=zy t[p]) (ws:=t[p].map W.int) (zw rfl) rfl)) ?_,⟨_,rfl⟩,?_,?_⟩⟩
   ·show some (t.map zy)[p]? =_
    rw [List.getElem?_map,List.getElem?_eq_getElem hp];rfl
   ·simp;unfold zW;omega
   ·rw [take_succ hp,List.map_append,List.append_assoc];rfl
   ·rw [List.range_succ,List.map_append,List.length_append,List.length_map,List.length_take,Nat.min_eq_left (Nat.le_of_lt hp)];rfl)
  (λ ρ' a C _=>by show some (t.map zy)[t.length]? =_;rw [List.getElem?_eq_none (by simp)]) ⟨⟨none,rfl⟩,by simp,by simp⟩
 rw [kU e,g2,g3,List.take_length]
 simp
theorem XC {i:Nat}(hi:i<t.length):(B++(t.map λ r=>O.lst (r.map W.int))++[O.lst ((List.range t.length).map λ i=>W.ref (B.length+i))])[B.length+i]? =some (.lst ((t.getD i []).map W.int)):=by
 rw [List.getElem?_append_left (by simp;omega),List.getElem?_append_right (by omega),show B.length+i - B.length=i by omega,List.getElem?_map,List.getD_eq_getElem?_getD,List.getElem?_eq_getElem hi]
 rfl
theorem Xm:(B++(t.map λ r=>O.lst (r.map W.int))++[O.lst ((List.range t.length).map λ i=>W.ref (B.length+i))])[B.length+t.length]? =some (.lst ((List.range t.length).map λ i=>W.ref (B.length+i))):=by
 have:B.length+t.length=(B++(t.map λ r=>O.lst (r.map W.int))).length:=by simp
 rw [this,je]
theorem Ec (h:qD t):RA (t.map zy):=λ x hx A=>by
 obtain ⟨r,hr,rfl⟩:=List.mem_map.mp hx
 have:=h.sq r hr
 have:=h.n8
 exact Iq (by omega)
end
end G
namespace Mi
open PySem L2
theorem Q3 {A:Hx}{r s:Nat}{l m:List Int}(h:A[r]? =some (.lst (l.map W.int)))(h2:A[s]? =some (.lst (m.map W.int))):jg (.ref r) (.ref s) A=.ok (.bl (!decide (l=m))) A:=by
 show gj true _ _ A=_
 unfold gj
 rw [Kj h,Kj h2]
 dsimp only
 rw [PyData.eqv,UX]
 rfl
end Mi
namespace G
open PySem L2 Mi
section
variable {n p f:Nat}{A:Hx}
theorem Ir {x:Option W}(hp:A.length<=p)(hf:A.length<=f)(hn:n<A.length)(hpf:p≠f):∀(k fu:Nat) (l fd:List Int) (B:Hx),l.length=k->k<fu->fd.length+l.length<=100->Kn n A B->B[p]? =some (.lst (l.map W.int))->B[f]? =some (.lst (fd.map W.int))->
  ∃(B':Hx) (fd':List Int),gX (zp jg (zh 2) (zR (zj))) (zr (wt (yV wu (zh 3) (yV w5 (zh 2) (zD qu (zc (zh 0) (zc (mQ qK (qa (zh 2))) (zj))))))) (zA)) fu [some (.ref n),x,some (.ref p),some (.ref f)] B=.ok (.nx [some (.ref n),x,some (.ref p),some (.ref f)]) B'/\Kn n A B'/\B'[f]? =some (.lst (fd'.map W.int))/\fd'.Perm (fd++l):=by
 intro k
 induction k with
 | zero=>
  intro fu l fd B hl hfu _ kn h1 h2
  obtain ⟨fu,rfl⟩:∃f',fu=f'+1:=⟨fu - 1,by omega⟩
  have:l=[]:=List.length_eq_zero_iff.mp hl
  subst this
  refine ⟨B++[.lst []],fd,?_,kn.trans (Kn.ext kn.st Ext.one),yh h2,by simp⟩
  unfold gX
  have ec:zp jg (zh 2) (zR (zj)) [some (.ref n),x,some (.ref p),some (.ref f)] B=.ok (.bl false) (B++[.lst []]):=(zL (zw (i:=2) rfl) (jx qt)).trans (Q3 (l:=[]) (m:=[]) (yh h1) je)
  rw [ec,zJ]
 | succ k ih=>
  intro fu l fd B hl hfu hfl kn h1 h2
  obtain ⟨fu,rfl⟩:∃f',fu=f'+1:=⟨fu - 1,by omega⟩
  have ec:zp jg (zh 2) (zR (zj)) [some (.ref n),x,some (.ref p),some (.ref f)] B=.ok (.bl true) (B++[.lst []]):=by
   refine (zL (zw (i:=2) rfl) (jx qt)).trans ((Q3 (m:=[]) (yh h1) je).trans ?_)
   have hne:l≠[]:=λ e=>by rw [e] at hl;cases hl
   rw [decide_eq_false hne]
   rfl
  have kn1:=kn.trans (Kn.ext kn.st (Ext.one (o:=.lst [])))
  have g1:=yh (u:=.lst []) h1
  have g2:=yh (u:=.lst []) h2
  generalize B++[O.lst []]=B1 at ec kn1 g1 g2
  have elen:mQ qK (qa (zh 2)) [some (.ref n),x,some (.ref p),some (.ref f)] B1=.ok (.int (l.length:Int)) B1:=by
   rw [yA (ka (w:=.ref p) (A1:=B1) (ws:=l.map W.int) (zw rfl) (by unfold zU;dsimp only;rw [g1]))]
   unfold qK
   rw [List.length_map]
  obtain ⟨q,B2,e1,hq',k2,_⟩:=wV (ρ:=[some (.ref n),x,some (.ref p),some (.ref f)]) kn1.st rfl elen (by omega) (by omega)
  have hq:q<l.length:=by omega
  have g1':=k2.kp.get g1 (by omega)
  have g2':=k2.kp.get g2 (by omega)
  have hw:(l.map W.int)[q]? =some (.int l[q]):=by rw [List.getElem?_map,List.getElem?_eq_getElem hq];rfl
  have e2:=(Xg (g:=w5) (a:=zh 2) (zw rfl) g1 e1).trans (NS g1' hw (by omega))
  rw [TH] at e2
  have g2'':(B2.set p (.lst ((l.eraseIdx q).map W.int)))[f]? =some (.lst (fd.map W.int)):=by rw [List.getElem?_set_ne hpf];exact g2'
  have e3:=(Xg (g:=wu) (a:=zh 3) (zw rfl) g2 e2).trans (Nl g2'' (by rw [List.length_map];omega))
  have hap:fd.map W.int++[.int l[q]]=(fd++[l[q]]).map W.int:=by rw [List.map_append];rfl
  rw [hap] at e3
  have hlen:(l.eraseIdx q).length=k:=by rw [List.length_eraseIdx_of_lt hq];omega
  have kn3:Kn n A ((B2.set p (.lst ((l.eraseIdx q).map W.int))).set f (.lst ((fd++[l[q]]).map W.int))):=⟨((kn1.trans k2).kp.put hp).put hf,((k2.st).put (by omega)).put (by omega)⟩
  obtain ⟨B',fd',e4,s4,a4,p4⟩:=ih fu (l.eraseIdx q) (fd++[l[q]]) _ hlen (by omega) (by rw [List.length_append,List.length_singleton];omega) kn3
   (by rw [List.getElem?_set_ne (Ne.symm hpf),List.getElem?_set_self (wR g1')]) (by rw [List.getElem?_set_self (wR g2'')])
  refine ⟨B',fd',?_,s4,a4,p4.trans ?_⟩
  ·unfold gX
   rw [ec,zJ]
   dsimp only
   have eb:=(zM (m2:=zA) (Ju e3)).trans j8
   rw [eb,zJ]
   exact e4
  ·rw [List.append_assoc]
   exact List.Perm.append_left fd (U7 (List.getElem?_eq_getElem hq)).symm
theorem Su {q:Nat}{l:List Int}(s:qo n A)(h:A[q]? =some (.lst (l.map W.int)))(hl:l.length<=100):∃(r:Nat) (B:Hx) (fd:List Int),gw [.ref n,.ref q] A=.ok (.ref r) B/\B[r]? =some (.lst (fd.map W.int))/\fd.Perm l/\Kn n A B/\A.length<=r:=by
 unfold gw UC
 unfold Wl
 have e1:qg (qa (zh 1)) [some (.ref n),some (.ref q),none,none] A=.ok (.ref A.length) (A++[.lst (l.map W.int)]):=kU (ka (w:=.ref q) (zw rfl) (by unfold zU;dsimp only;rw [h]))
 have x0:Ext A (A++[.lst (l.map W.int)]++[.lst []]):=Ext.one.app
 have hlen:(A++[O.lst (l.map W.int)]).length=A.length+1:=by simp
 have a2:(A++[.lst (l.map W.int)]++[.lst []])[A.length+1]? =some (.lst (([]:List Int).map W.int)):=by rw [<- hlen];exact je
 obtain ⟨B,fd,e2,kn,ef,pf⟩:=Ir (A:=A) (p:=A.length) (f:=A.length+1) (x:=some (.ref q)) (Nat.le_refl _) (by omega) s.lt (by omega) l.length 1000 l [] _ rfl (by omega) (by simp;omega) (Kn.ext s x0) (yh je) a2
 refine ⟨A.length+1,B,fd,qy ?_,ef,by simpa using pf,kn,by omega⟩
 refine (zM ((qO e1).trans rfl)).trans ((zM (ρ1:=[some (.ref n),some (.ref q),some (.ref A.length),some (.ref (A.length+1))]) (A1:=A++[.lst (l.map W.int)]++[.lst []]) ?_).trans ((zM (m1:=X0 1000 _ _) e2).trans (qe (qC (zw rfl)))))
 refine (qO (jx qt)).trans ?_
 rw [hlen]
 rfl
end
end G
namespace Mi
open PySem L2
noncomputable def dist (t:List (List Int)):List Nat:=(List.range 8).filter λ i=>decide ((i:Int)∈t.flatten)
noncomputable def kP (t:List (List Int))(v:Int):Int:=((dist t).idxOf v.toNat:Nat)
noncomputable def yt (t:List (List Int)):List (List Int):=t.map λ r=>r.map (kP t)
theorem Ji {t:List (List Int)}{i:Nat}:i∈dist t↔i<8/\(i:Int)∈t.flatten:=by
 unfold dist
 rw [List.mem_filter,List.mem_range,decide_eq_true_iff]
theorem NL (t:List (List Int)):(dist t).Nodup:=List.Pairwise.filter _ List.nodup_range
theorem TM:∀{l:List Int},(∀v∈l,0<=v/\v<8)->Zp l=some (l.map Int.toNat)
 | [],_=>rfl
 | v::l,h=>by
  unfold Zp
  rw [if_pos (h v (List.mem_cons_self ..)),TM λ x hx=>h x (List.mem_cons_of_mem _ hx)]
  rfl
theorem Te {A:Hx}:∀{kws:List (Nat × List W)},(∀p∈kws,A[p.1]? =some (.lst p.2))->kZ A (kws.map λ (p:Nat × List W)=>W.ref p.1)=some (kws.map (·.2))
 | [],_=>rfl
 | p::kws,h=>by
  show (match A[p.1]? with | some (.lst ws)=>(kZ A (kws.map λ (p:Nat × List W)=>W.ref p.1)).map (ws::·) | _=>none)=_
  rw [h p (List.mem_cons_self ..)]
  dsimp only
  rw [Te λ x hx=>h x (List.mem_cons_of_mem _ hx)]
  rfl
theorem SH (v:Nat):∀{l:List Nat},v∈l->w8 (λ z=>PyData.eqv z (.int (v:Int))) (l.map λ (i:Nat)=>PyData.int (i:Int))=some (l.idxOf v)
 | [],h=>by cases h
 | a::l,h=>by
  rw [List.map_cons,w8,List.idxOf_cons]
  have:PyData.eqv (.int (a:Int)) (.int (v:Int))=(a==v):=by
   rw [PyData.eqv,Bool.eq_iff_iff]
   simp
   omega
  rw [this]
  by_cases q:a=v
  ·subst q
   simp
  ·have q':(a==v)=false:=by simp [q]
   rw [q',if_neg (by simp)]
   rw [SH v ((List.mem_cons.mp h).resolve_left (Ne.symm q))]
   rfl
noncomputable def LL (t:List (List Int))(r:Nat)(B:Hx):Prop:=∃ks:List Nat,B[r]? =some (.lst (ks.map W.ref))/\ks.length=t.length/\∀i,i<t.length->B[ks.getD i 0]? =some (.lst ((t.getD i []).map W.int))
theorem Xl {ws:List W}{m me:Ev}{ρ:En}{A:Hx}{cap:List Nat}{k:Nat}(h:m ρ A=.ok (.ref k) A)(hA:A[k]? =some (.lst ws))(hl:ws.length<=zW){g:W->W}(he:∀w∈ws,me (some w::cap.map λ i=>(ρ[i]?).join) A=.ok (g w) A):
  zN 1 cap (qj m) (zI 0) (zi (.bl true)) (zK me) ρ A=.ok (ws.map g) A:=by
 have e:=Qt (cap:=cap) (me:=me) (ρ:=ρ) (A:=A) (N:=ws.length) (item:=λ i=>ws.getD i .non) (g:=λ i=>g (ws.getD i .non)) (Jp h hA) rfl hl
  (λ i hi=>(wX hA).trans (by rw [List.getElem?_eq_getElem hi,List.getD_eq_getElem?_getD,List.getElem?_eq_getElem hi];rfl))
  ((wX hA).trans (by rw [List.getElem?_eq_none (Nat.le_refl _)]))
  (λ i hi=>by
   have:ws.getD i .non=ws[i]:=by rw [List.getD_eq_getElem?_getD,List.getElem?_eq_getElem hi];rfl
   rw [this];exact he _ (List.getElem_mem hi))
 rw [e]
 congr 1
 apply List.ext_getElem
 ·simp
 ·intro i h1 h2
  have hi:i<ws.length:=by simpa using h2
  simp [List.getD_eq_getElem?_getD,List.getElem?_eq_getElem hi]
noncomputable def Pm (f:Int->Int):W->W
 | .int v=>.int (f v)
 | w=>w
theorem IV (f:Int->Int)(l:List Int):(l.map W.int).map (Pm f)=(l.map f).map W.int:=by
 rw [List.map_map,List.map_map];rfl
end Mi
namespace G
open PySem L2 Mi
section
variable {t:List (List Int)}{r:Nat}{A:Hx}
theorem My {ρ:En}{B:Hx}{i:Nat}(h8:t.length<=8)(hL:LL t r B)(h0:ρ[i]? =some (some (.ref r))):qg (zN 1 [] (qj (zh i)) (zI 0) (zi (.bl true)) (zK (qg (qa (zh 0))))) ρ B=
  .ok (.ref (B.length+t.length)) (B++(t.map λ r=>O.lst (r.map W.int))++[O.lst ((List.range t.length).map λ i=>W.ref (B.length+i))]):=by
 obtain ⟨ks,e0,hk,hr⟩:=hL
 obtain ⟨ρ',acc',B',e,⟨z,g1⟩,g2,g3⟩:=Qu (nl:=1) (cap:=[]) (tw:=zI 0) (ifs:=zi (.bl true)) (em:=zK (qg (qa (zh 0)))) (ρ:=ρ) (A:=B) (N:=t.length)
  (I:=λ p ρ' a C=>(∃z,ρ'=[z])/\C=B++((t.take p).map λ r=>O.lst (r.map W.int))/\a=(List.range p).map λ i=>W.ref (B.length+i)) (Jp (zw h0) e0) (by simp [hk])
  (λ p ρ' a C hp ⟨⟨z,f1⟩,f2,f3⟩=>by
   subst f1 f2 f3
   have hx:Ext B (B++((t.take p).map λ r=>O.lst (r.map W.int))):=⟨_,rfl⟩
   have hrow:=hx.at (hr p hp)
   have htp:t.getD p []=t[p]:=by rw [List.getD_eq_getElem?_getD,List.getElem?_eq_getElem hp];rfl
   rw [htp] at hrow
   refine ⟨.ref (ks.getD p 0),[some (.ref (ks.getD p 0))],?_,rfl,.inl ⟨_,_,_,_,rfl,QA (kU (ka (w:=.ref (ks.getD p 0)) (ws:=t[p].map W.int) (zw rfl) (by unfold zU;dsimp only;rw [hrow]))) ?_,⟨_,rfl⟩,?_,?_⟩⟩
   ·refine (wX (hx.at e0)).trans ?_
    rw [List.getElem?_map,List.getD_eq_getElem?_getD,List.getElem?_eq_getElem (by omega)];rfl
   ·simp;unfold zW;omega
   ·rw [take_succ hp,List.map_append,List.append_assoc];rfl
   ·rw [List.range_succ,List.map_append,List.length_append,List.length_map,List.length_take,Nat.min_eq_left (Nat.le_of_lt hp)];rfl)
  (λ ρ' a C ⟨_,f2,_⟩=>by
   subst f2
   exact (wX (Ext.at ⟨_,rfl⟩ e0)).trans (by rw [List.getElem?_eq_none (by simp [hk])])) ⟨⟨none,rfl⟩,by simp,by simp⟩
 rw [kU e,g2,g3,List.take_length]
 simp
theorem LL.mono {A B:Hx}(x:Ext A B)(h:LL t r A):LL t r B:=by
 obtain ⟨ks,e0,hk,hr⟩:=h
 exact ⟨ks,x.at e0,hk,λ i hi=>x.at (hr i hi)⟩
theorem SR (h1:1<=t.length)(h8:t.length<=8)(hq:Sq t)(hb:∀v∈t.flatten,0<=v/\v<8)(hL:LL t r A):∃B,kS [.ref r] A=.ok (zC (yt t)) B/\Ext A B:=by
 have hfl:t.flatten.length<=64:=by
  have:∀l:List (List Int),(∀r∈l,r.length<=8)->l.flatten.length<=8 * l.length:=by
   intro l
   induction l with
   | nil=>intro _;simp
   | cons r l ih=>
    intro hr
    have h1:=hr r (List.mem_cons_self ..)
    have h2:=ih λ r' hr'=>hr r' (List.mem_cons_of_mem _ hr')
    rw [List.flatten_cons,List.length_append,List.length_cons]
    omega
  have:=this t λ r hr=>by rw [hq r hr];exact h8
  omega
 unfold kS UQ
 unfold W6
 have e1:=My (ρ:=[some (.ref r),none]) (i:=0) h8 hL rfl
 have x1:Ext A (A++(t.map λ r=>O.lst (r.map W.int))++[O.lst ((List.range t.length).map λ i=>W.ref (A.length+i))]):=⟨(t.map λ r=>O.lst (r.map W.int))++[O.lst ((List.range t.length).map λ i=>W.ref (A.length+i))],by rw [List.append_assoc]⟩
 have hrow:∀i,i<t.length->_:=λ i hi=>XC (B:=A) (t:=t) (i:=i) hi
 have htop:=Xm (B:=A) (t:=t)
 generalize A++(t.map λ r=>O.lst (r.map W.int))++[O.lst ((List.range t.length).map λ i=>W.ref (A.length+i))]=B1 at e1 x1 hrow htop
 have e2:zp gR (qg (zN 1 [] (qj (zh 0)) (zI 0) (zi (.bl true)) (zK (qg (qa (zh 0)))))) (zR (zj)) [some (.ref r),none] A=.ok (.ref (B1.length+1)) (B1++[.lst []]++[.lst (t.flatten.map W.int)]):=by
  refine (zL e1 (jx qt)).trans ?_
  have hl:=Te (A:=B1++[.lst []]) (kws:=(List.range t.length).map λ i=>(A.length+i,(t.getD i []).map W.int)) (λ p hp=>by
   obtain ⟨i,hi,rfl⟩:=List.mem_map.mp hp
   exact yh (hrow i (List.mem_range.mp hi)))
  rw [List.map_map,List.map_map] at hl
  have hl1:((λ p:Nat × List W=>W.ref p.1) ∘ λ i=>(A.length+i,(t.getD i []).map W.int))=λ i=>W.ref (A.length+i):=rfl
  have hl2:((λ p:Nat × List W=>p.2) ∘ λ i=>(A.length+i,(t.getD i []).map W.int))=λ i=>(t.getD i []).map W.int:=rfl
  rw [hl1,hl2,<- Qo t [] λ r=>r.map W.int] at hl
  have hf:(t.map λ r=>r.map W.int).flatten=t.flatten.map W.int:=by rw [List.map_flatten]
  unfold gR
  dsimp only
  rw [yh htop,je]
  dsimp only
  rw [hl]
  dsimp only
  rw [if_pos ⟨λ z=>(by have:=congrArg List.length z;rw [List.length_map,List.length_range] at this;exact absurd this (by rw [List.length_nil];omega)),by rw [hf,List.length_map];unfold zW;omega⟩,hf]
  simp
 have x2:Ext A (B1++[.lst []]++[.lst (t.flatten.map W.int)]):=x1.app.app
 have hs2:(B1++[.lst []]++[.lst (t.flatten.map W.int)])[B1.length+1]? =some (.lst (t.flatten.map W.int)):=by
  have:B1.length+1=(B1++[O.lst []]).length:=by simp
  rw [this,je]
 generalize B1++[.lst []]++[.lst (t.flatten.map W.int)]=B2 at e2 x2 hs2
 have e3:YL (zp gR (qg (zN 1 [] (qj (zh 0)) (zI 0) (zi (.bl true)) (zK (qg (qa (zh 0)))))) (zR (zj))) [some (.ref r),none] A=.ok (.ref B2.length) (B2++[.lst (((dist t).map λ (i:Nat)=>(i:Int)).map W.int)]):=by
  unfold YL
  rw [e2,zJ]
  unfold G9
  dsimp only
  rw [hs2]
  dsimp only
  rw [Yk]
  dsimp only
  rw [TM hb]
  dsimp only
  have:((List.range 8).filter λ i=>decide (i∈t.flatten.map Int.toNat))=dist t:=by
   unfold dist
   apply List.filter_congr
   intro i _
   rw [decide_eq_decide]
   constructor
   ·intro z
    obtain ⟨v,hv,rfl⟩:=List.mem_map.mp z
    rw [Int.toNat_of_nonneg (hb v hv).1]
    exact hv
   ·intro z
    exact List.mem_map.mpr ⟨_,z,rfl⟩
  rw [this,List.map_map]
  rfl
 have x3:=x2.app (l:=[.lst (((dist t).map λ (i:Nat)=>(i:Int)).map W.int)])
 have hs3:(B2++[.lst (((dist t).map λ (i:Nat)=>(i:Int)).map W.int)])[B2.length]? =some (.lst (((dist t).map λ (i:Nat)=>(i:Int)).map W.int)):=je
 generalize B2++[.lst (((dist t).map λ (i:Nat)=>(i:Int)).map W.int)]=B3 at e3 x3 hs3
 obtain ⟨ks,k0,hk,hr⟩:=LL.mono x3 hL
 refine ⟨B3,qy ((zM ((qO e3).trans rfl)).trans (qe (qC ?_))),x3⟩
 have idx:∀v,v∈t.flatten->wY (.ref B2.length) (.int v) B3=.ok (.int (kP t v)) B3:=λ v hv=>by
  obtain ⟨u,rfl⟩:=Int.eq_ofNat_of_zero_le (hb v hv).1
  have hm:u∈dist t:=Ji.mpr ⟨by have:=hb _ hv;omega,hv⟩
  unfold wY
  rw [Kj hs3]
  show (match w8 (λ z=>PyData.eqv z (.int (u:Int))) (((dist t).map λ (i:Nat)=>(i:Int)).map PyData.int) with | some j=>if j<1000000 then R.ok (W.int (j:Int)) B3 else .bad | none=>.bad)=_
  have:((dist t).map λ (i:Nat)=>(i:Int)).map PyData.int=(dist t).map λ (i:Nat)=>PyData.int (i:Int):=by rw [List.map_map];rfl
  rw [this,SH u hm]
  dsimp only
  have hl:(dist t).idxOf u<(dist t).length:=List.idxOf_lt_length_of_mem hm
  have hl8:(dist t).length<=8:=by unfold dist;exact Nat.le_trans (List.length_filter_le _ _) (by simp)
  rw [if_pos (by omega)]
  rfl
 have ec:=Qt (cap:=[1]) (me:=mQ j0 (zN 1 [1] (qj (zh 0)) (zI 0) (zi (.bl true)) (zK (yV wY (zh 1) (zh 0))))) (ρ:=[some (.ref r),some (.ref B2.length)]) (A:=B3) (N:=t.length) (item:=λ i=>.ref (ks.getD i 0)) (g:=λ i=>zy ((t.getD i []).map (kP t))) (Jp (zw (i:=0) rfl) k0) (by simp [hk]) (by unfold zW;omega)
  (λ j hj=>(wX k0).trans (by rw [List.getElem?_map,List.getD_eq_getElem?_getD,List.getElem?_eq_getElem (by omega)];rfl)) ((wX k0).trans (by rw [List.getElem?_eq_none (by simp [hk])]))
  (λ j hj=>by
   have:=Xl (cap:=[1]) (m:=zh 0) (me:=yV wY (zh 1) (zh 0)) (ρ:=[some (.ref (ks.getD j 0)),some (.ref B2.length)]) (g:=Pm (kP t)) (zw rfl) (hr j hj) (by rw [List.length_map,hq _ (kW hj)];unfold zW;omega) (λ w hw=>by
    obtain ⟨v,hv,rfl⟩:=List.mem_map.mp hw
    exact (Xg (g:=wY) (zw rfl) hs3 (zw (i:=0) rfl)).trans (idx v (List.mem_flatten.mpr ⟨_,kW hj,hv⟩)))
   rw [IV] at this
   exact gN this)
 refine (gN ec).trans ?_
 unfold zC yt
 rw [List.map_map,Qo t [] (zy ∘ λ r=>r.map (kP t))]
 rfl
theorem N5 (h1:1<=t.length)(h8:t.length<=8)(hq:Sq t)(dg:∀a b,a<t.length->b<t.length->(at2 t a b=0↔a=b))(sy:∀a b,a<t.length->b<t.length->at2 t a b=at2 t b a)
  (lo:∀a b,a<t.length->b<t.length->0<=at2 t a b/\at2 t a b<(t.length:Int)):qD (yt t):=by
 have hb:∀v∈t.flatten,0<=v/\v<(t.length:Int):=λ v hv=>by
  obtain ⟨a,b,ha,hb,rfl⟩:=gI hq hv
  exact lo a b ha hb
 have hlen:(yt t).length=t.length:=by unfold yt;rw [List.length_map]
 have hsq:∀r∈yt t,r.length=t.length:=λ r hr=>by
  obtain ⟨s,hs,rfl⟩:=List.mem_map.mp hr
  rw [List.length_map];exact hq s hs
 have hat:∀a b,a<t.length->b<t.length->at2 (yt t) a b=kP t (at2 t a b):=λ a b ha hb=>by
  have hra:=hq _ (kW ha)
  unfold at2 yt
  rw [List.getD_eq_getElem?_getD (l:=t.map _),List.getElem?_map,List.getElem?_eq_getElem ha]
  have e:t.getD a []=t[a]:=by rw [List.getD_eq_getElem?_getD,List.getElem?_eq_getElem ha];rfl
  rw [e] at hra ⊢
  show (t[a].map (kP t)).getD b 0=_
  rw [List.getD_eq_getElem?_getD,List.getElem?_map,List.getD_eq_getElem?_getD,List.getElem?_eq_getElem (by omega)]
  rfl
 have mem:∀a b,a<t.length->b<t.length->(at2 t a b).toNat∈dist t:=λ a b ha hb'=>by
  obtain ⟨_,_,_,h4⟩:=YZ hq ha hb'
  have:=hb _ h4
  rw [Ji,Int.toNat_of_nonneg this.1]
  exact ⟨by omega,h4⟩
 have nd:=NL t
 have dl:(dist t).length<=t.length:=by
  have:=XU t.length ((dist t).map λ (i:Nat)=>(i:Int)) (by
   rw [List.nodup_iff_pairwise_ne,List.pairwise_map]
   exact nd.imp λ h=>by omega) (λ r hr=>by
   obtain ⟨i,hi,rfl⟩:=List.mem_map.mp hr
   have:=hb _ (Ji.mp hi).2
   exact this)
  rw [List.length_map] at this
  exact this
 have z0:(0:Nat)∈dist t:=by
  have:=mem 0 0 (by omega) (by omega)
  rw [(dg 0 0 (by omega) (by omega)).mpr rfl] at this
  exact this
 have d0:∃l,dist t=0::l:=by
  have hr:List.range 8=0::[1,2,3,4,5,6,7]:=by decide
  have hz:=(Ji.mp z0).2
  refine ⟨[1,2,3,4,5,6,7].filter λ i=>decide ((i:Int)∈t.flatten),?_⟩
  unfold dist
  rw [hr,List.filter_cons_of_pos (by exact decide_eq_true hz)]
 obtain ⟨l0,hd0⟩:=d0
 have rlt:∀a b,a<t.length->b<t.length->0<=kP t (at2 t a b)/\kP t (at2 t a b)<(t.length:Int):=λ a b ha hb'=>by
  have:=List.idxOf_lt_length_of_mem (mem a b ha hb')
  unfold kP
  omega
 refine ⟨by omega,by omega,λ r hr=>by rw [hlen];exact hsq r hr,λ r hr v hv=>?_,λ a b ha hb'=>?_,λ a b ha hb'=>?_,λ k hk=>?_⟩
 ·have:v∈(yt t).flatten:=List.mem_flatten.mpr ⟨r,hr,hv⟩
  obtain ⟨a,b,ha,hb',e⟩:=gI (λ r hr=>by rw [hlen];exact hsq r hr) this
  rw [hlen] at ha hb' ⊢
  rw [<- e,hat a b ha hb']
  exact rlt a b ha hb'
 ·rw [hlen] at ha hb'
  rw [hat a b ha hb',<- dg a b ha hb']
  unfold kP
  have m:=mem a b ha hb'
  have hv:=lo a b ha hb'
  constructor
  ·intro e
   have e0:(dist t).idxOf (at2 t a b).toNat=0:=by omega
   have hl:=List.idxOf_lt_length_of_mem m
   have:=List.getElem_idxOf hl
   have h0:(dist t)[(dist t).idxOf (at2 t a b).toNat]? =some (at2 t a b).toNat:=by rw [List.getElem?_eq_getElem hl,this]
   rw [e0,hd0] at h0
   simp at h0
   omega
  ·intro e
   rw [e,hd0]
   simp
 ·rw [hlen] at ha hb'
  rw [hat a b ha hb',hat b a hb' ha,sy a b ha hb']
 ·obtain ⟨v,hv,hk⟩:=hk
  obtain ⟨a,b,ha,hb',e⟩:=gI (λ r hr=>by rw [hlen];exact hsq r hr) hv
  rw [hlen] at ha hb'
  rw [hat a b ha hb'] at e
  have hl:=List.idxOf_lt_length_of_mem (mem a b ha hb')
  have hkl:k<(dist t).length:=by unfold kP at e;omega
  have hd:=Ji.mp (List.getElem_mem hkl)
  obtain ⟨c,d,hc,hd',e2⟩:=gI hq hd.2
  have e3:at2 (yt t) c d=(k:Int):=by
   rw [hat c d hc hd',e2]
   unfold kP
   rw [Int.toNat_natCast,nd.idxOf_getElem k hkl]
  obtain ⟨_,_,_,h4⟩:=YZ (t:=yt t) (λ r hr=>by rw [hlen];exact hsq r hr) (by omega:c<(yt t).length) (by omega:d<(yt t).length)
  rw [e3] at h4
  exact h4
end
end G
namespace Mi
open PySem L2
noncomputable def kQ:Nat->List (List Int)
 | 0=>[[0,1,2,3,4,3,2,1],[1,0,1,2,3,4,3,2],[2,1,0,1,2,3,4,3],[3,2,1,0,1,2,3,4],[4,3,2,1,0,1,2,3],[3,4,3,2,1,0,1,2],[2,3,4,3,2,1,0,1],[1,2,3,4,3,2,1,0]]
 | 1=>[[0,1,2,3,3,2,1],[1,0,1,2,3,3,2],[2,1,0,1,2,3,3],[3,2,1,0,1,2,3],[3,3,2,1,0,1,2],[2,3,3,2,1,0,1],[1,2,3,3,2,1,0]]
 | 2=>[[0,1,2,3,2,1],[1,0,1,2,3,2],[2,1,0,1,2,3],[3,2,1,0,1,2],[2,3,2,1,0,1],[1,2,3,2,1,0]]
 | 3=>[[0,1,2,2,1],[1,0,1,2,2],[2,1,0,1,2],[2,2,1,0,1],[1,2,2,1,0]]
 | 4=>[[0,1,2,1],[1,0,1,2],[2,1,0,1],[1,2,1,0]]
 | 5=>[[0,1,1],[1,0,1],[1,1,0]]
 | 6=>[[0,1],[1,0]]
 | 7=>[[0]]
 | 8=>[[0,1,1,2,1,2,2,3],[1,0,2,1,2,1,3,2],[1,2,0,1,2,3,1,2],[2,1,1,0,3,2,2,1],[1,2,2,3,0,1,1,2],[2,1,3,2,1,0,2,1],[2,3,1,2,1,2,0,1],[3,2,2,1,2,1,1,0]]
 | 9=>[[0,1,1,2],[1,0,2,1],[1,2,0,1],[2,1,1,0]]
 | 10=>[[0,1],[1,0]]
 | 11=>[[0,1,1,1,1,1,1,1],[1,0,1,1,1,1,1,1],[1,1,0,1,1,1,1,1],[1,1,1,0,1,1,1,1],[1,1,1,1,0,1,1,1],[1,1,1,1,1,0,1,1],[1,1,1,1,1,1,0,1],[1,1,1,1,1,1,1,0]]
 | 12=>[[0,1,1,1,1,1,1],[1,0,1,1,1,1,1],[1,1,0,1,1,1,1],[1,1,1,0,1,1,1],[1,1,1,1,0,1,1],[1,1,1,1,1,0,1],[1,1,1,1,1,1,0]]
 | 13=>[[0,1,1,1,1,1],[1,0,1,1,1,1],[1,1,0,1,1,1],[1,1,1,0,1,1],[1,1,1,1,0,1],[1,1,1,1,1,0]]
 | 14=>[[0,1,1,1,1],[1,0,1,1,1],[1,1,0,1,1],[1,1,1,0,1],[1,1,1,1,0]]
 | 15=>[[0,1,1,1],[1,0,1,1],[1,1,0,1],[1,1,1,0]]
 | 16=>[[0,1,1],[1,0,1],[1,1,0]]
 | 17=>[[0,1],[1,0]]
 | 18=>[[0]]
 | 19=>[[0,1,2,2,2,2,2,2],[1,0,2,2,2,2,2,2],[2,2,0,1,2,2,2,2],[2,2,1,0,2,2,2,2],[2,2,2,2,0,1,2,2],[2,2,2,2,1,0,2,2],[2,2,2,2,2,2,0,1],[2,2,2,2,2,2,1,0]]
 | 20=>[[0,1,1,1,2,2,2,2],[1,0,1,1,2,2,2,2],[1,1,0,1,2,2,2,2],[1,1,1,0,2,2,2,2],[2,2,2,2,0,1,1,1],[2,2,2,2,1,0,1,1],[2,2,2,2,1,1,0,1],[2,2,2,2,1,1,1,0]]
 | 21=>[[0,1,2,2,2,2],[1,0,2,2,2,2],[2,2,0,1,2,2],[2,2,1,0,2,2],[2,2,2,2,0,1],[2,2,2,2,1,0]]
 | 22=>[[0,1,1,2,2,2],[1,0,1,2,2,2],[1,1,0,2,2,2],[2,2,2,0,1,1],[2,2,2,1,0,1],[2,2,2,1,1,0]]
 | 23=>[[0,1,2,2],[1,0,2,2],[2,2,0,1],[2,2,1,0]]
 | 24=>[[0,1,1,1,1,2],[1,0,1,1,2,1],[1,1,0,2,1,1],[1,1,2,0,1,1],[1,2,1,1,0,1],[2,1,1,1,1,0]]
 | 25=>[[0,1,2,3],[1,0,3,2],[2,3,0,1],[3,2,1,0]]
 | 26=>[[0,1,2,3,4,5,6,7],[1,0,3,2,5,4,7,6],[2,3,0,1,6,7,4,5],[3,2,1,0,7,6,5,4],[4,5,6,7,0,1,2,3],[5,4,7,6,1,0,3,2],[6,7,4,5,2,3,0,1],[7,6,5,4,3,2,1,0]]
 | 27=>[[0,1],[1,0]]
 | 28=>[[0,1,2,1,3,4,5,4],[1,0,1,2,4,3,4,5],[2,1,0,1,5,4,3,4],[1,2,1,0,4,5,4,3],[3,4,5,4,0,1,2,1],[4,3,4,5,1,0,1,2],[5,4,3,4,2,1,0,1],[4,5,4,3,1,2,1,0]]
 | 29=>[[0,1,1,3,4,4],[1,0,1,4,3,4],[1,1,0,4,4,3],[3,4,4,0,1,1],[4,3,4,1,0,1],[4,4,3,1,1,0]]
 | 30=>[[0,1,3,4],[1,0,4,3],[3,4,0,1],[4,3,1,0]]
 | 31=>[[0,1,2,1,3,3,3,3],[1,0,1,2,3,3,3,3],[2,1,0,1,3,3,3,3],[1,2,1,0,3,3,3,3],[3,3,3,3,0,1,2,1],[3,3,3,3,1,0,1,2],[3,3,3,3,2,1,0,1],[3,3,3,3,1,2,1,0]]
 | 32=>[[0,1,1,3,3,3],[1,0,1,3,3,3],[1,1,0,3,3,3],[3,3,3,0,1,1],[3,3,3,1,0,1],[3,3,3,1,1,0]]
 | 33=>[[0,1,3,3],[1,0,3,3],[3,3,0,1],[3,3,1,0]]
 | _=>[]
theorem EO:((List.range 34).all λ i=>VW (yt (kQ i))&&((kQ i).all λ r=>r.length==(kQ i).length)&&((kQ i).flatten.all λ v=>decide (0<=v)&&decide (v<8)))=true:=by decide +kernel
theorem HB {i:Nat}(h:i<34):qD (yt (kQ i))/\G.Sq (kQ i)/\∀v∈(kQ i).flatten,0<=v/\v<8:=by
 have:=List.all_eq_true.mp EO i (List.mem_range.mpr h)
 rw [Bool.and_eq_true,Bool.and_eq_true] at this
 refine ⟨Hh this.1.1,λ r hr=>?_,λ v hv=>?_⟩
 ·exact eq_of_beq (List.all_eq_true.mp this.1.2 r hr)
 ·have:=List.all_eq_true.mp this.2 v hv
  rw [Bool.and_eq_true,decide_eq_true_iff,decide_eq_true_iff] at this
  exact this
theorem SN {A:Hx}:∀{us:List W} {wss:List (List W)},kZ A us=some wss->∃ks:List Nat,us=ks.map W.ref/\ks.length=wss.length/\∀i,i<wss.length->A[ks.getD i 0]? =some (.lst (wss.getD i []))
 | [],wss,e=>by
  cases e
  exact ⟨[],rfl,rfl,λ i hi=>by cases hi⟩
 | .ref k::us,wss,e=>by
  unfold kZ at e
  cases h:A[k]? with
  | none=>rw [h] at e;cases e
  | some o=>
   rw [h] at e
   cases o with
   | lst ws=>
    dsimp only at e
    cases h2:kZ A us with
    | none=>rw [h2] at e;cases e
    | some vss=>
     rw [h2] at e
     cases e
     obtain ⟨ks,rfl,hl,hk⟩:=SN h2
     refine ⟨k::ks,rfl,by simp [hl],λ i hi=>?_⟩
     cases i with
     | zero=>exact h
     | succ i=>exact hk i (by simpa using hi)
   | _=>cases e
 | .non::_,_,e=>by cases e
 | .bl _::_,_,e=>by cases e
 | .int _::_,_,e=>by cases e
 | .str _::_,_,e=>by cases e
 | .tup _::_,_,e=>by cases e
 | .clo _ _ _::_,_,e=>by cases e
 | .xc _::_,_,e=>by cases e
noncomputable def V1 (x:R Fl):Option (Option O × Option (List (List W))):=match x with
 | .ok (.rt (.ref r)) B=>some (B[0]?,match B[r]? with
  | some (.lst us)=>kZ B us
  | _=>none)
 | _=>none
theorem Hz {x:R Fl}{o:O}{t:List (List Int)}(h:V1 x=some (some o,some (t.map λ r=>r.map W.int))):∃r B,x=.ok (.rt (.ref r)) B/\B[0]? =some o/\LL t r B:=by
 unfold V1 at h
 split at h
 ·rename_i r B
  injection h with h
  injection h with h1 h2
  cases h3:B[r]? with
  | none=>rw [h3] at h2;cases h2
  | some o'=>
   rw [h3] at h2
   cases o' with
   | lst us=>
    dsimp only at h2
    obtain ⟨ks,rfl,hl,hk⟩:=SN h2
    rw [List.length_map] at hl hk
    refine ⟨r,B,rfl,h1,ks,h3,hl,λ i hi=>(hk i hi).trans ?_⟩
    rw [List.getD_eq_getElem?_getD,List.getElem?_map,List.getD_eq_getElem?_getD,List.getElem?_eq_getElem hi]
    rfl
   | _=>cases h2
 ·cases h
end Mi
namespace G
open PySem L2 Mi
noncomputable def Plain (X:Ex)(ρ:En)(A:Hx):Prop:=∃i,i<34/\∃r B,X ρ A=.ok (.rt (.ref r)) B/\qo 0 B/\LL (kQ i) r B
section
variable {m1 m2:Ex}{ρ ρ1:En}{A A1 L:Hx}{c:Ev}{o:O}
theorem wb (h:m1 ρ A=.ok (.nx ρ1) A1)(q:Plain m2 ρ1 A1):Plain (zr m1 m2) ρ A:=by
 unfold Plain;rw [zM h];exact q
theorem QQ (q:Plain m1 ρ A):Plain (zr m1 m2) ρ A:=by
 obtain ⟨i,hi,r,B,e,s,l⟩:=q
 exact ⟨i,hi,r,B,qe e,s,l⟩
theorem QR (h:c ρ A=.ok (.bl true) A1)(q:Plain m1 ρ A1):Plain (qB c m1 m2) ρ A:=by
 unfold Plain;rw [yW h];exact q
theorem jC {m:Ex}(h:c ρ A=.ok (.bl false) A)(q:Plain m ρ A):Plain (zr (qB c m1 zA) m) ρ A:=wb ((j3 h).trans j8) q
theorem EG {L':Hx}(s:qo 0 (o::L)):qo 0 (o::L'):=s
theorem jb (i:Nat)(hi:i<34)(s:qo 0 (o::L))(h:V1 (m1 ρ A)=some (some o,some ((kQ i).map λ r=>r.map W.int))):Plain m1 ρ A:=by
 obtain ⟨r,B,e,h0,l⟩:=Hz h
 obtain ⟨c,b,e1,q⟩:=s
 have e1':some o=some (O.lst [.int c,.bl b]):=e1
 exact ⟨i,hi,r,B,e,⟨c,b,by rw [h0];exact e1',q⟩,l⟩
theorem take1 (s:qo 0 (o::L)){m:Int}(h1:0<m)(h2:m<1000000000000000):∃(r:Nat) (o':O),qu [.ref 0,.int m] (o::L)=.ok (.int (r:Int)) (o'::L)/\(r:Int)<m/\qo 0 (o'::L):=by
 obtain ⟨r,o',e,a,b,s'⟩:=Rz s h1 h2
 exact ⟨r.toNat,o',by rw [e,Int.toNat_of_nonneg a];rfl,by omega,s'⟩
theorem ZN {a:Ea}{vs:List W}{k:Nat}(s:qo 0 (o::L))(h0:ρ[0]? =some (some (.ref 0)))(ha:∀A,a ρ A=.ok vs A)(hk:vs.length=k)(k1:0<k)(k2:k<1000):∃(j:Nat) (w:W) (o':O),zp zG (zR a) (zD qu (zc (zh 0) (zc (zi (.int (k:Int))) (zj)))) ρ (o::L)=.ok w (o'::(L++[.lst vs]))/\j<k/\vs[j]? =some w/\qo 0 (o'::(L++[.lst vs])):=by
 obtain ⟨r,o',e,hr,s'⟩:=take1 (L:=L++[.lst vs]) (m:=(k:Int)) (EG s) (by omega) (by omega)
 have hrl:r<vs.length:=by omega
 refine ⟨r,vs[r],o',?_,by omega,List.getElem?_eq_getElem hrl,s'⟩
 refine (zL (jx (ha _)) ((qm (zV (zw h0) (zV qN qt))).trans e)).trans ?_
 have hl:(o'::(L++[O.lst vs]))[(o::L).length]? =some (.lst vs):=by
  show (L++[O.lst vs])[L.length]? =_
  exact je
 exact yI hl (List.getElem?_eq_getElem hrl)
end
theorem three {j:Nat}(h:j<3):j=0∨j=1∨j=2:=by omega
theorem V9 {j:Nat}(h:j<5):j=0∨j=1∨j=2∨j=3∨j=4:=by omega
theorem Ve {j:Nat}(h:j<8):j=0∨j=1∨j=2∨j=3∨j=4∨j=5∨j=6∨j=7:=by omega
theorem Hi {o:O}(s:qo 0 [o]):Plain (Ya qu) [some (.ref 0),none,none,none,none,none,none,none,none,none,none] [o]:=by
 unfold Ya
 obtain ⟨way,o1,e1,hw,s1⟩:=take1 s (m:=8) (by decide) (by decide)
 refine wb (ρ1:=[some (.ref 0),some (.int (way:Int)),none,none,none,none,none,none,none,none,none]) (A1:=[o1]) ((qO ((qm (ws:=[.ref 0,.int 8]) (A1:=[o]) rfl).trans e1)).trans rfl) ?_
 obtain ⟨j,w,o2,e2,hj,hjw,s2⟩:=ZN (k:=8) (ρ:=[some (.ref 0),some (.int (way:Int)),none,none,none,none,none,none,none,none,none]) (a:=zc (zi (.int 8)) (zc (zi (.int 7)) (zc (zi (.int 6)) (zc (zi (.int 5)) (zc (zi (.int 4)) (zc (zi (.int 3)) (zc (zi (.int 2)) (zc (zi (.int 1)) (zj))))))))) (vs:=[.int 8,.int 7,.int 6,.int 5,.int 4,.int 3,.int 2,.int 1]) s1 rfl (λ _=>rfl) rfl (by decide) (by decide)
 refine wb (ρ1:=[some (.ref 0),some (.int (way:Int)),some w,none,none,none,none,none,none,none,none]) (A1:=[o2,.lst [.int 8,.int 7,.int 6,.int 5,.int 4,.int 3,.int 2,.int 1]]) ((qO e2).trans rfl) ?_
 have hway:way<8:=by omega
 clear e1 e2 hw s s1
 rcases Ve hway with rfl | rfl | rfl | rfl | rfl | rfl | rfl | rfl
 ·refine QQ (QR (A1:=[o2,.lst [.int 8,.int 7,.int 6,.int 5,.int 4,.int 3,.int 2,.int 1]]) (by kernel_rfl) ?_)
  rcases Ve hj with rfl | rfl | rfl | rfl | rfl | rfl | rfl | rfl<;>cases hjw
  ·exact jb 0 (by decide) s2 (by kernel_rfl)
  ·exact jb 1 (by decide) s2 (by kernel_rfl)
  ·exact jb 2 (by decide) s2 (by kernel_rfl)
  ·exact jb 3 (by decide) s2 (by kernel_rfl)
  ·exact jb 4 (by decide) s2 (by kernel_rfl)
  ·exact jb 5 (by decide) s2 (by kernel_rfl)
  ·exact jb 6 (by decide) s2 (by kernel_rfl)
  ·exact jb 7 (by decide) s2 (by kernel_rfl)
 ·refine jC (by kernel_rfl) (QQ (QR (A1:=[o2,.lst [.int 8,.int 7,.int 6,.int 5,.int 4,.int 3,.int 2,.int 1]]) (by kernel_rfl) ?_))
  obtain ⟨j',w',o3,e3,hj',hjw',s3⟩:=ZN (k:=3) (ρ:=[some (.ref 0),some (.int ((1:Nat):Int)),some w,none,none,none,none,none,none,none,none]) (a:=zc (zi (.int 8)) (zc (zi (.int 4)) (zc (zi (.int 2)) (zj)))) (vs:=[.int 8,.int 4,.int 2]) s2 rfl (λ _=>rfl) rfl (by decide) (by decide)
  refine wb ((qO e3).trans rfl) ?_
  rcases three hj' with rfl | rfl | rfl<;>cases hjw'
  ·exact jb 8 (by decide) s3 (by kernel_rfl)
  ·exact jb 9 (by decide) s3 (by kernel_rfl)
  ·exact jb 10 (by decide) s3 (by kernel_rfl)
 ·refine jC (by kernel_rfl) (jC (by kernel_rfl) (QQ (QR (A1:=[o2,.lst [.int 8,.int 7,.int 6,.int 5,.int 4,.int 3,.int 2,.int 1]]) (by kernel_rfl) ?_)))
  rcases Ve hj with rfl | rfl | rfl | rfl | rfl | rfl | rfl | rfl<;>cases hjw
  ·exact jb 11 (by decide) s2 (by kernel_rfl)
  ·exact jb 12 (by decide) s2 (by kernel_rfl)
  ·exact jb 13 (by decide) s2 (by kernel_rfl)
  ·exact jb 14 (by decide) s2 (by kernel_rfl)
  ·exact jb 15 (by decide) s2 (by kernel_rfl)
  ·exact jb 16 (by decide) s2 (by kernel_rfl)
  ·exact jb 17 (by decide) s2 (by kernel_rfl)
  ·exact jb 18 (by decide) s2 (by kernel_rfl)
 ·refine jC (by kernel_rfl) (jC (by kernel_rfl) (jC (by kernel_rfl) (QQ (QR (A1:=[o2,.lst [.int 8,.int 7,.int 6,.int 5,.int 4,.int 3,.int 2,.int 1]]) (by kernel_rfl) ?_))))
  obtain ⟨j',w',o3,e3,hj',hjw',s3⟩:=ZN (k:=5) (ρ:=[some (.ref 0),some (.int ((3:Nat):Int)),some w,none,none,none,none,none,none,none,none]) (a:=zc (zz (zc (zi (.int 2)) (zc (zi (.int 4)) (zj)))) (zc (zz (zc (zi (.int 4)) (zc (zi (.int 2)) (zj)))) (zc (zz (zc (zi (.int 2)) (zc (zi (.int 3)) (zj)))) (zc (zz (zc (zi (.int 3)) (zc (zi (.int 2)) (zj)))) (zc (zz (zc (zi (.int 2)) (zc (zi (.int 2)) (zj)))) (zj)))))) (vs:=[.tup [.int 2,.int 4],.tup [.int 4,.int 2],.tup [.int 2,.int 3],.tup [.int 3,.int 2],.tup [.int 2,.int 2]]) s2 rfl (λ _=>rfl) rfl (by decide) (by decide)
  have asg:∀{m:Ev} {tw:Tg} {ρ ρ':En} {A A1:Hx} {w:W},m ρ A=.ok w A1->tw w ρ=some ρ'->KD m tw ρ A=.ok (.nx ρ') A1:=λ h h'=>by
   unfold KD
   rw [h,zJ,h']
  rcases V9 hj' with rfl | rfl | rfl | rfl | rfl<;>cases hjw'
  ·exact wb (asg e3 rfl) (jb 19 (by decide) s3 (by kernel_rfl))
  ·exact wb (asg e3 rfl) (jb 20 (by decide) s3 (by kernel_rfl))
  ·exact wb (asg e3 rfl) (jb 21 (by decide) s3 (by kernel_rfl))
  ·exact wb (asg e3 rfl) (jb 22 (by decide) s3 (by kernel_rfl))
  ·exact wb (asg e3 rfl) (jb 23 (by decide) s3 (by kernel_rfl))
 ·exact jC (by kernel_rfl) (jC (by kernel_rfl) (jC (by kernel_rfl) (jC (by kernel_rfl) (QQ (QR (A1:=[o2,.lst [.int 8,.int 7,.int 6,.int 5,.int 4,.int 3,.int 2,.int 1]]) (by kernel_rfl) (jb 24 (by decide) s2 (by kernel_rfl)))))))
 ·refine jC (by kernel_rfl) (jC (by kernel_rfl) (jC (by kernel_rfl) (jC (by kernel_rfl) (jC (by kernel_rfl) (QQ (QR (A1:=[o2,.lst [.int 8,.int 7,.int 6,.int 5,.int 4,.int 3,.int 2,.int 1]]) (by kernel_rfl) ?_))))))
  obtain ⟨j',w',o3,e3,hj',hjw',s3⟩:=ZN (k:=3) (ρ:=[some (.ref 0),some (.int ((5:Nat):Int)),some w,none,none,none,none,none,none,none,none]) (a:=zc (zi (.int 4)) (zc (zi (.int 8)) (zc (zi (.int 2)) (zj)))) (vs:=[.int 4,.int 8,.int 2]) s2 rfl (λ _=>rfl) rfl (by decide) (by decide)
  refine wb ((qO e3).trans rfl) ?_
  rcases three hj' with rfl | rfl | rfl<;>cases hjw'
  ·exact jb 25 (by decide) s3 (by kernel_rfl)
  ·exact jb 26 (by decide) s3 (by kernel_rfl)
  ·exact jb 27 (by decide) s3 (by kernel_rfl)
 ·refine jC (by kernel_rfl) (jC (by kernel_rfl) (jC (by kernel_rfl) (jC (by kernel_rfl) (jC (by kernel_rfl) (jC (by kernel_rfl) ?_)))))
  obtain ⟨j',w',o3,e3,hj',hjw',s3⟩:=ZN (k:=3) (ρ:=[some (.ref 0),some (.int ((6:Nat):Int)),some w,none,none,none,none,none,none,none,none]) (a:=zc (zi (.int 4)) (zc (zi (.int 3)) (zc (zi (.int 2)) (zj)))) (vs:=[.int 4,.int 3,.int 2]) s2 rfl (λ _=>rfl) rfl (by decide) (by decide)
  refine wb ((qO e3).trans rfl) ?_
  rcases three hj' with rfl | rfl | rfl<;>cases hjw'
  ·exact jb 28 (by decide) s3 (by kernel_rfl)
  ·exact jb 29 (by decide) s3 (by kernel_rfl)
  ·exact jb 30 (by decide) s3 (by kernel_rfl)
 ·refine jC (by kernel_rfl) (jC (by kernel_rfl) (jC (by kernel_rfl) (jC (by kernel_rfl) (jC (by kernel_rfl) (jC (by kernel_rfl) ?_)))))
  obtain ⟨j',w',o3,e3,hj',hjw',s3⟩:=ZN (k:=3) (ρ:=[some (.ref 0),some (.int ((7:Nat):Int)),some w,none,none,none,none,none,none,none,none]) (a:=zc (zi (.int 4)) (zc (zi (.int 3)) (zc (zi (.int 2)) (zj)))) (vs:=[.int 4,.int 3,.int 2]) s2 rfl (λ _=>rfl) rfl (by decide) (by decide)
  refine wb ((qO e3).trans rfl) ?_
  rcases three hj' with rfl | rfl | rfl<;>cases hjw'
  ·exact jb 31 (by decide) s3 (by kernel_rfl)
  ·exact jb 32 (by decide) s3 (by kernel_rfl)
  ·exact jb 33 (by decide) s3 (by kernel_rfl)
theorem Ho {o:O}(s:qo 0 [o]):∃i,i<34/\∃r B,Qr [.ref 0] [o]=.ok (.ref r) B/\qo 0 B/\LL (kQ i) r B:=by
 obtain ⟨i,hi,r,B,e,q⟩:=Hi s
 refine ⟨i,hi,r,B,?_,q⟩
 unfold Qr UO
 exact qy e
end G
namespace Mi
open PySem L2
noncomputable def Up (g:Nat->W):W->W
 | .int v=>g v.toNat
 | w=>w
theorem Ss (g:Nat->W)(o:List Nat):((o.map λ (a:Nat)=>(a:Int)).map W.int).map (Up g)=o.map g:=by
 rw [List.map_map,List.map_map]
 apply List.map_congr_left
 intro a _
 show g (Int.toNat (a:Int))=g a
 rw [Int.toNat_natCast]
theorem TU {fd:List Int}{M:Nat}{s:Int}(h:fd.Perm ((List.range M).map λ (k:Nat)=>s+(k:Int))):∃p:List Nat,fd=p.map (λ (k:Nat)=>s+(k:Int))/\p.Perm (List.range M):=by
 refine ⟨fd.map λ v=>(v - s).toNat,?_,?_⟩
 ·rw [List.map_map]
  conv=>lhs;rw [<- List.map_id fd]
  apply List.map_congr_left
  intro v hv
  obtain ⟨k,_,rfl⟩:=List.mem_map.mp (h.mem_iff.mp hv)
  show s+(k:Int)=s+(((s+(k:Int) - s).toNat:Nat):Int)
  omega
 ·have:=h.map λ v=>(v - s).toNat
  rw [List.map_map] at this
  have e:(List.range M).map ((λ v:Int=>(v - s).toNat) ∘ λ (k:Nat)=>s+(k:Int))=List.range M:=by
   conv=>rhs;rw [<- List.map_id (List.range M)]
   apply List.map_congr_left
   intro k _
   show (s+(k:Int) - s).toNat=k
   omega
  rw [e] at this
  exact this
end Mi
namespace G
open PySem L2 Mi
section
variable {t:List (List Int)}{A B:Hx}{ρ:En}{n:Nat}
theorem Xt (h:qD t){i:Nat}(hi:ρ[i]? =some (some (zC t))):mQ jU (zN 1 [] (qj (zh i)) (zI 0) (zi (.bl true)) (zK (mQ jU (qa (zh 0))))) ρ A=.ok (.int (qT t - 1)) A:=by
 have n8:=h.n8
 have ec:=Jg (cap:=[]) (A:=A) (ρ:=ρ) (o:=t) (f:=zy) (m:=zh i) (me:=mQ jU (qa (zh 0))) (G:=λ r=>.int (kq r)) (zw hi) (by unfold zW;omega) (λ r hr=>(yA (ka (w:=zy r) (ws:=r.map W.int) (A1:=A) (zw rfl) rfl)).trans (SY (h.row_ne hr)))
 have em:(t.map λ r=>W.int (kq r))=(t.map kq).map W.int:=by rw [List.map_map];rfl
 rw [em] at ec
 refine ((yA ec).trans (SY h.map_ne)).trans ?_
 have:qT t - 1=kq (t.map kq):=by unfold qT;omega
 rw [this]
theorem Mg {ma mb:Ev}{M:Nat}(ha:ma ρ A=.ok (.int 1) A)(hb:mb ρ A=.ok (.int (1+(M:Int))) A)(hM:M<=100):Jn ma mb ρ A=.ok (.ref A.length) (A++[.lst (((List.range M).map λ (k:Nat)=>1+(k:Int)).map W.int)]):=by
 unfold Jn
 rw [ha,zJ,hb,zJ]
 dsimp only
 have e:(1+(M:Int) - 1).toNat=M:=by omega
 rw [if_pos (by
  have s1:jz 1=true:=by decide
  have s2:jz (1+(M:Int))=true:=by unfold jz;simp;omega
  rw [s1,s2,e,decide_eq_true (by unfold zW;omega)];rfl),e,List.map_map]
 rfl
theorem HH {o:O}(s:qo 0 [o]):∃t B,Gh [.ref 0] [o]=.ok (zC t) B/\qo 0 B/\qD t:=by
 obtain ⟨i,hi,r,B0,e0,s0,l0⟩:=Ho s
 obtain ⟨tt,sq,hb⟩:=HB hi
 have hlen:(yt (kQ i)).length=(kQ i).length:=by unfold yt;rw [List.length_map]
 have m1:=tt.n1
 have m8:=tt.n8
 obtain ⟨B1,e1,x1⟩:=SR (by omega) (by omega) sq hb l0
 have s1:=s0.ext x1
 generalize hu:yt (kQ i)=u at *
 clear hu hlen l0
 have n1:=tt.n1
 have n8:=tt.n8
 have kb:=VP tt
 obtain ⟨M,hM⟩:=Int.eq_ofNat_of_zero_le (show 0<=qT u - 1 by omega)
 have el:=Zw (ws:=u.map zy) (ρ:=[some (.ref 0),some (zC u),none,none]) (i:=1) (A:=B1) rfl
 rw [List.length_map] at el
 have e2:=NX el (by omega)
 have hil:iL (List.range u.length)=((List.range u.length).map λ (a:Nat)=>0+(a:Int)).map W.int:=by
  rw [List.map_map]
  apply List.map_congr_left
  intro a _
  show W.int (a:Int)=W.int (0+(a:Int))
  rw [Int.zero_add]
 rw [hil] at e2
 have s2:=s1.ext (Ext.one (o:=.lst (((List.range u.length).map λ (a:Nat)=>0+(a:Int)).map W.int)))
 obtain ⟨r2,B2,fd,e3,h2,p2,k2,nw2⟩:=Su s2 je (by simp;omega)
 obtain ⟨od,rfl,po⟩:=TU p2
 have hod:(od.map λ (k:Nat)=>(0:Int)+(k:Int))=od.map λ (k:Nat)=>(k:Int):=List.map_congr_left λ a _=>by omega
 rw [hod] at h2
 have es2:zD gw (zc (zh 0) (zc (Jo (mQ qK (qa (zh 1)))) (zj))) [some (.ref 0),some (zC u),none,none] B1=.ok (.ref r2) B2:=(qm (zV (zw (i:=0) rfl) (zV e2 qt))).trans e3
 have hr20:0<r2:=by have:=s1.lt;simp at nw2;omega
 have e4:zR (zc (zi (.int 0)) (zj)) [some (.ref 0),some (zC u),some (.ref r2),none] B2=.ok (.ref B2.length) (B2++[.lst [.int 0]]):=jx (zV qN qt)
 have s3:=k2.st.ext (Ext.one (o:=.lst [.int 0]))
 have h2':=yh (u:=.lst [.int 0]) h2
 have hz:(B2++[.lst [.int 0]])[B2.length]? =some (.lst [.int 0]):=je
 have h2l:=wR h2
 have hB2:0<B2.length:=by omega
 generalize B2++[.lst [.int 0]]=B3 at e4 s3 h2' hz
 have emx:=Xt tt (ρ:=[some (.ref 0),some (zC u),some (.ref r2),none]) (i:=1) (A:=B3) rfl
 rw [hM] at emx
 have e5:=Mg (ρ:=[some (.ref 0),some (zC u),some (.ref r2),none]) (A:=B3) (M:=M) (ma:=zi (.int 1)) (mb:=zp z8 (zi (.int 1)) (mQ jU (zN 1 [] (qj (zh 1)) (zI 0) (zi (.bl true)) (zK (mQ jU (qa (zh 0))))))) qN ((zL qN emx).trans rfl) (by omega)
 have s4:=s3.ext (Ext.one (o:=.lst (((List.range M).map λ (k:Nat)=>1+(k:Int)).map W.int)))
 obtain ⟨r3,B4,fd3,e6,h3,p3,k3,nw3⟩:=Su s4 je (by simp;omega)
 obtain ⟨pk,rfl,pp⟩:=TU p3
 have h2'':=k3.kp.get (yh h2') (by omega)
 have hz':=k3.kp.get (yh hz) (by omega)
 have es3:zp z8 (zR (zc (zi (.int 0)) (zj))) (zD gw (zc (zh 0) (zc (Jn (zi (.int 1)) (zp z8 (zi (.int 1)) (mQ jU (zN 1 [] (qj (zh 1)) (zI 0) (zi (.bl true)) (zK (mQ jU (qa (zh 0)))))))) (zj)))) [some (.ref 0),some (zC u),some (.ref r2),none] B2=.ok (.ref B4.length) (B4++[.lst ((jP pk).map W.int)]):=by
  refine (zL e4 ((qm (zV (zw (i:=0) rfl) (zV e5 qt))).trans e6)).trans ((Yz hz' h3 ?_).trans rfl)
  have:=pp.length_eq
  rw [List.length_range] at this
  rw [List.length_map,List.length_map,this]
  unfold zW
  simp
  omega
 have h5:=yh (u:=.lst ((jP pk).map W.int)) h2''
 have h6:(B4++[.lst ((jP pk).map W.int)])[B4.length]? =some (.lst ((jP pk).map W.int)):=je
 have s5:=k3.st.ext (Ext.one (o:=.lst ((jP pk).map W.int)))
 generalize hB5:B4++[.lst ((jP pk).map W.int)]=B5 at es3 h5 h6 s5
 have hol:od.length=u.length:=by rw [po.length_eq,List.length_range]
 have hom:∀a∈od,a<u.length:=λ a ha=>List.mem_range.mp (po.mem_iff.mp ha)
 have hpl:pk.length=M:=by rw [pp.length_eq,List.length_range]
 have hM':(qT u - 1).toNat=M:=by omega
 have res:=NP tt (p:=pk) (o:=od) (by rw [hM'];exact pp) po
 refine ⟨Qa u pk od,B5,?_,s5,res.1⟩
 unfold Gh
 refine qy ?_
 unfold W4
 refine (zM ((qO ((qm (zV ((qm (zV (zw (i:=0) rfl) qt)).trans e0) qt)).trans e1)).trans rfl)).trans ((zM ((qO es2).trans rfl)).trans ((zM ((qO es3).trans rfl)).trans (qe (qC ?_))))
 have inner:∀a,a∈od->∀b,b∈od->zp zG (zh 3) (zp zG (zp zG (zh 2) (zh 1)) (zh 0)) [some (.int (b:Int)),some (.int (a:Int)),some (zC u),some (.ref B4.length)] B5=.ok (.int ((jP pk).getD (at2 u a b).toNat 0)) B5:=λ a ha b hb=>by
  have la:=hom a ha
  have lb:=hom b hb
  have bd:=RH tt la lb
  have kg:=Y7 tt la lb
  obtain ⟨v,hv⟩:=Int.eq_ofNat_of_zero_le bd.1
  have e:zp zG (zp zG (zh 2) (zh 1)) (zh 0) [some (.int (b:Int)),some (.int (a:Int)),some (zC u),some (.ref B4.length)] B5=.ok (.int (v:Int)) B5:=by
   rw [<- hv]
   exact (zL ((zL (zw rfl) (zw rfl)).trans (Rn la)) (zw rfl)).trans (Kf (by rw [tt.sq _ (kW la)];exact lb))
  have hvl:v<(jP pk).length:=by
   show v<(pk.map _).length+1
   rw [List.length_map]
   omega
  refine (zL (zw (i:=3) rfl) e).trans (yI h6 ?_)
  rw [hv,Int.toNat_natCast,List.getElem?_map,List.getElem?_eq_getElem hvl,List.getD_eq_getElem?_getD,List.getElem?_eq_getElem hvl]
  rfl
 have ec:=Xl (cap:=[1,2,3]) (m:=zh 2) (me:=mQ j0 (zN 1 [0,1,3] (qj (zh 2)) (zI 0) (zi (.bl true)) (zK (zp zG (zh 3) (zp zG (zp zG (zh 2) (zh 1)) (zh 0)))))) (ρ:=[some (.ref 0),some (zC u),some (.ref r2),some (.ref B4.length)]) (A:=B5) (g:=Up λ a=>zy (od.map λ b=>(jP pk).getD (at2 u a b).toNat 0)) (zw rfl) h5 (by simp;unfold zW;omega) (λ w hw=>by
  obtain ⟨v,hv,rfl⟩:=List.mem_map.mp hw
  obtain ⟨a,ha,rfl⟩:=List.mem_map.mp hv
  have ei:=Xl (cap:=[0,1,3]) (m:=zh 2) (me:=zp zG (zh 3) (zp zG (zp zG (zh 2) (zh 1)) (zh 0))) (ρ:=[some (.int (a:Int)),some (zC u),some (.ref r2),some (.ref B4.length)]) (A:=B5) (g:=Up λ b=>.int ((jP pk).getD (at2 u a b).toNat 0)) (zw rfl) h5 (by simp;unfold zW;omega) (λ w hw=>by
   obtain ⟨v,hv,rfl⟩:=List.mem_map.mp hw
   obtain ⟨b,hb,rfl⟩:=List.mem_map.mp hv
   refine (inner a ha b hb).trans ?_
   show _=R.ok (W.int ((jP pk).getD (at2 u a (Int.toNat (b:Int))).toNat 0)) B5
   rw [Int.toNat_natCast])
  rw [Ss] at ei
  refine (gN ei).trans ?_
  show _=R.ok (zy (od.map λ b=>(jP pk).getD (at2 u (Int.toNat (a:Int)) b).toNat 0)) B5
  rw [Int.toNat_natCast]
  unfold zy
  rw [List.map_map]
  rfl)
 rw [Ss] at ec
 refine (gN ec).trans ?_
 unfold zC Qa
 rw [List.map_map]
 rfl
theorem Hd (s:qo n A):∃t B,gE [.ref n] A=.ok (zC t) B/\qD t/\Kn n A B/\B.length=A.length:=by
 obtain ⟨c,b,hA,hc,hb⟩:=s
 have hm:=wR hA
 obtain ⟨t,A1,e,⟨c',b',e',hc',hb'⟩,tb⟩:=HH (o:=.lst [.int c,.bl b]) ⟨c,b,rfl,hc,hb⟩
 refine ⟨t,A.set n (.lst [.int c',.bl b']),?_,tb,⟨Kp.set,c',b',List.getElem?_set_self hm,hc',hb'⟩,List.length_set ..⟩
 unfold gE
 exact XF hA rfl e e' (gL t)
end
structure LM (N b0 r:Nat)(μ:Nat->Nat->Int)(C:Hx):Prop where
 top:C[r]? =some (.lst ((List.range N).map λ i=>W.ref (b0+i)))
 row:∀i,i<N->C[b0+i]? =some (.lst ((List.range N).map λ j=>W.int (μ i j)))
 lt:b0+N<=r
 pos:0<b0
 st:qo 0 C
structure Sy (N:Nat)(μ:Nat->Nat->Int):Prop where
 dg:∀a b,a<N->b<N->(μ a b=0↔a=b)
 sy:∀a b,a<N->b<N->μ a b=μ b a
 lo:∀a b,a<N->b<N->0<=μ a b/\μ a b<(N:Int)
section
variable {N b0 r a b:Nat}{μ:Nat->Nat->Int}{C:Hx}{t:List (List Int)}{ρ:En}
theorem Sy.step (h:Sy N μ)(ha:a<N)(hb:b<N)(hab:a≠b){k:Int}(k1:1<=k)(k2:k<(N:Int)):Sy N (gr (gr μ a b k) b a k):=by
 have at_:∀i j,gr (gr μ a b k) b a k i j=if (i=b/\j=a)∨(i=a/\j=b) then k else μ i j:=λ i j=>by
  unfold gr
  by_cases q1:i=b/\j=a
  ·rw [if_pos q1,if_pos (.inl q1)]
  ·rw [if_neg q1]
   by_cases q2:i=a/\j=b
   ·rw [if_pos q2,if_pos (.inr q2)]
   ·rw [if_neg q2,if_neg (by rintro (z | z);exact q1 z;exact q2 z)]
 refine ⟨λ i j hi hj=>?_,λ i j hi hj=>?_,λ i j hi hj=>?_⟩
 ·rw [at_]
  by_cases q:(i=b/\j=a)∨(i=a/\j=b)
  ·rw [if_pos q]
   constructor
   ·intro z;omega
   ·intro z;omega
  ·rw [if_neg q];exact h.dg i j hi hj
 ·rw [at_,at_]
  by_cases q:(i=b/\j=a)∨(i=a/\j=b)
  ·rw [if_pos q,if_pos (by rcases q with ⟨z1,z2⟩ | ⟨z1,z2⟩;exact .inr ⟨z2,z1⟩;exact .inl ⟨z2,z1⟩)]
  ·rw [if_neg q,if_neg (by rintro (⟨z1,z2⟩ | ⟨z1,z2⟩);exact q (.inr ⟨z2,z1⟩);exact q (.inl ⟨z2,z1⟩))]
   exact h.sy i j hi hj
 ·rw [at_]
  by_cases q:(i=b/\j=a)∨(i=a/\j=b)
  ·rw [if_pos q];omega
  ·rw [if_neg q];exact h.lo i j hi hj
theorem Hf {g:Nat->Int}{k:Int}(hb:b<N):((List.range N).map λ j=>W.int (g j)).set b (.int k)=(List.range N).map λ j=>W.int (if j=b then k else g j):=by
 apply List.ext_getElem?
 intro i
 by_cases hi:i<N
 ·by_cases q:b=i
  ·subst q
   rw [List.getElem?_set_self (by simpa using hi),List.getElem?_map,List.getElem?_range hi]
   simp
  ·rw [List.getElem?_set_ne q,List.getElem?_map,List.getElem?_map,List.getElem?_range hi]
   simp [Ne.symm q]
 ·rw [List.getElem?_eq_none (by simp;omega),List.getElem?_eq_none (by simp;omega)]
theorem LM.put (h:LM N b0 r μ C)(ha:a<N)(hb:b<N)(k:Int):∃C',yL (.ref (b0+a)) (.int (b:Int)) (.int k) C=.ok () C'/\LM N b0 r (gr μ a b k) C':=by
 have hr:=h.row a ha
 have hlt:=wR hr
 have h1:=h.lt
 have h2:=h.pos
 refine ⟨_,Ha hr (by simp;omega),?_,λ i hi=>?_,h1,h2,h.st.put (by omega)⟩
 ·rw [List.getElem?_set_ne (by omega)];exact h.top
 ·by_cases q:i=a
  ·subst q
   rw [List.getElem?_set_self hlt,Hf hb]
   congr 3
   funext j
   unfold gr
   by_cases z:j=b
   ·rw [if_pos z,if_pos ⟨rfl,z⟩]
   ·rw [if_neg z,if_neg (by rintro ⟨_,w⟩;exact z w)]
  ·rw [List.getElem?_set_ne (by omega),h.row i hi]
   congr 3
   funext j
   unfold gr
   rw [if_neg (by rintro ⟨w,_⟩;exact q w)]
theorem LM.kn {C':Hx}(h:LM N b0 r μ C)(k:Kn 0 C C'):LM N b0 r μ C':=by
 have h1:=h.lt
 have h2:=h.pos
 exact ⟨k.kp.get h.top (by omega),λ i hi=>k.kp.get (h.row i hi) (by omega),h1,h2,k.st⟩
theorem LM.ix (h:LM N b0 r μ C){i:Nat}{m:Ev}(hm:m ρ C=.ok (.ref r) C)(hi:ρ[i]? =some (some (.int (a:Int))))(ha:a<N):zp zG m (zh i) ρ C=.ok (.ref (b0+a)) C:=
 (zL hm (zw hi)).trans (yI h.top (by rw [List.getElem?_map,List.getElem?_range ha];rfl))
theorem LM.ix2 (h:LM N b0 r μ C){i j:Nat}{m:Ev}(hm:m ρ C=.ok (.ref r) C)(hi:ρ[i]? =some (some (.int (a:Int))))(hj:ρ[j]? =some (some (.int (b:Int))))(ha:a<N)(hb:b<N):zp zG (zp zG m (zh i)) (zh j) ρ C=.ok (.int (μ a b)) C:=
 (zL (h.ix hm hi ha) (zw hj)).trans (yI (h.row a ha) (by rw [List.getElem?_map,List.getElem?_range hb];rfl))
noncomputable abbrev Ud (me:Ev)(rest:Ex):Ex:=zr (kh yL (zp z8 (zi (.int 1)) (zD qu (zc (zh 0) (zc me (zj))))) (zp zG (zh 2) (zh 4)) (zh 5)) (zr (kh yL (zp zG (zp zG (zh 2) (zh 4)) (zh 5)) (zp zG (zh 2) (zh 5)) (zh 4)) rest)
theorem So (h:LM N b0 r μ C)(q:Sy N μ)(ha:a<N)(hb:b<N)(hab:a≠b)(h0:ρ[0]? =some (some (.ref 0)))(h2:ρ[2]? =some (some (.ref r)))(h4:ρ[4]? =some (some (.int (a:Int))))(h5:ρ[5]? =some (some (.int (b:Int)))){me:Ev}{m:Int}(hm:me ρ C=.ok (.int m) C)(m1:0<m)(m2:m<(N:Int))(hN:N<=8)(rest:Ex):
  ∃μ' C',Ud me rest ρ C=rest ρ C'/\LM N b0 r μ' C'/\Sy N μ':=by
 obtain ⟨k,C1,e1,hk,k1,_⟩:=wV h.st h0 hm m1 (by omega)
 have l1:=h.kn k1
 obtain ⟨C2,e2,l2⟩:=l1.put ha hb (1+(k:Int))
 obtain ⟨C3,e3,l3⟩:=l2.put hb ha (1+(k:Int))
 refine ⟨_,C3,?_,l3,q.step ha hb hab (by omega) (by omega)⟩
 refine (zM (ρ1:=ρ) (A1:=C2) ?_).trans (zM (ρ1:=ρ) (A1:=C3) ?_)
 ·unfold kh
  rw [(zL (qN (w:=.int 1)) e1).trans (show z8 (.int 1) (.int (k:Int)) C1=.ok (.int (1+(k:Int))) C1 from rfl),zJ,l1.ix (zw h2) h4 ha,zJ,zw h5,zJ,e2,zJ]
 ·have ev:gr μ a b (1+(k:Int)) a b=1+(k:Int):=by unfold gr;rw [if_pos ⟨rfl,rfl⟩]
  unfold kh
  rw [l2.ix2 (zw h2) h4 h5 ha hb,zJ,l2.ix (zw h2) h5 hb,zJ,zw h4,zJ,ev,e3,zJ]
theorem LM.ll (h:LM N b0 r μ C):LL (yd N μ) r C:=by
 refine ⟨(List.range N).map λ i=>b0+i,by rw [h.top,List.map_map];rfl,by rw [YH];simp,λ i hi=>?_⟩
 rw [YH] at hi
 have e1:((List.range N).map λ i=>b0+i).getD i 0=b0+i:=by rw [List.getD_eq_getElem?_getD,List.getElem?_map,List.getElem?_range hi];rfl
 have e2:(yd N μ).getD i []=(List.range N).map (μ i):=by unfold yd;rw [List.getD_eq_getElem?_getD,List.getElem?_map,List.getElem?_range hi];rfl
 rw [e1,e2,h.row i hi,List.map_map]
 rfl
theorem LM.fin (h:LM N b0 r μ C)(q:Sy N μ)(n1:1<=N)(n8:N<=8)(h2:ρ[2]? =some (some (.ref r))):∃u B,zD kS (zc (zh 2) (zj)) ρ C=.ok (zC u) B/\qD u/\qo 0 B:=by
 have hl:=YH (n:=N) (μ:=μ)
 have hb:∀v∈(yd N μ).flatten,0<=v/\v<(N:Int):=λ v hv=>by
  obtain ⟨a,b,ha,hb,rfl⟩:=gI XH hv
  rw [hl] at ha hb
  rw [Zk ha hb]
  exact q.lo a b ha hb
 obtain ⟨B,e,x⟩:=SR (t:=yd N μ) (by omega) (by omega) XH (λ v hv=>by have:=hb v hv;omega) h.ll
 refine ⟨_,B,(qm (zV (zw h2) qt)).trans e,N5 (by omega) (by omega) XH ?_ ?_ ?_,h.st.ext x⟩
 ·intro a b ha hb;rw [hl] at ha hb;rw [Zk ha hb];exact q.dg a b ha hb
 ·intro a b ha hb;rw [hl] at ha hb;rw [Zk ha hb,Zk hb ha];exact q.sy a b ha hb
 ·intro a b ha hb;rw [hl] at ha hb ⊢;rw [Zk ha hb];exact q.lo a b ha hb
theorem Fs {B:Hx}(h:qD t)(s:qo 0 B):LM t.length B.length (B.length+t.length) (at2 t) (B++(t.map λ r=>O.lst (r.map W.int))++[O.lst ((List.range t.length).map λ i=>W.ref (B.length+i))])/\Sy t.length (at2 t):=by
 refine ⟨⟨Xm,λ i hi=>?_,Nat.le_refl _,s.lt,s.ext ⟨(t.map λ r=>O.lst (r.map W.int))++[O.lst ((List.range t.length).map λ i=>W.ref (B.length+i))],by rw [List.append_assoc]⟩⟩,h.dg,h.sy,λ a b ha hb=>?_⟩
 ·rw [XC hi]
  congr 2
  have hr:=h.sq _ (kW hi)
  have:=Qo (t.getD i []) 0 W.int
  rw [this,hr]
  rfl
 ·obtain ⟨rr,h1,h2,_⟩:=YZ h.sq ha hb
  exact h.lo rr h1 _ h2
theorem Fx {o:O}(s:qo 0 [o]):∃t B,Ge [.ref 0] [o]=.ok (zC t) B/\qo 0 B/\qD t:=by
 unfold Ge
 unfold WT
 obtain ⟨way,B0,e0,hw,k0,_⟩:=wV (ρ:=[some (.ref 0),none,none,none,none,none,none]) (me:=zi (.int 3)) s rfl qN (by decide:(0:Int)<3) (by decide)
 have go:∀m2:Ex,zr (zT 1 (zD qu (zc (zh 0) (zc (zi (.int 3)) (zj))))) m2 [some (.ref 0),none,none,none,none,none,none] [o]=m2 [some (.ref 0),some (.int (way:Int)),none,none,none,none,none] B0:=λ m2=>zM ((qO e0).trans rfl)
 obtain ⟨t,B1,e1,ht,k1,_⟩:=Hd k0.st
 have n1:=ht.n1
 have n8:=ht.n8
 have ew:zp jl (zh 1) (zi (.int 0)) [some (.ref 0),some (.int (way:Int)),none,none,none,none,none] B0=.ok (.bl (decide ((way:Int)=0))) B0:=(zL (zw rfl) qN).trans (Qi _ _ _)
 have ek:zD gE (zc (zh 0) (zj)) [some (.ref 0),some (.int (way:Int)),none,none,none,none,none] B0=.ok (zC t) B1:=(qm (zV (zw rfl) qt)).trans e1
 by_cases q0:(way:Int)=0
 ·rw [decide_eq_true q0] at ew
  exact ⟨t,B1,qy ((go _).trans (qe ((yW ew).trans (qe (qC ek))))),k1.st,ht⟩
 ·rw [decide_eq_false q0] at ew
  have er:=NM (B:=B1) n8 ht.sq ek
  obtain ⟨lm,sy⟩:=Fs ht k1.st
  generalize B1++(t.map λ r=>O.lst (r.map W.int))++[O.lst ((List.range t.length).map λ i=>W.ref (B1.length+i))]=C at er lm
  generalize B1.length+t.length=r at er lm
  generalize B1.length=b0 at lm
  generalize at2 t=μ at lm sy
  generalize hN:t.length=N at lm sy n1 n8
  have elen:mQ qK (qa (zh 2)) [some (.ref 0),some (.int (way:Int)),some (.ref r),none,none,none,none] C=.ok (.int (N:Int)) C:=by
   rw [yA (ka (w:=.ref r) (A1:=C) (zw rfl) (by unfold zU;dsimp only;rw [lm.top]))]
   unfold qK
   simp
  have go2:∀m1 m2:Ex,zr (zT 1 (zD qu (zc (zh 0) (zc (zi (.int 3)) (zj))))) (zr (qB (zp jl (zh 1) (zi (.int 0))) m1 zA) (zr (zT 2 (qg (zN 1 [] (qj (zD gE (zc (zh 0) (zj)))) (zI 0) (zi (.bl true)) (zK (qg (qa (zh 0))))))) (zr (zT 3 (mQ qK (qa (zh 2)))) m2))) [some (.ref 0),none,none,none,none,none,none] [o]=m2 [some (.ref 0),some (.int (way:Int)),some (.ref r),some (.int (N:Int)),none,none,none] C:=λ m1 m2=>
   (go _).trans ((zM ((j3 ew).trans j8)).trans ((zM ((qO er).trans rfl)).trans (zM ((qO elen).trans rfl))))
  have ec:yk (zp jl (zh 1) (zi (.int 1))) (zp Uo (zh 3) (zi (.int 1))) [some (.ref 0),some (.int (way:Int)),some (.ref r),some (.int (N:Int)),none,none,none] C=.ok (.bl (decide ((way:Int)=1)&&decide ((1:Int)<(N:Int)))) C:=by
   have e:zp jl (zh 1) (zi (.int 1)) [some (.ref 0),some (.int (way:Int)),some (.ref r),some (.int (N:Int)),none,none,none] C=.ok (.bl (decide ((way:Int)=1))) C:=(zL (zw rfl) qN).trans (Qi _ _ _)
   by_cases z:(way:Int)=1
   ·rw [decide_eq_true z] at e ⊢
    exact (kX e).trans ((zL (zw rfl) qN).trans rfl)
   ·rw [decide_eq_false z] at e ⊢
    exact gM e
  cases hd:(decide ((way:Int)=1)&&decide ((1:Int)<(N:Int))) with
  | true=>
   rw [hd] at ec
   have hN2:2<=N:=by
    rw [Bool.and_eq_true,decide_eq_true_iff,decide_eq_true_iff] at hd
    omega
   obtain ⟨a,C1,e2,ha,k2,_⟩:=wV (ρ:=[some (.ref 0),some (.int (way:Int)),some (.ref r),some (.int (N:Int)),none,none,none]) (me:=zh 3) lm.st rfl (zw rfl) (by omega:(0:Int)<(N:Int)) (by omega)
   obtain ⟨q,C2,e3,hq,k3,_⟩:=wV (ρ:=[some (.ref 0),some (.int (way:Int)),some (.ref r),some (.int (N:Int)),some (.int (a:Int)),none,none]) (me:=zp yf (zh 3) (zi (.int 1))) (m:=(N:Int) - 1) k2.st rfl ((zL (zw rfl) qN).trans rfl) (by omega) (by omega)
   have lm2:=(lm.kn k2).kn k3
   have hb:(a+1+q) % N<N:=Nat.mod_lt _ (by omega)
   have hab:a≠(a+1+q) % N:=by
    intro z
    by_cases g:a+1+q<N
    ·rw [Nat.mod_eq_of_lt g] at z;omega
    ·rw [Nat.mod_eq_sub_mod (by omega),Nat.mod_eq_of_lt (by omega)] at z
     omega
   have e4:zp yT (zp z8 (zp z8 (zh 4) (zi (.int 1))) (zD qu (zc (zh 0) (zc (zp yf (zh 3) (zi (.int 1))) (zj))))) (zh 3) [some (.ref 0),some (.int (way:Int)),some (.ref r),some (.int (N:Int)),some (.int (a:Int)),none,none] C1=.ok (.int (((a+1+q) % N:Nat):Int)) C2:=by
    refine (zL ((zL ((zL (zw rfl) qN).trans (show z8 (.int (a:Int)) (.int 1) C1=.ok (.int ((a:Int)+1)) C1 from rfl)) e3).trans (show z8 (.int ((a:Int)+1)) (.int (q:Int)) C2=.ok (.int ((a:Int)+1+(q:Int))) C2 from rfl)) (zw (i:=3) rfl)).trans ((ZX (by omega)).trans ?_)
    congr 2
   obtain ⟨μ',C3,e5,lm3,sy3⟩:=So (ρ:=[some (.ref 0),some (.int (way:Int)),some (.ref r),some (.int (N:Int)),some (.int (a:Int)),some (.int (((a+1+q) % N:Nat):Int)),none]) (me:=zp yf (zh 3) (zi (.int 1))) (m:=(N:Int) - 1) lm2 sy (by omega) hb hab rfl rfl rfl rfl ((zL (zw rfl) qN).trans rfl) (by omega) (by omega) n8 (zr (zZ (zD kS (zc (zh 2) (zj)))) (zA))
   obtain ⟨u,B,e6,hu,sB⟩:=lm3.fin sy3 n1 n8 (ρ:=[some (.ref 0),some (.int (way:Int)),some (.ref r),some (.int (N:Int)),some (.int (a:Int)),some (.int (((a+1+q) % N:Nat):Int)),none]) rfl
   refine ⟨u,B,qy ((go2 _ _).trans (qe ((yW ec).trans ?_))),sB,hu⟩
   exact (zM ((qO e2).trans rfl)).trans ((zM ((qO e4).trans rfl)).trans (e5.trans (qe (qC e6))))
  | false=>
   rw [hd] at ec
   have xo:Ext C (C++[.lst [.int 2,.int 3,.int 1]]):=Ext.one
   obtain ⟨j,C1,e2,hj,k2,_⟩:=wV (ρ:=[some (.ref 0),some (.int (way:Int)),some (.ref r),some (.int (N:Int)),none,none,none]) (me:=zi (.int 3)) (lm.st.ext xo) rfl qN (by decide:(0:Int)<3) (by decide)
   have lm1:LM N b0 r μ C1:=(lm.kn (Kn.ext lm.st xo)).kn k2
   obtain ⟨far,hf1,ef⟩:∃far:Int,1<=far/\zp zG (zR (zc (zi (.int 2)) (zc (zi (.int 3)) (zc (zi (.int 1)) (zj))))) (zD qu (zc (zh 0) (zc (zi (.int 3)) (zj)))) [some (.ref 0),some (.int (way:Int)),some (.ref r),some (.int (N:Int)),none,none,none] C=.ok (.int far) C1:=by
    have hat:=k2.kp.get (je (A:=C)) (by have:=lm.st.lt;omega)
    have hj3:j<3:=by omega
    rcases three hj3 with rfl | rfl | rfl
    ·exact ⟨2,by decide,(zL (jx rfl) e2).trans (yI hat rfl)⟩
    ·exact ⟨3,by decide,(zL (jx rfl) e2).trans (yI hat rfl)⟩
    ·exact ⟨1,by decide,(zL (jx rfl) e2).trans (yI hat rfl)⟩
   have rng:∀(i:Nat) (ρ:En) (D:Hx) (k:Nat),k<=8->ρ[i]? =some (some (.int (k:Int)))->ji (zh i) ρ D=.ok (yU 0 k) D:=λ i ρ D k hk h=>by
    have:=Jl (m:=zh i) (A:=D) (zw h) (Yt (n:=k) (by omega))
    rw [Int.toNat_natCast] at this
    exact this
   obtain ⟨ρ',D,e3,⟨μ',lm3,sy3⟩,y4,y5,hρ⟩:=Yp (j:=yU 0 N) (st:=turn (zI 4) (zr (kJ (ji (zh 4)) (zI 5) (Ud (zp Zx (zh 6) (zp yf (zh 3) (zi (.int 1)))) zA)) (zA))) (N:=N)
    (I:=λ _ ρ D=>(∃μ,LM N b0 r μ D/\Sy N μ)/\∃y4 y5,ρ=[some (.ref 0),some (.int (way:Int)),some (.ref r),some (.int (N:Int)),y4,y5,some (.int far)])
    (λ a ρ D ha ⟨⟨μ,lm,sy⟩,y4,y5,hρ⟩=>by
     subst hρ
     obtain ⟨ρ',D',e,⟨μ',lm',sy'⟩,y5',hρ'⟩:=Yp (j:=yU 0 a) (st:=turn (zI 5) (Ud (zp Zx (zh 6) (zp yf (zh 3) (zi (.int 1)))) zA)) (N:=a)
      (I:=λ _ ρ D=>(∃μ,LM N b0 r μ D/\Sy N μ)/\∃y5,ρ=[some (.ref 0),some (.int (way:Int)),some (.ref r),some (.int (N:Int)),some (.int (a:Int)),y5,some (.int far)])
      (λ b ρ D hb ⟨⟨μ,lm,sy⟩,y5,hρ⟩=>by
       subst hρ
       have em:zp Zx (zh 6) (zp yf (zh 3) (zi (.int 1))) [some (.ref 0),some (.int (way:Int)),some (.ref r),some (.int (N:Int)),some (.int (a:Int)),some (.int (b:Int)),some (.int far)] D=.ok (.int (if (N:Int) - 1<far then (N:Int) - 1 else far)) D:=(zL (zw rfl) ((zL (zw rfl) qN).trans rfl)).trans rfl
       obtain ⟨μ',D',e,lm',sy'⟩:=So (ρ:=[some (.ref 0),some (.int (way:Int)),some (.ref r),some (.int (N:Int)),some (.int (a:Int)),some (.int (b:Int)),some (.int far)]) lm sy ha (by omega:b<N) (by omega) rfl rfl rfl rfl em (by split<;>omega) (by split<;>omega) n8 zA
       refine ⟨_,_,D',ZY hb,(gK (ρ1:=[some (.ref 0),some (.int (way:Int)),some (.ref r),some (.int (N:Int)),some (.int (a:Int)),some (.int (b:Int)),some (.int far)]) ?_).trans e,⟨μ',lm',sy'⟩,_,rfl⟩
       rw [Int.zero_add];rfl)
      (λ ρ D _=>ZT (by omega)) a 0 [some (.ref 0),some (.int (way:Int)),some (.ref r),some (.int (N:Int)),some (.int (a:Int)),y5,some (.int far)] D (by omega) ⟨⟨μ,lm,sy⟩,_,rfl⟩
     subst hρ'
     refine ⟨_,_,D',ZY ha,(gK (ρ1:=[some (.ref 0),some (.int (way:Int)),some (.ref r),some (.int (N:Int)),some (.int (a:Int)),y5,some (.int far)]) ?_).trans ((zM ((Zm (rng 4 _ D a (by omega) rfl)).trans e)).trans j8),⟨μ',lm',sy'⟩,_,_,rfl⟩
     rw [Int.zero_add];rfl)
    (λ ρ D _=>ZT (by omega)) N 0 [some (.ref 0),some (.int (way:Int)),some (.ref r),some (.int (N:Int)),none,none,some (.int far)] C1 (by omega) ⟨⟨μ,lm1,sy⟩,_,_,rfl⟩
   subst hρ
   obtain ⟨u,B,e6,hu,sB⟩:=lm3.fin sy3 n1 n8 (ρ:=[some (.ref 0),some (.int (way:Int)),some (.ref r),some (.int (N:Int)),y4,y5,some (.int far)]) rfl
   refine ⟨u,B,qy ((go2 _ _).trans ((zM ((j3 ec).trans j8)).trans ((zM ((qO ef).trans rfl)).trans ((zM ((Zm (rng 3 _ C1 N n8 rfl)).trans e3)).trans (qe (qC e6)))))),sB,hu⟩
theorem EW {n:Nat}{A:Hx}(s:qo n A):∃t B,ZK [.ref n] A=.ok (zC t) B/\qD t/\Kn n A B:=by
 obtain ⟨c,b,hA,hc,hb⟩:=s
 have hm:=wR hA
 obtain ⟨t,A1,e,⟨c',b',e',hc',hb'⟩,tb⟩:=Fx (o:=.lst [.int c,.bl b]) ⟨c,b,rfl,hc,hb⟩
 refine ⟨t,A.set n (.lst [.int c',.bl b']),?_,tb,⟨Kp.set,c',b',List.getElem?_set_self hm,hc',hb'⟩⟩
 unfold ZK
 exact XF hA rfl e e' (gL t)
end
end G
namespace Mi
open PySem L2
theorem MD {A:Hx}{c:En}{me:Ev}{j:jq}{N:Nat}{u v g:Nat->W}(hat:∀i,i<N->j.at_ A i=some (some (.tup [u i,v i])))(hend:j.at_ A N=some none)(he:∀i,i<N->me (some (u i)::some (v i)::c) A=.ok (g i) A):
  ∀(f i:Nat) (x y:Option W) (acc:List W),i+f=N->acc.length+f<=zW->∃ρ,jk j (wa 0 1) (zi (.bl true)) (zK me) f i (x::y::c) acc A=.ok (ρ,acc++(List.range' i f).map g) A:=by
 intro f
 induction f with
 | zero=>
  intro i x y acc h hl
  have:i=N:=by omega
  subst this
  refine ⟨x::y::c,?_⟩
  unfold jk
  rw [hend]
  simp
 | succ f ih=>
  intro i x y acc h hl
  obtain ⟨ρ,e⟩:=ih (i+1) (some (u i)) (some (v i)) (acc++[g i]) (by omega) (by rw [List.length_append,List.length_singleton];omega)
  refine ⟨ρ,?_⟩
  rw [jk,hat i (by omega)]
  dsimp only
  rw [show wa 0 1 (.tup [u i,v i]) (x::y::c)=some (some (u i)::some (v i)::c) from rfl]
  dsimp only [zi]
  rw [zJ]
  dsimp only
  have ee:zK me (some (u i)::some (v i)::c) acc A=.ok (some (u i)::some (v i)::c,acc++[g i]) A:=by
   unfold zK
   rw [he i (by omega),zJ,if_pos (by omega)]
  rw [ee,zJ]
  rw [e,List.append_assoc,List.range'_succ,List.map_cons]
  rfl
theorem O4 {A:Hx}{cap:List Nat}{ρ:En}{me:Ev}{mi:Ei}{j:jq}{N:Nat}{u v g:Nat->W}(hm:mi ρ A=.ok j A)(hj:j.len=N)(hN:N<=1000)(hat:∀i,i<N->j.at_ A i=some (some (.tup [u i,v i])))(hend:j.at_ A N=some none)
  (he:∀i,i<N->me (some (u i)::some (v i)::cap.map λ i=>(ρ[i]?).join) A=.ok (g i) A):zN 2 cap mi (wa 0 1) (zi (.bl true)) (zK me) ρ A=.ok ((List.range N).map g) A:=by
 obtain ⟨ρ',e⟩:=MD (A:=A) (c:=cap.map λ i=>(ρ[i]?).join) hat hend he N 0 none none [] (by omega) (by unfold zW;simp;omega)
 unfold zN
 rw [hm,zJ,hj]
 show R.bind (R.nox (jk j _ _ _ N 0 (none::none::cap.map λ i=>(ρ[i]?).join) [] A)) _=_
 rw [e,<- List.range_eq_range',List.nil_append]
 rfl
end Mi
namespace G
open PySem L2 Mi
section
variable {s t:List (List Int)}
end
theorem Zo {α:Type}{r:R α}{a:α}{A:Hx}(h:r=.ok a A):r.nox=.ok a A:=by rw [h];rfl
theorem Sx {n:Nat}{m:Ex}{ws:List W}{w:W}{A A1:Hx}(h:m (ws.map some++List.replicate (n - ws.length) none) A=.ok (.rt w) A1):yZ n m ws A=.ok w A1:=by unfold yZ;rw [h];rfl
theorem SX {n:Nat}{m:Ex}{ws:List W}{ρ:En}{A A1:Hx}(h:m (ws.map some++List.replicate (n - ws.length) none) A=.ok (.nx ρ) A1):yZ n m ws A=.ok .non A1:=by unfold yZ;rw [h];rfl
theorem ZR {m1 m2:Ex}{ρ:En}{A A1:Hx}{x:Str}(h:m1 ρ A=.exc x A1):zr m1 m2 ρ A=.exc x A1:=by unfold zr;rw [h,TZ]
theorem XB {m:Ev}{ρ:En}{A A1:Hx}{x:Str}(h:m ρ A=.exc x A1):wt m ρ A=.exc x A1:=by unfold wt;rw [h,TZ]
theorem Jm {n:Nat}{m:Ex}{ws:List W}{x:Str}{A A1:Hx}(h:m (ws.map some++List.replicate (n - ws.length) none) A=.exc x A1):yZ n m ws A=.exc x A1:=by unfold yZ;rw [h];rfl
section
variable {s t:List (List Int)}
end
end G
namespace Mi
open PySem L2
theorem Ip {m m':Ev}{ρ:En}{A:Hx}{us vs:List W}(h:m ρ A=.ok (.tup us) A)(h':m' ρ A=.ok (.tup vs) A):KO m m' ρ A=.ok (KH (.tup us) (.tup vs) us.length) A:=by
 unfold KO
 rw [h,zJ,h',zJ]
 rfl
end Mi
namespace G
open PySem L2 Mi
theorem T9 {f:Fn}{ws:List W}(hl:ws.length<=1000)(hf:∀w∈ws,f [w,w] []=.ok (.bl true) []):z9 2 (Zf f) [.tup ws,.tup ws] []=.ok (.bl true) []:=by
 refine qy ?_
 unfold Zf
 have el:mQ qK (qa (zh 0)) [some (.tup ws),some (.tup ws)] []=.ok (.int ws.length) []:=yA (ka (w:=.tup ws) (A1:=[]) (zw rfl) rfl)
 have el':mQ qK (qa (zh 1)) [some (.tup ws),some (.tup ws)] []=.ok (.int ws.length) []:=yA (ka (w:=.tup ws) (A1:=[]) (zw rfl) rfl)
 refine qe ((yW (A1:=[]) rfl).trans ?_)
 refine (zM (ρ1:=[some (.tup ws),some (.tup ws)]) (A1:=[]) ((j3 (A1:=[]) ((Z7 (A1:=[]) rfl).trans rfl)).trans rfl)).trans ?_
 refine (zM (ρ1:=[some (.tup ws),some (.tup ws)]) (A1:=[]) ((j3 (A1:=[]) ((zL el el').trans ((Uc _ _ _).trans (by rw [decide_eq_true rfl];rfl)))).trans rfl)).trans (qe (qC ?_))
 have ec:=O4 (A:=[]) (cap:=[]) (ρ:=[some (.tup ws),some (.tup ws)]) (me:=zD f (zc (zh 0) (zc (zh 1) (zj)))) (N:=ws.length) (u:=λ i=>ws.getD i .non) (v:=λ i=>ws.getD i .non) (g:=λ _=>.bl true) (Ip (zw (i:=0) rfl) (zw (i:=1) rfl)) rfl hl
  (λ i hi=>by show some (zip2 ws[i]? ws[i]?)=_;rw [List.getD_eq_getElem?_getD,List.getElem?_eq_getElem hi];rfl) (by show some (zip2 ws[ws.length]? ws[ws.length]?)=_;rw [List.getElem?_eq_none (Nat.le_refl _)];rfl)
  (λ i hi=>by
   have e:ws.getD i .non=ws[i]:=by rw [List.getD_eq_getElem?_getD,List.getElem?_eq_getElem hi];rfl
   rw [e]
   exact (qm (ws:=[ws[i],ws[i]]) (A1:=[]) rfl).trans (hf _ (List.getElem_mem hi)))
 exact (yA ec).trans (HM (p:=λ _=>true) λ _ _=>rfl)
theorem same_int {f:Fn}(v:Int):z9 2 (Zf f) [.int v,.int v] []=.ok (.bl true) []:=by
 refine qy ?_
 unfold Zf
 refine (zM (ρ1:=[some (.int v),some (.int v)]) (A1:=[]) ((j3 (A1:=[]) rfl).trans rfl)).trans (qe (qC ?_))
 exact (kX (A1:=[]) ((zL (zw (i:=0) rfl) (zw (i:=1) rfl)).trans ((Qi _ _ _).trans (by rw [decide_eq_true rfl])))).trans rfl
theorem DC (v:Int)(A:Hx):WW [.int v,.int v] A=.ok (.bl true) A:=w6 rfl rfl (same_int v)
theorem ND {a:Ea}{xs ys:List W}{A:Hx}{r:Nat}{u e:Option W}(hA:A[r]? =some (.lst xs))(ha:a [u,e,none,some (.ref r)] A=.ok ys A)(hl:xs.length+ys.length<=100):
  zT 3 (zp z8 (zh 3) (zR a)) [u,e,none,some (.ref r)] A=.ok (.nx [u,e,none,some (.ref (A.length+1))]) (A++[.lst ys]++[.lst (xs++ys)]):=by
 refine (qO ((zL (zw (i:=3) rfl) (jx ha)).trans (Yz (yh hA) je (by unfold zW;omega)))).trans ?_
 rw [List.length_append,List.length_singleton]
 rfl
theorem YR {a:Ea}{xs ys zs:List W}{A L:Hx}{j:Nat}{u e:Option W}(hL:L[j]? =some (.lst xs))(ha:∀m A,a [u,e,none,m] A=.ok ys A)(hl:xs.length+ys.length<=100)(hz:xs++ys=zs):
  zT 3 (zp z8 (zh 3) (zR a)) [u,e,none,some (.ref (A.length+j))] (A++L)=.ok (.nx [u,e,none,some (.ref (A.length+(L.length+1)))]) (A++(L++[.lst ys,.lst zs])):=by
 have hA:(A++L)[A.length+j]? =some (.lst xs):=by rw [List.getElem?_append_right (by omega),show A.length+j - A.length=j by omega];exact hL
 rw [ND hA (ha _ _) hl,hz,List.length_append,List.append_assoc,List.append_assoc,Nat.add_assoc]
 rfl
noncomputable def qb (i a n:Nat):List W:=(List.range' a n).map λ k=>W.bl (decide (k=i))
end G
namespace Mi
open PySem L2
section
variable {j:jq}{me:Ev}{c:En}{A A1:Hx}{f i:Nat}{x:Option W}{w y:W}{acc:List W}{ρ:En}{m:Ev}
theorem O5 {n:Nat}(h:n<1000000):jz (n:Int)=true:=by
 unfold jz
 rw [Bool.and_eq_true,decide_eq_true_iff,decide_eq_true_iff]
 omega
end
end Mi
namespace G
open PySem L2 Mi
section
variable {ns:List Int}{Pt:Addr}{n:Nat}{A:Hx}
theorem Dj {ns:List Int}{A:Hx}(hA:A[0]? =some (.ro (ns.map W.int)))(k:Nat):∃x:Int,Qp [.ref 0,.int k] A=.ok (.int x) A:=by
 have hs:zU (.ref 0) A=some (ns.map W.int):=by unfold zU;dsimp only;rw [hA]
 have hl:mQ qK (qa (zh 0)) [some (.ref 0),some (.int k)] A=.ok (.int ns.length) A:=by
  rw [yA (ka (w:=.ref 0) (A1:=A) (zw rfl) hs)]
  unfold qK
  rw [List.length_map]
 have ec:zp Q2 (zh 1) (mQ qK (qa (zh 0))) [some (.ref 0),some (.int k)] A=.ok (.bl (decide ((k:Int)<ns.length))) A:=(zL (zw (w:=.int k) rfl) hl).trans rfl
 by_cases h:k<ns.length
 ·refine ⟨ns[k],qy ?_⟩
  unfold J3
  rw [decide_eq_true (by omega)] at ec
  refine qe ((yW ec).trans (qe (qC ?_)))
  refine (zL (x:=.ref 0) (y:=.int k) (A1:=A) (A2:=A) (zw rfl) (zw rfl)).trans ?_
  unfold zG
  rw [hs]
  dsimp only
  rw [YX (v:=.int ns[k]) (by rw [List.getElem?_map,List.getElem?_eq_getElem h];rfl)]
 ·refine ⟨0,qy ?_⟩
  unfold J3
  rw [decide_eq_false (by omega)] at ec
  exact (zM ((j3 ec).trans rfl)).trans rfl
theorem Fb {ns:List Int}{A:Hx}(hA:A[0]? =some (.ro (ns.map W.int)))(k:Nat):∃o,Qq [.ref 0,.int k] A=.ok (.ref A.length) (A++[o])/\qo A.length (A++[o]):=by
 obtain ⟨x,e⟩:=Dj hA k
 have e1:zT 2 (zD Qp (zc (zh 0) (zc (zh 1) (zj)))) [some (.ref 0),some (.int k),none] A=.ok (.nx [some (.ref 0),some (.int k),some (.int x)]) A:=by
  refine (qO (w:=.int x) (A1:=A) ?_).trans rfl
  rw [qm (ws:=[.ref 0,.int k]) (A1:=A) rfl]
  exact e
 have ec:zp Uj (zh 2) (zp QT (zi (.int 10)) (zi (.int 18))) [some (.ref 0),some (.int k),some (.int x)] A=.ok (.bl (decide ((1000000000000000000:Int)<=x))) A:=(zL (x:=.int x) (y:=.int 1000000000000000000) (A1:=A) (A2:=A) (zw rfl) rfl).trans rfl
 by_cases h:(1000000000000000000:Int)<=x
 ·refine ⟨.lst [.int (x - 1000000000000000000),.bl true],qy ?_,x - 1000000000000000000,true,je,by omega,λ z=>nomatch z⟩
  unfold Yd
  rw [decide_eq_true h] at ec
  refine (zM e1).trans (qe ((yW ec).trans (qe (qC (jx ?_)))))
  rfl
 ·refine ⟨.lst [.int (x % 2147483647),.bl false],qy ?_,x % 2147483647,false,je,Int.emod_nonneg _ (by decide),λ _=>Int.emod_lt_of_pos _ (by decide)⟩
  unfold Yd
  rw [decide_eq_false h] at ec
  refine (zM e1).trans ((zM ((j3 ec).trans rfl)).trans (qe (qC (jx ?_))))
  refine zV (A1:=A) (A2:=A) ((zL (x:=.int x) (y:=.int 2147483647) (A1:=A) (A2:=A) (zw rfl) rfl).trans (ZX (by decide))) rfl
end
section
variable {ns:List Int}{Pt:Addr}{m:Nat}{A A':Hx}{PF:jy}{ρ:En}{c n g:Nat}{ks:List Nat}
end
noncomputable def GX (i:Nat):Hx:=[.lst (qb i 0 3),.lst (qb i 3 3),.lst (qb i 0 6),.lst (qb i 6 3),.lst (qb i 0 9),.lst (qb i 9 3),.lst (qb i 0 12),.lst (qb i 12 3),.lst (qb i 0 15),.lst [.int i]]
noncomputable def wx (x:Str):Option Nat:=if x = "NoTable" then some 0 else if x = "NoMix" then some 4 else none
theorem L8 {x:Str}{i:Nat}(hx:wx x=some i)(u:W)(A:Hx):Wq [some u,some (.xc x),none,none] A=.ok (.rt (.ref (A.length+9))) (A++GX i):=by
 have two:(x = "NoTable" /\ i=0)∨(x = "NoMix" /\ i=4):=by
  unfold wx at hx
  by_cases h:x = "NoTable"
  ·rw [if_pos h] at hx;cases hx;exact .inl ⟨h,rfl⟩
  ·rw [if_neg h] at hx
   by_cases h':x = "NoMix"
   ·rw [if_pos h'] at hx;cases hx;exact .inr ⟨h',rfl⟩
   ·rw [if_neg h'] at hx;cases hx
 unfold Wq
 have a0:∀(m:Option W) (A:Hx),(zc (qL (qZ zO "NoTable") (zh 1)) (zc (qL (qZ zO "NotSteady") (zh 1)) (zc (qL (qZ zO "NoPlace") (zh 1)) (zj)))) [some u,some (.xc x),none,m] A=.ok (qb i 0 3) A:=λ m A=>by
  rcases two with ⟨rfl,rfl⟩ | ⟨rfl,rfl⟩<;>kernel_rfl
 have a1:∀(m:Option W) (A:Hx),(zc (qL (qZ zO "NoKind") (zh 1)) (zc (qL (qZ zO "NoMix") (zh 1)) (zc (qL (qZ zO "NoNumber") (zh 1)) (zj)))) [some u,some (.xc x),none,m] A=.ok (qb i 3 3) A:=λ m A=>by
  rcases two with ⟨rfl,rfl⟩ | ⟨rfl,rfl⟩<;>kernel_rfl
 have a2:∀(m:Option W) (A:Hx),(zc (qL (qZ zO "NoLot") (zh 1)) (zc (qL (qZ zO "NoKinds") (zh 1)) (zc (qL (qZ zO "NoPaper") (zh 1)) (zj)))) [some u,some (.xc x),none,m] A=.ok (qb i 6 3) A:=λ m A=>by
  rcases two with ⟨rfl,rfl⟩ | ⟨rfl,rfl⟩<;>kernel_rfl
 have a3:∀(m:Option W) (A:Hx),(zc (qL (qZ zO "NoParting") (zh 1)) (zc (qL (qZ zO "NoClosed") (zh 1)) (zc (qL (qZ zO "TooMany") (zh 1)) (zj)))) [some u,some (.xc x),none,m] A=.ok (qb i 9 3) A:=λ m A=>by
  rcases two with ⟨rfl,rfl⟩ | ⟨rfl,rfl⟩<;>kernel_rfl
 have a4:∀(m:Option W) (A:Hx),(zc (qL (qZ zO "NoText") (zh 1)) (zc (qL (qZ zO "NoLine") (zh 1)) (zc (qL (qZ zO "NoDeed") (zh 1)) (zj)))) [some u,some (.xc x),none,m] A=.ok (qb i 12 3) A:=λ m A=>by
  rcases two with ⟨rfl,rfl⟩ | ⟨rfl,rfl⟩<;>kernel_rfl
 have ap:∀n,qb i 0 n++qb i n 3=qb i 0 (n+3):=λ n=>by
  unfold qb
  rw [<- List.map_append]
  congr 1
  have:=List.range'_append_1 (s:=0) (m:=n) (n:=3)
  rw [Nat.zero_add] at this
  exact this
 have e0:zT 3 (zR (zc (qL (qZ zO "NoTable") (zh 1)) (zc (qL (qZ zO "NotSteady") (zh 1)) (zc (qL (qZ zO "NoPlace") (zh 1)) (zj))))) [some u,some (.xc x),none,none] A=.ok (.nx [some u,some (.xc x),none,some (.ref (A.length+0))]) (A++[.lst (qb i 0 3)]):=(qO (jx (a0 _ A))).trans rfl
 refine (zM e0).trans ?_
 refine (zM (YR (A:=A) (L:=[.lst (qb i 0 3)]) (j:=0) (xs:=qb i 0 3) (ys:=qb i 3 3) (zs:=qb i 0 6) rfl a1 (by simp [qb]) (ap 3))).trans ?_
 refine (zM (YR (A:=A) (L:=[.lst (qb i 0 3),.lst (qb i 3 3),.lst (qb i 0 6)]) (j:=2) (xs:=qb i 0 6) (ys:=qb i 6 3) (zs:=qb i 0 9) rfl a2 (by simp [qb]) (ap 6))).trans ?_
 refine (zM (YR (A:=A) (L:=[.lst (qb i 0 3),.lst (qb i 3 3),.lst (qb i 0 6),.lst (qb i 6 3),.lst (qb i 0 9)]) (j:=4) (xs:=qb i 0 9) (ys:=qb i 9 3) (zs:=qb i 0 12) rfl a3 (by simp [qb]) (ap 9))).trans ?_
 refine (zM (YR (A:=A) (L:=[.lst (qb i 0 3),.lst (qb i 3 3),.lst (qb i 0 6),.lst (qb i 6 3),.lst (qb i 0 9),.lst (qb i 9 3),.lst (qb i 0 12)]) (j:=6) (xs:=qb i 0 12) (ys:=qb i 12 3) (zs:=qb i 0 15) rfl a4 (by simp [qb]) (ap 12))).trans ?_
 generalize hB:A++([.lst (qb i 0 3),.lst (qb i 3 3),.lst (qb i 0 6),.lst (qb i 6 3),.lst (qb i 0 9),.lst (qb i 9 3),.lst (qb i 0 12)]++[.lst (qb i 12 3),.lst (qb i 0 15)])=B
 have hl:B.length=A.length+9:=by rw [<- hB];simp
 have hm:B[A.length+8]? =some (.lst (qb i 0 15)):=by rw [<- hB,List.getElem?_append_right (by omega),show A.length+8 - A.length=8 by omega];rfl
 refine (zM (ρ1:=[some u,some (.xc x),none,some (.ref (A.length+8))]) (A1:=B) ((j3 (A1:=B) (yJ (k:=true) ?_)).trans rfl)).trans (qe (qC ?_))
 ·rcases two with ⟨rfl,rfl⟩ | ⟨rfl,rfl⟩<;>kernel_rfl
 have ec:=GL (cap:=[3]) (mi:=ji (zi (.int 15))) (j:=yU 0 15) (ifs:=zp zG (zh 1) (zh 0)) (me:=zh 0) (ρ:=[some u,some (.xc x),none,some (.ref (A.length+8))]) (A:=B) (N:=15) (item:=λ k=>.int (0+(k:Int))) (g:=λ k=>.int (0+(k:Int))) (keep:=λ k=>decide (k=i)) rfl rfl (by unfold zW;omega) (λ k hk=>ZY hk) (ZT (by omega))
  (λ k hk=>by
   refine (zL (zw (i:=1) (w:=.ref (A.length+8)) rfl) (zw (i:=0) (w:=.int (0+(k:Int))) rfl)).trans ?_
   rw [Int.zero_add]
   refine yI hm ?_
   unfold qb
   rw [List.getElem?_map,List.getElem?_range' (by omega)]
   simp) (λ k hk _=>rfl)
 rw [kU ec,hl]
 have hf:((List.range 15).filter λ k=>decide (k=i)).map (λ k:Nat=>W.int (0+(k:Int)))=[.int i]:=by
  rcases two with ⟨rfl,rfl⟩ | ⟨rfl,rfl⟩<;>rfl
 rw [hf,<- hB,List.append_assoc]
 rfl
noncomputable abbrev LS:List Lm:=yQ yH yr
noncomputable def RF (k:Nat)(ws:List W)(A:Hx):R W:=match yn LS k ws A with
 | .exc x A1=>(match wx x with
  | some i=>.ok (.ref (A1.length+9)) (A1++GX i)
  | none=>.bad)
 | _=>.bad
theorem Dx {x:Str}{i:Nat}(hx:wx x=some i):zO.contains x=true:=by
 unfold wx at hx
 by_cases h:x = "NoTable"
 ·subst h;decide +kernel
 ·rw [if_neg h] at hx
  by_cases h':x = "NoMix"
  ·subst h';decide +kernel
  ·rw [if_neg h'] at hx;cases hx
theorem HY {PG:jy}{k i:Nat}{ws:List W}{x:Str}{A A1:Hx}(hl:yn LS k ws A=.exc x A1)(hx:wx x=some i):
  z9 4 (Q8 PG (yn LS)) [.clo k ws (PG k)] A=.ok (.ref (A1.length+9)) (A1++GX i):=by
 have ec:KG 0 PG (yn LS) [some (.clo k ws (PG k)),some .non,none,none] A=.exc x A1:=by
  unfold KG
  refine (if_pos rfl).trans hl
 have et:JP 0 1 2 zO PG (yn LS) [some (.clo k ws (PG k)),some .non,none,none] A=.ok (.nx [some (.clo k ws (PG k)),some (.xc x),none,none]) A1:=by
  unfold JP
  rw [ec]
  dsimp only
  rw [if_pos (Dx hx)]
  rfl
 refine qy ?_
 unfold Q8
 refine (zM (ρ1:=[some (.clo k ws (PG k)),some .non,none,none]) (A1:=A) rfl).trans ?_
 exact (zM et).trans (L8 hx _ A1)
theorem RW {k i:Nat}{ws:List W}{x:Str}{A A1:Hx}(hl:yn LS k ws A=.exc x A1)(hx:wx x=some i):RF k ws A=.ok (.ref (A1.length+9)) (A1++GX i):=by
 unfold RF
 rw [hl]
 dsimp only
 rw [hx]
theorem F7 {PG:jy}(us:List W)(A:Hx):ZC PG RF us A=.bad∨z9 4 (Q8 PG (yn LS)) us A=ZC PG RF us A:=by
 by_cases hb:ZC PG RF us A=.bad
 ·exact .inl hb
 right
 unfold ZC at hb ⊢
 split
 ·rename_i k ws P
  dsimp only at hb
  by_cases hP:P=PG k
  ·subst hP
   rw [if_pos rfl] at hb ⊢
   cases e:yn LS k ws A with
   | exc x A1=>
    cases hm:wx x with
    | none=>exfalso;apply hb;unfold RF;rw [e];dsimp only;rw [hm]
    | some i=>rw [HY e hm,RW e hm]
   | ok w A1=>exfalso;apply hb;unfold RF;rw [e]
   | bad=>exfalso;apply hb;unfold RF;rw [e]
  ·rw [if_neg hP] at hb;exact absurd rfl hb
 ·rename_i h
  exfalso
  apply hb
  split
  ·rename_i k ws P
   exact (h k ws P rfl).elim
  ·rfl
section
variable {PG:jy}{k:Nat}{ws:List W}{A:Hx}{d:W}
end
section
variable {ns:List Int}{Pt:Addr}{n:Nat}{A:Hx}
end
section
variable {ns:List Int}{Pt:Addr}{m:Nat}{A A':Hx}
end
section
variable {ns:List Int}{Pt:Addr}{n k:Nat}{A:Hx}{PF:jy}{ρ:En}{t:Lm}{ws:List W}{d:W}{mm:Ev}
end
section
variable {s t:List (List Int)}
end
section
variable {A:Hx}
theorem Xo {ls:List Lm}{k:Nat}{t:Lm}{ws:List W}(h:ls[k]? =some t):yn ls k ws A=t.m (ws.map some) A:=by unfold yn;rw [h]
end
section
variable {s t:List (List Int)}
end
theorem T4:wx "NoTable" = some 0:=by decide +kernel
theorem ID:wx "NoMix" = some 4:=by decide +kernel
section
variable {A:Hx}{ρ:En}{k g:Nat}{ws:List W}{t:Lm}{x:Str}{PF:jy}{Pt:Addr}
theorem GB (h1:A[1]? =some (.tab jh Pt))(ht:LS[k]? =some t)(hc:gi t.idx ρ=some ws)(hl:yn LS k ws A=.exc x A)(hx:wx x=some g):∃B,zp jg (wz LS PF (wB RF) (zc (kr 1 jh Pt k (PF k)) (zj))) (zR (zc (zi (.int (g:Int))) (zj))) ρ A=.ok (.bl false) B/\Ext A B:=by
 have el:kr 1 jh Pt k (PF k) ρ A=.ok (.clo k [] (PF k)) A:=by
  unfold kr
  rw [h1]
  dsimp only
  rw [if_pos ⟨rfl,rfl⟩]
 have ec:wz LS PF (wB RF) (zc (kr 1 jh Pt k (PF k)) (zj)) ρ A=.ok (.ref (A.length+9)) (A++GX g):=by
  unfold wz
  rw [zV el qt,zJ]
  have:gf LS PF ρ [.clo k [] (PF k)]=some [.clo k ws (PF k)]:=by
   unfold gf JQ
   dsimp only
   rw [if_pos rfl,ht]
   dsimp only
   rw [hc]
   rfl
  rw [this]
  exact RW hl hx
 have x1:Ext A (A++GX g):=⟨_,rfl⟩
 have hg:(A++GX g)[A.length+9]? =some (.lst [.int (g:Int)]):=by rw [List.getElem?_append_right (by omega),show A.length+9 - A.length=9 by omega];rfl
 refine ⟨A++GX g++[.lst [.int (g:Int)]],(zL ec (jx (zV qN qt))).trans ((Q3 (l:=[(g:Int)]) (m:=[(g:Int)]) (yh hg) je).trans ?_),x1.app⟩
 rw [decide_eq_true rfl]
 rfl
end
theorem FX (b:Bool)(A:Hx):kT [.bl b,.bl b] A=.ok (.bl true) A:=by
 cases b
 ·exact w6 (A1:=[]) rfl rfl (by kernel_rfl)
 ·exact w6 (A1:=[]) rfl rfl (by kernel_rfl)
theorem Lw {r:List Int}(h:r.length<=100)(A:Hx):WU [zy r,zy r] A=.ok (.bl true) A:=by
 refine w6 (by show ((zy r).nr&&((zy r).nr&&true))=true;rw [YV];rfl) rfl (T9 (by simp;omega) λ w hw=>?_)
 obtain ⟨v,_,rfl⟩:=List.mem_map.mp hw
 exact DC v []
theorem Lc {t:List (List Int)}(h:t.length<=100)(hr:∀r∈t,r.length<=100)(A:Hx):kT [zC t,zC t] A=.ok (.bl true) A:=by
 refine w6 (by show ((zC t).nr&&((zC t).nr&&true))=true;rw [gL];rfl) rfl (T9 (by simp;omega) λ w hw=>?_)
 obtain ⟨r,hr',rfl⟩:=List.mem_map.mp hw
 exact Lw (hr r hr') []
section
variable {t:List (List Int)}{w:W}{A:Hx}
theorem Ht (h:qD t)(A:Hx):ZH A (zC t):=.tup (t.map zy) rfl (by rw [List.length_map];have:=h.n8;omega) λ x hx=>Ec h x hx A
theorem HV (h:qD t)(A:Hx):wQ [zC t] A=.ok (.bl true) A:=by
 obtain ⟨b,e,hb⟩:=XD (Ht h A)
 rw [e,hb.mpr ⟨t,h,rfl⟩]
theorem IZ (h:kv A w):wQ [w] A=.ok (.bl false) A:=by
 obtain ⟨b,e,hb⟩:=XD h.1
 cases b with
 | false=>exact e
 | true=>exact absurd (hb.mp rfl) h.2
theorem GS (h:qD t)(A:Hx):Q6 [zC t] A=.ok .non A:=by
 refine SX (ρ:=[some (zC t)]) ?_
 unfold J1
 refine (zM (ρ1:=[some (zC t)]) (A1:=A) ((j3 (A1:=A) ?_).trans rfl)).trans rfl
 exact Zo (yJ (k:=true) ((qm (ws:=[zC t]) (A1:=A) rfl).trans (HV h A)))
theorem TF (h:kv A w):Q6 [w] A=.exc "NoTable" A:=by
 refine Jm ?_
 unfold J1
 exact ZR ((yW (A1:=A) (Zo (yJ (k:=false) ((qm (ws:=[w]) (A1:=A) rfl).trans (IZ h))))).trans (ZR rfl))
end
end G
namespace Mi
open PySem L2
inductive ki (n:Nat)(A:Hx)(x:W):Prop
 | flat (h:Part x)
 | one (k:Nat) (e:x=.ref k) (h:A[k]? =some (.lst [.int 1])) (hn:k≠n)
inductive ye (n:Nat)(A:Hx)(w:W):Prop
 | tup (ws:List W) (e:w=.tup ws) (hl:ws.length<=100) (h:∀x∈ws,ki n A x)
 | oth (ty:Ty) (h:qW w A=some ty) (hn:ty≠.tup)
section
variable {n:Nat}{A B:Hx}{w x:W}
theorem ki.mono (k:Kn n A B)(h:ki n A x):ki n B x:=by
 cases h with
 | flat h=>exact .flat h
 | one j e h hn=>exact .one j e (k.kp.get h hn) hn
theorem ye.mono (s:G.qo n A)(k:Kn n A B)(h:ye n A w):ye n B w:=by
 cases h with
 | tup ws e hl h=>exact .tup ws e hl λ x hx=>(h x hx).mono k
 | oth ty h hn=>exact .oth ty (k.ky s _ _ h) hn
theorem ki.ty (h:ki n A x):∃ty,qW x A=some ty:=by
 cases h with
 | flat h=>obtain ⟨ty,h⟩:=h.ty;exact ⟨ty,h A⟩
 | one k e h hn=>subst e;exact ⟨.lst,by unfold qW;dsimp only;rw [h]⟩
theorem ki.dt (h:ki n A x):∃d,qd A 7 x=some d:=by
 cases h with
 | flat h=>obtain ⟨d,h⟩:=h.dt;exact ⟨d,h A⟩
 | one k e h hn=>
  subst e
  refine ⟨.list [.int 1],?_⟩
  show (match zU (.ref k) A with | some ws=>(j4 (qd A 6) ws).map PyData.list | none=>none)=_
  have:zU (.ref k) A=some [.int 1]:=by unfold zU;dsimp only;rw [h]
  rw [this]
  rfl
theorem U2:∀{ws:List W},(∀x∈ws,ki n A x)->∃ds,j4 (qd A 7) ws=some ds/\ds.length=ws.length
 | [],_=>⟨[],rfl,rfl⟩
 | w::ws,h=>by
  obtain ⟨d,hd⟩:=(h w (List.mem_cons_self ..)).dt
  obtain ⟨ds,e,hl⟩:=U2 λ x hx=>h x (List.mem_cons_of_mem _ hx)
  refine ⟨d::ds,?_,by simp [hl]⟩
  show (match qd A 7 w,j4 (qd A 7) ws with | some d,some ds=>some (d::ds) | _,_=>none)=_
  rw [hd,e]
theorem MY {r s:Nat}{ws:List W}(h:A[r]? =some (.lst ws))(hp:∀x∈ws,ki n A x)(h2:A[s]? =some (.lst [])):jl (.ref r) (.ref s) A=.ok (.bl ws.isEmpty) A:=by
 obtain ⟨ds,e,hl⟩:=U2 hp
 have e1:qd A 8 (.ref r)=some (.list ds):=by
  show (match zU (.ref r) A with | some ws=>(j4 (qd A 7) ws).map PyData.list | none=>none)=_
  have:zU (.ref r) A=some ws:=by unfold zU;dsimp only;rw [h]
  rw [this]
  dsimp only
  rw [e]
  rfl
 show gj false _ _ A=_
 unfold gj
 rw [e1,Kj (l:=[]) h2]
 dsimp only
 rw [if_neg (by simp)]
 congr 2
 rw [PyData.eqv]
 cases ws with
 | nil=>
  cases ds with
  | nil=>simp [PyData.eqvAll]
  | cons _ _=>simp at hl
 | cons a l=>
  cases ds with
  | nil=>simp at hl
  | cons d ds=>simp [PyData.eqvAll]
end
end Mi
namespace G
open PySem L2 Mi
section
variable {n K:Nat}{A B:Hx}{w:W}{t:List (List Int)}{r:List Int}
theorem Rj {ty:Ty}(h:qW w A=some ty):(ym ty .int&&!ym ty .bl)=yv w:=by
 cases w with
 | ref k=>
  unfold qW at h
  dsimp only at h
  split at h
  ·cases h;rfl
  ·cases h;rfl
  ·cases h
 | clo _ _ _=>cases h
 | xc _=>cases h
 | _=>cases h;rfl
theorem RL {a b:Ev}{ρ:En}{p q:Bool}(h1:a ρ A=.ok (.bl p) A)(h2:b ρ A=.ok (.bl q) A):yk a b ρ A=.ok (.bl (p&&q)) A:=by
 cases p with
 | true=>exact (kX h1).trans h2
 | false=>exact gM h1
theorem HF {ty:Ty}(h:qW w A=some ty):wO [w] A=.ok (.bl (yv w)) A:=by
 unfold wO GF GP
 refine qy (qe (qC ((RL (gc (zw rfl) h) (yJ (gc (zw rfl) h))).trans ?_)))
 rw [Rj h]
theorem L7 {ty:Ty}(h:qW w A=some ty):Ze [w] A=.ok (.bl (yv w)) A:=by
 unfold Ze UP Ga
 refine qy (qe (qC ((RL (gc (zw rfl) h) (yJ (gc (zw rfl) h))).trans ?_)))
 rw [Rj h]
theorem G6 (h:ye n A w)(K:Nat):∃b,yw [w,.int K] A=.ok (.bl b) A/\(b=true↔Z8 K w):=by
 unfold yw Gu
 unfold Yh
 cases h with
 | oth ty ht hn=>
  refine ⟨false,qy (qe (qC (gM ((gc (A1:=A) (zw (i:=0) rfl) ht).trans (by rw [Km hn]))))),λ z=>(by cases z),?_⟩
  rintro ⟨r,rfl,_⟩
  simp [zy,qW] at ht
  exact absurd ht.symm hn
 | tup ws e hl hp=>
  subst e
  have el:=Zw (ws:=ws) (ρ:=[some (.tup ws),some (.int K)]) (i:=0) (A:=A) rfl
  have e1:=(zL el (zw (ρ:=[some (.tup ws),some (.int K)]) (A:=A) (i:=1) rfl)).trans (Qi _ _ _)
  have e0:jW .tup (zh 0) [some (.tup ws),some (.int K)] A=.ok (.bl true) A:=rfl
  by_cases q:ws.length=K
  ·have ec:=Xc (cap:=[]) (A:=A) (ρ:=[some (.tup ws),some (.int K)]) (ws:=ws) (me:=zD wO (zc (zh 0) (zj))) (g:=λ w=>.bl (yv w)) (zw (i:=0) rfl) (by unfold zW;omega) (λ w hw=>by
    obtain ⟨ty,ht⟩:=(hp w hw).ty
    exact (qm (ws:=[w]) (A1:=A) rfl).trans (HF ht))
   refine ⟨ws.all yv,qy (qe (qC ((kX e0).trans ((kX (e1.trans (by rw [decide_eq_true (by omega)]))).trans ((yA ec).trans (Jr yv ws)))))),?_⟩
   constructor
   ·intro z
    obtain ⟨r,rfl⟩:=all_ints z
    rw [List.length_map] at q
    exact ⟨r,rfl,q⟩
   ·rintro ⟨r,e,_⟩
    unfold zy at e
    injection e with e
    rw [e]
    exact TN r
  ·refine ⟨false,qy (qe (qC ((kX e0).trans (gM (e1.trans (by rw [decide_eq_false (by omega)])))))),λ z=>(by cases z),?_⟩
   rintro ⟨r,e,hr⟩
   unfold zy at e
   injection e with e
   rw [e,List.length_map] at q
   exact absurd hr q
theorem Sj (h:qD t)(A:Hx):gz [zC t] A=.ok (.int (qT t)) A:=by
 refine w6 (A1:=[]) (by show ((zC t).nr&&true)=true;rw [gL];rfl) rfl (qy ?_)
 unfold WL
 refine qe (qC ((zL (Xt h rfl) qN).trans ?_))
 show R.ok (W.int (qT t - 1+1)) []=_
 congr 2
 omega
theorem Sg (h:qD t)(A:Hx):gC [zC t] A=.ok (.int (qT t)) A:=by
 refine w6 (A1:=[]) (by show ((zC t).nr&&true)=true;rw [gL];rfl) rfl (qy ?_)
 unfold W0
 refine qe (qC ((zL qN (Xt h rfl)).trans ?_))
 show R.ok (W.int (1+(qT t - 1))) []=_
 congr 2
 omega
theorem IG (h:qD t)(hK:qT t=(K:Int))(hw:ye n A w):∃b,Zi [zC t,w] A=.ok (.bl b) A/\(b=true↔Z8 K w):=by
 obtain ⟨b,e,hb⟩:=G6 hw K
 refine ⟨b,?_,hb⟩
 unfold Zi
 refine Zo (Sx ?_)
 unfold YB
 refine (zM (Ju ((qm (zV (zw rfl) qt)).trans (GS h A)))).trans (Zo (qe (qC ((qm (zV (zw rfl) (zV ((qm (zV (zw rfl) qt)).trans (Sj h A)) qt))).trans ?_))))
 rw [hK]
 exact e
theorem Fc {v:W}(hv:kv A v):yH [v,w] A=.exc "NoTable" A:=by
 refine Jm ?_
 unfold YB
 exact ZR (XB ((qm (zV (zw rfl) qt)).trans (TF hv)))
theorem Rb {b:Bool}(h:qD t)(hK:qT t=(K:Int))(e:yw [w,.int K] A=.ok (.bl b) A):jd (zD yw (zc (zh 1) (zc (zD gz (zc (zh 0) (zj))) (zj)))) [some (zC t),some w] A=.ok (.bl (!b)) A:=
 yJ ((qm (zV (zw rfl) (zV ((qm (zV (zw rfl) qt)).trans (Sj h A)) qt))).trans (by rw [hK];exact e))
theorem L5 (h:qD t)(hK:qT t=(K:Int))(hr:r.length=K)(hw:ye n A (zy r)):J4 [zC t,zy r] A=.ok .non A:=by
 obtain ⟨b,e,hb⟩:=G6 hw K
 rw [hb.mpr ⟨r,rfl,hr⟩] at e
 refine SX (ρ:=[some (zC t),some (zy r)]) ?_
 unfold J7
 exact (zM ((j3 (Zo (Rb h hK e))).trans j8)).trans j8
theorem MZ (h:qD t)(hK:qT t=(K:Int))(hw:ye n A w)(hn:¬Z8 K w):J4 [zC t,w] A=.exc "NoMix" A:=by
 obtain ⟨b,e,hb⟩:=G6 hw K
 have:b=false:=by cases b with
  | false=>rfl
  | true=>exact absurd (hb.mp rfl) hn
 rw [this] at e
 refine Jm ?_
 unfold J7
 exact ZR ((yW (Zo (Rb h hK e))).trans (ZR rfl))
noncomputable def qR (t:List (List Int))(r:List Int):List (List Int):=t.map λ row=>row.map λ k=>r.getD k.toNat 0
theorem Cd (h:qD t)(hK:qT t=(K:Int))(hr:r.length=K)(A:Hx):Jc [zC t,zy r] A=.ok (zC (qR t r)) A:=by
 have n8:=h.n8
 refine w6 (A1:=[]) (by show ((zC t).nr&&((zy r).nr&&true))=true;rw [gL,YV];rfl) (gL _) (qy ?_)
 unfold Gm
 refine qe (qC ?_)
 have ec:=Jg (cap:=[1]) (A:=[]) (ρ:=[some (zC t),some (zy r)]) (o:=t) (f:=zy) (m:=zh 0) (me:=mQ j0 (zN 1 [1] (qj (zh 0)) (zI 0) (zi (.bl true)) (zK (zp zG (zh 1) (zh 0))))) (G:=λ row=>zy (row.map λ k=>r.getD k.toNat 0)) (zw rfl) (by unfold zW;omega) (λ row hrow=>by
  have ei:=Jg (cap:=[1]) (A:=[]) (ρ:=[some (zy row),some (zy r)]) (o:=row) (f:=W.int) (m:=zh 0) (me:=zp zG (zh 1) (zh 0)) (G:=λ k=>.int (r.getD k.toNat 0)) (zw rfl) (by have:=h.sq row hrow;unfold zW;omega) (λ k hk=>by
   have h1:=h.lo row hrow k hk
   have h2:k<qT t:=by
    obtain ⟨a,b,ha,hb,e⟩:=gI h.sq (List.mem_flatten.mpr ⟨row,hrow,hk⟩)
    rw [<- e];exact Y7 h ha hb
   obtain ⟨v,rfl⟩:=Int.eq_ofNat_of_zero_le h1.1
   refine (zL (zw rfl) (zw rfl)).trans ((Kf (by omega)).trans ?_)
   rw [Int.toNat_natCast])
  refine (gN ei).trans ?_
  unfold zy
  rw [List.map_map]
  rfl)
 refine (gN ec).trans ?_
 unfold zC qR
 rw [List.map_map]
 rfl
theorem L4 (h:qD t)(hK:qT t=(K:Int))(hr:r.length=K)(hw:ye n A (zy r)):ZP [zC t,zy r] A=.ok (zC (qR t r)) A:=by
 unfold ZP
 refine Zo (Sx ?_)
 unfold Jk
 exact (zM (Ju ((qm (zV (zw rfl) qt)).trans (GS h A)))).trans ((zM (Ju ((qm (zV (zw rfl) (zV (zw rfl) qt))).trans (L5 h hK hr hw)))).trans (Zo (qe (qC ((qm (zV (zw rfl) (zV (zw rfl) qt))).trans (Cd h hK hr A))))))
theorem M9 {v:W}(hv:kv A v):yr [v,w] A=.exc "NoTable" A:=by
 refine Jm ?_
 unfold Jk
 exact ZR (XB ((qm (zV (zw rfl) qt)).trans (TF hv)))
theorem Lu (h:qD t)(hK:qT t=(K:Int))(hw:ye n A w)(hn:¬Z8 K w):yr [zC t,w] A=.exc "NoMix" A:=by
 refine Jm ?_
 unfold Jk
 exact (zM (Ju ((qm (zV (zw rfl) qt)).trans (GS h A)))).trans (ZR (XB ((qm (zV (zw rfl) (zV (zw rfl) qt))).trans (MZ h hK hw hn))))
theorem Mt (h:qD t)(hK:qT t=(K:Int))(hr:r.length=K)(A:Hx):Zd [zC t,zy r] A=.ok (.ref (A.length+(qR t r).length)) (A++((qR t r).map λ r=>O.lst (r.map W.int))++[O.lst ((List.range (qR t r).length).map λ i=>W.ref (A.length+i))]):=by
 have n8:=h.n8
 have hT:(qR t r).length=t.length:=by unfold qR;rw [List.length_map]
 unfold Zd UG
 refine qy ?_
 unfold WD
 refine qe (qC ?_)
 obtain ⟨ρ',acc',B',e,⟨z,g1⟩,g2,g3⟩:=Qu (nl:=1) (cap:=[1]) (mi:=qj (zh 0)) (tw:=zI 0) (ifs:=zi (.bl true)) (em:=zK (qg (zN 1 [1] (qj (zh 0)) (zI 0) (zi (.bl true)) (zK (zp zG (zh 1) (zh 0)))))) (ρ:=[some (zC t),some (zy r)]) (A:=A) (N:=t.length)
  (I:=λ p ρ' a C=>(∃z,ρ'=[z,some (zy r)])/\C=A++(((qR t r).take p).map λ r=>O.lst (r.map W.int))/\a=(List.range p).map λ i=>W.ref (A.length+i)) (Zl (zw rfl)) (by simp)
  (λ p ρ' a C hp ⟨⟨z,f1⟩,f2,f3⟩=>by
   subst f1 f2 f3
   have hrow:t[p]∈t:=List.getElem_mem hp
   have ei:=Jg (cap:=[1]) (A:=A++(((qR t r).take p).map λ r=>O.lst (r.map W.int))) (ρ:=[some (zy t[p]),some (zy r)]) (o:=t[p]) (f:=W.int) (m:=zh 0) (me:=zp zG (zh 1) (zh 0)) (G:=λ k=>.int (r.getD k.toNat 0)) (zw rfl) (by have:=h.sq _ hrow;unfold zW;omega) (λ k hk=>by
    have h1:=h.lo _ hrow k hk
    have h2:k<qT t:=by
     obtain ⟨a,b,ha,hb,e⟩:=gI h.sq (List.mem_flatten.mpr ⟨_,hrow,hk⟩)
     rw [<- e];exact Y7 h ha hb
    obtain ⟨v,rfl⟩:=Int.eq_ofNat_of_zero_le h1.1
    refine (zL (zw rfl) (zw rfl)).trans ((Kf (by omega)).trans ?_)
    rw [Int.toNat_natCast])
   have em:(t[p].map λ k=>W.int (r.getD k.toNat 0))=((qR t r)[p]'(by omega)).map W.int:=by
    unfold qR
    rw [List.getElem_map,List.map_map]
    rfl
   rw [em] at ei
   refine ⟨zy t[p],[some (zy t[p]),some (zy r)],?_,rfl,.inl ⟨_,_,_,_,rfl,QA (kU ei) ?_,⟨_,rfl⟩,?_,?_⟩⟩
   ·show some (t.map zy)[p]? =_
    rw [List.getElem?_map,List.getElem?_eq_getElem hp];rfl
   ·simp;unfold zW;omega
   ·rw [take_succ (by omega),List.map_append,List.append_assoc];rfl
   ·rw [List.range_succ,List.map_append,List.length_append,List.length_map,List.length_take,Nat.min_eq_left (by omega)];rfl)
  (λ ρ' a C _=>by show some (t.map zy)[t.length]? =_;rw [List.getElem?_eq_none (by simp)]) ⟨⟨none,rfl⟩,by simp,by simp⟩
 refine (kU e).trans ?_
 rw [g2,g3,<- hT,List.take_length]
 simp
theorem Eo (h:qD t)(hK:qT t=(K:Int))(hr:r.length=K){ρ:En}{i j:Nat}(hi:ρ[i]? =some (some (zC t)))(hj:ρ[j]? =some (some (zy r)))(A:Hx):∃B,mQ j0 (zN 1 [] (qj (zD Zd (zc (zh i) (zc (zh j) (zj))))) (zI 0) (zi (.bl true)) (zK (mQ j0 (qa (zh 0))))) ρ A=.ok (zC (qR t r)) B/\Ext A B:=by
 have n8:=h.n8
 have hT:(qR t r).length=t.length:=by unfold qR;rw [List.length_map]
 have e:=Mt h hK hr A
 have hrow:∀i,i<(qR t r).length->_:=λ i hi=>XC (B:=A) (t:=qR t r) (i:=i) hi
 have htop:=Xm (B:=A) (t:=qR t r)
 have x:Ext A (A++((qR t r).map λ r=>O.lst (r.map W.int))++[O.lst ((List.range (qR t r).length).map λ i=>W.ref (A.length+i))]):=⟨((qR t r).map λ r=>O.lst (r.map W.int))++[O.lst ((List.range (qR t r).length).map λ i=>W.ref (A.length+i))],by rw [List.append_assoc]⟩
 generalize A++((qR t r).map λ r=>O.lst (r.map W.int))++[O.lst ((List.range (qR t r).length).map λ i=>W.ref (A.length+i))]=B at e hrow htop x
 have em:=Jp ((qm (zV (zw hi) (zV (zw hj) qt))).trans e) htop
 obtain ⟨ρ',acc',B',ec,⟨z,g1⟩,g2,g3⟩:=Qu (nl:=1) (cap:=[]) (tw:=zI 0) (ifs:=zi (.bl true)) (em:=zK (mQ j0 (qa (zh 0)))) (N:=(qR t r).length)
  (I:=λ p ρ' a C=>(∃z,ρ'=[z])/\C=B/\a=(List.range p).map λ i=>zy ((qR t r).getD i [])) em (by simp)
  (λ p ρ' a C hp ⟨⟨z,f1⟩,f2,f3⟩=>by
   subst f1 f2 f3
   refine ⟨.ref (A.length+p),[some (.ref (A.length+p))],(wX htop).trans (by rw [List.getElem?_map,List.getElem?_range hp];rfl),rfl,.inl ⟨_,_,_,_,rfl,QA (gN (ka (w:=.ref (A.length+p)) (zw rfl) (by unfold zU;dsimp only;rw [hrow p hp]))) ?_,⟨_,rfl⟩,rfl,?_⟩⟩
   ·simp;unfold zW;omega
   ·rw [List.range_succ,List.map_append];rfl)
  (λ ρ' a C ⟨_,f2,_⟩=>by subst f2;exact (wX htop).trans (by rw [List.getElem?_eq_none (by simp)])) ⟨⟨none,rfl⟩,rfl,by simp⟩
 refine ⟨B,(gN ec).trans ?_,x⟩
 rw [g2,g3,<- Qo (qR t r) [] zy]
 rfl
end
section
variable {n K:Nat}{A B C:Hx}{w:W}{t:List (List Int)}{r:List Int}
theorem DR {o:O}(s:qo 0 [o])(hK:K<=8):∃r B,GA [.ref 0,.int K] [o]=.ok (zy r) B/\qo 0 B/\r.length=K:=by
 unfold GA
 unfold GG
 obtain ⟨j,w,o1,e1,hj,hw,s1⟩:=ZN (k:=4) (ρ:=[some (.ref 0),some (.int (K:Int)),none]) (a:=zc (zi (.int 3)) (zc (zi (.int 7)) (zc (zi (.int 2000)) (zc (zp QT (zi (.int 10)) (zi (.int 12))) (zj))))) (vs:=[.int 3,.int 7,.int 2000,.int 1000000000000]) s rfl (λ _=>by kernel_rfl) rfl (by decide) (by decide)
 obtain ⟨far,f1,f2,rfl⟩:∃far:Int,0<far/\far<1000000000000000/\w=.int far:=by
  have:j=0∨j=1∨j=2∨j=3:=by omega
  rcases this with rfl | rfl | rfl | rfl<;>cases hw
  ·exact ⟨_,by decide,by decide,rfl⟩
  ·exact ⟨_,by decide,by decide,rfl⟩
  ·exact ⟨_,by decide,by decide,rfl⟩
  ·exact ⟨_,by decide,by decide,rfl⟩
 have hm:=Jl (m:=zh 1) (ρ:=[some (.ref 0),some (.int (K:Int)),some (.int far)]) (A:=o1::([]++[.lst [.int 3,.int 7,.int 2000,.int 1000000000000]])) (k:=(K:Int)) rfl (Yt (by omega))
 rw [Int.toNat_natCast] at hm
 obtain ⟨ρ',acc,B,e,⟨y,hρ⟩,⟨r,ha,hr⟩,sB⟩:=Qu (nl:=1) (cap:=[0,2]) (tw:=zI 0) (ifs:=zi (.bl true)) (em:=zK (zp yf (zD qu (zc (zh 1) (zc (zh 2) (zj)))) (zp k8 (zh 2) (zi (.int 2))))) (N:=K)
  (I:=λ i ρ acc C=>(∃y,ρ=[y,some (.ref 0),some (.int far)])/\(∃r:List Int,acc=r.map W.int/\r.length=i)/\qo 0 C) hm rfl
  (λ i ρ acc C hi ⟨⟨y,hρ⟩,⟨r,ha,hr⟩,sC⟩=>by
   subst hρ ha
   obtain ⟨q,C',e,_,k',_⟩:=Rv sC f1 f2
   refine ⟨_,_,ZY hi,rfl,.inl ⟨C,_,_,C',rfl,QA (y:=.int ((q:Int) - far / 2)) ?_ (by rw [List.length_map];unfold zW;omega),⟨_,rfl⟩,⟨r++[(q:Int) - far / 2],by rw [List.map_append];rfl,by rw [List.length_append,hr];rfl⟩,k'.st⟩⟩
   exact (zL ((qm (zV (zw rfl) (zV (zw rfl) qt))).trans e) ((zL (zw rfl) qN).trans (XM (by decide) (by decide)))).trans rfl)
  (λ ρ acc C _=>ZT (by omega)) ⟨⟨none,rfl⟩,⟨[],rfl,rfl⟩,s1⟩
 subst ha
 exact ⟨r,B,qy ((zM ((qO e1).trans rfl)).trans (qe (qC (gN e)))),sB,hr⟩
theorem Dz (s:qo n A)(hK:K<=8):∃r B,ZM [.ref n,.int K] A=.ok (zy r) B/\r.length=K/\Kn n A B:=by
 obtain ⟨c,b,hA,hc,hb⟩:=s
 have hm:=wR hA
 obtain ⟨r,A1,e,⟨c',b',e',hc',hb'⟩,hr⟩:=DR (o:=.lst [.int c,.bl b]) (K:=K) ⟨c,b,rfl,hc,hb⟩ hK
 refine ⟨r,A.set n (.lst [.int c',.bl b']),?_,hr,⟨Kp.set,c',b',List.getElem?_set_self hm,hc',hb'⟩⟩
 unfold ZM
 exact XF hA rfl e e' (YV r)
theorem T8 (h:r.length<=100):ye n A (zy r):=.tup (r.map W.int) rfl (by rw [List.length_map];exact h) λ x hx=>by
 obtain ⟨v,_,rfl⟩:=List.mem_map.mp hx
 exact .flat (Qy v)
noncomputable def EM (n:Nat)(C:Hx)(m:Ev)(ρ:En):Prop:=∀A,Ext C A->∃w A1,m ρ A=.ok w A1/\Ext A A1/\ye n A1 w
noncomputable def AM (n:Nat)(C:Hx)(a:Ea)(ρ:En)(k:Nat):Prop:=∀A,Ext C A->∃ws A1,a ρ A=.ok ws A1/\Ext A A1/\ws.length=k/\∀w∈ws,ye n A1 w
theorem Eb {ρ:En}:AM n C zj ρ 0:=λ A _=>⟨[],A,rfl,Ext.refl,rfl,λ _ h=>by cases h⟩
theorem Zj {m:Ev}{a:Ea}{ρ:En}{k:Nat}(s:qo n C)(h:EM n C m ρ)(t:AM n C a ρ k):AM n C (zc m a) ρ (k+1):=λ A x=>by
 obtain ⟨w,A1,e1,x1,h1⟩:=h A x
 obtain ⟨ws,A2,e2,x2,l2,h2⟩:=t A1 (x.trans x1)
 have s1:=(s.ext x).ext x1
 refine ⟨w::ws,A2,zV e1 e2,x1.trans x2,by rw [List.length_cons,l2],λ y hy=>?_⟩
 rcases List.mem_cons.mp hy with rfl | hy
 ·exact h1.mono s1 (Kn.ext s1 x2)
 ·exact h2 y hy
theorem Rx {m:Ev}{ρ:En}{w:W}{ty:Ty}(h:∀A,m ρ A=.ok w A)(hw:∀A,qW w A=some ty)(hn:ty≠.tup):EM n C m ρ:=λ A _=>⟨w,A,h A,Ext.refl,.oth ty (hw A) hn⟩
theorem Ko {m:Ev}{ρ:En}{ws:List W}(h:TE m ρ ws)(hl:ws.length<=100)(hp:∀x∈ws,∀A,Ext C A->ki n A x):EM n C m ρ:=λ A x=>⟨.tup ws,A,h A,Ext.refl,.tup ws rfl hl λ y hy=>hp y hy A x⟩
theorem Ey (s:qo n A)(h1:1<=r.length)(h8:r.length<=8):∃w B,gy [.ref n,zy r] A=.ok w B/\ye n B w/\Kn n A B:=by
 unfold gy UD
 unfold Wt
 have el:=Zw (ws:=r.map W.int) (ρ:=[some (.ref n),some (zy r),none,none,none]) (i:=1) (A:=A) rfl
 rw [List.length_map] at el
 obtain ⟨a,B1,e1,ha,k1,_⟩:=wV (ρ:=[some (.ref n),some (zy r),none,none,none]) s rfl el (by omega) (by omega)
 have eo:(zc (zi (.bl true)) (zc (zi .non) (zc (zi (.str "1")) (zc (zz (zc (zi (.int 1)) (zj))) (zc (zR (zc (zi (.int 1)) (zj))) (zc (zi (.bl false)) (zj)))))):Ea) [some (.ref n),some (zy r),some (.int (a:Int)),none,none] B1=.ok [.bl true,.non,.str "1",.tup [.int 1],.ref B1.length,.bl false] (B1++[.lst [.int 1]]):=rfl
 have k1':=Kn.ext k1.st (Ext.one (o:=.lst [.int 1]))
 have h1':(B1++[O.lst [.int 1]])[B1.length]? =some (.lst [.int 1]):=je
 have hB1:=k1.st.lt
 have hlt:n<(B1++[O.lst [.int 1]]).length:=k1'.st.lt
 generalize B1++[O.lst [.int 1]]=B2 at eo k1' h1' hlt
 have x2:Ext B2 (B2++[.lst [.bl true,.non,.str "1",.tup [.int 1],.ref B1.length,.bl false]]):=Ext.one
 obtain ⟨j,B3,e3,hj,k3,_⟩:=wV (ρ:=[some (.ref n),some (zy r),some (.int (a:Int)),none,none]) (me:=zi (.int 6)) (k1'.st.ext x2) rfl qN (by decide:(0:Int)<6) (by decide)
 have hone:=k3.kp.get (yh h1') (by omega)
 obtain ⟨v,hv,ev⟩:∃v,(∀A,Ext B3 A->ki n A v)/\zp zG (zR (zc (zi (.bl true)) (zc (zi .non) (zc (zi (.str "1")) (zc (zz (zc (zi (.int 1)) (zj))) (zc (zR (zc (zi (.int 1)) (zj))) (zc (zi (.bl false)) (zj)))))))) (zD qu (zc (zh 0) (zc (zi (.int 6)) (zj)))) [some (.ref n),some (zy r),some (.int (a:Int)),none,none] B1=.ok v B3:=by
  have hat:=k3.kp.get (je (A:=B2)) (by omega)
  have hj6:j=0∨j=1∨j=2∨j=3∨j=4∨j=5:=by omega
  rcases hj6 with rfl | rfl | rfl | rfl | rfl | rfl
  ·exact ⟨_,λ A _=>.flat (part_of rfl),(zL (jx eo) e3).trans (yI hat rfl)⟩
  ·exact ⟨_,λ A _=>.flat (part_of rfl),(zL (jx eo) e3).trans (yI hat rfl)⟩
  ·exact ⟨.str "1",λ A _=>.flat (part_of (by decide +kernel)),(zL (jx eo) e3).trans (yI hat rfl)⟩
  ·exact ⟨_,λ A _=>.flat (part_of rfl),(zL (jx eo) e3).trans (yI hat rfl)⟩
  ·exact ⟨.ref B1.length,λ A x=>.one B1.length rfl (x.at hone) (by omega),(zL (jx eo) e3).trans (yI hat rfl)⟩
  ·exact ⟨_,λ A _=>.flat (part_of rfl),(zL (jx eo) e3).trans (yI hat rfl)⟩
 have k3':Kn n A B3:=((k1.trans k1').trans (Kn.ext k1'.st x2)).trans k3
 have tt:TE (zh 1) [some (.ref n),some (zy r),some (.int (a:Int)),some v,none] (r.map W.int):=λ A=>rfl
 have tl:(r.map W.int).length<=8:=by rw [List.length_map];exact h8
 have pi:∀x∈r.map W.int,∀A,Ext B3 A->ki n A x:=λ x hx A _=>by
  obtain ⟨v,_,rfl⟩:=List.mem_map.mp hx
  exact .flat (Qy v)
 have c1:TE (yY (zh 1) (wg) (wc (zh 2))) [some (.ref n),some (zy r),some (.int (a:Int)),some v,none] (kK (r.map W.int) none (some (a:Int))):=XQ tt (λ _=>rfl) (λ _=>rfl)
 have c2:TE (yY (zh 1) (wc (zp z8 (zh 2) (zi (.int 1)))) (wg)) [some (.ref n),some (zy r),some (.int (a:Int)),some v,none] (kK (r.map W.int) (some ((a:Int)+1)) none):=XQ tt (λ _=>rfl) (λ _=>rfl)
 have c3:TE (yY (zh 1) (wc (zi (.int 1))) (wg)) [some (.ref n),some (zy r),some (.int (a:Int)),some v,none] (kK (r.map W.int) (some 1) none):=XQ tt (λ _=>rfl) (λ _=>rfl)
 have z1:=Xs (xs:=r.map W.int) (l:=none) (u:=some (a:Int))
 have z2:=Xs (xs:=r.map W.int) (l:=some ((a:Int)+1)) (u:=none)
 have z3:=Xs (xs:=r.map W.int) (l:=some 1) (u:=none)
 have sB:=k3'.st
 obtain ⟨ws,B4,e4,x4,l4,h4⟩:=Zj (m:=zp z8 (zp z8 (yY (zh 1) (wg) (wc (zh 2))) (zz (zc (zh 3) (zj)))) (yY (zh 1) (wc (zp z8 (zh 2) (zi (.int 1)))) (wg))) (ρ:=[some (.ref n),some (zy r),some (.int (a:Int)),some v,none]) sB
   (Ko (Ka (Ka c1 (XN (w:=v) λ A=>zw rfl) (by simp;omega)) c2 (by rw [List.length_append,List.length_singleton];omega)) (by rw [List.length_append,List.length_append,List.length_singleton];omega) λ x hx A xA=>by
    rcases List.mem_append.mp hx with hx | hx
    ·rcases List.mem_append.mp hx with hx | hx
     ·exact pi x (Y2 hx) A xA
     ·rw [List.mem_singleton.mp hx];exact hv A xA
    ·exact pi x (Y2 hx) A xA)
  (Zj (m:=zp z8 (zh 1) (zz (zc (zi (.int 0)) (zj)))) sB (Ko (Ka tt (XN (w:=.int 0) λ A=>qN) (by simp;omega)) (by rw [List.length_append,List.length_singleton];omega) λ x hx A xA=>by
    rcases List.mem_append.mp hx with hx | hx
    ·exact pi x hx A xA
    ·rw [List.mem_singleton.mp hx];exact .flat (Qy 0))
  (Zj (m:=yY (zh 1) (wc (zi (.int 1))) (wg)) sB (Ko c3 (by omega) λ x hx A xA=>pi x (Y2 hx) A xA)
  (Zj (m:=qg (qa (zh 1))) sB (λ A _=>⟨_,_,kU (ka (tt A) rfl),Ext.one,.oth .lst XZ (by decide)⟩)
  (Zj (m:=zi .non) sB (Rx (w:=.non) (ty:=.non) (λ _=>rfl) (λ _=>rfl) (by decide))
  (Zj (m:=ZE) sB (λ A _=>⟨.ref A.length,A++[.dct []],rfl,Ext.one,.oth .dct (by unfold qW;dsimp only;rw [je]) (by decide)⟩)
  (Zj (m:=zi (.int 0)) sB (Rx (w:=.int 0) (ty:=.int) (λ _=>rfl) (λ _=>rfl) (by decide))
  (Zj (m:=zp z8 (zz (zc (zh 1) (zj))) (yY (zh 1) (wc (zi (.int 1))) (wg))) sB (Ko (Ka (XN (w:=zy r) λ A=>zw rfl) c3 (by simp;omega)) (by rw [List.length_append,List.length_singleton];omega) λ x hx A xA=>by
    rcases List.mem_append.mp hx with hx | hx
    ·rw [List.mem_singleton.mp hx];exact .flat (Sf r)
    ·exact pi x (Y2 hx) A xA) Eb))))))) B3 Ext.refl
 have s4:=sB.ext x4
 have hr4:n<B4.length:=s4.lt
 obtain ⟨q,B5,e5,hq,k5,_⟩:=wV (ρ:=[some (.ref n),some (zy r),some (.int (a:Int)),some v,some (.ref B4.length)]) (me:=zi (.int 8)) (s4.ext (Ext.one (o:=.lst ws))) rfl qN (by decide:(0:Int)<8) (by decide)
 have hq':q<ws.length:=by omega
 have hat:=k5.kp.get (je (A:=B4)) (by omega)
 have k45:=(Kn.ext s4 (Ext.one (o:=.lst ws))).trans k5
 refine ⟨ws[q],B5,qy ?_,(h4 _ (List.getElem_mem hq')).mono s4 k45,(k3'.trans (Kn.ext sB x4)).trans k45⟩
 exact (zM ((qO e1).trans rfl)).trans ((zM ((qO ev).trans rfl)).trans ((zM ((qO (jx e4)).trans rfl)).trans (qe (qC ((zL (zw (i:=4) rfl) e5).trans (yI hat (List.getElem?_eq_getElem hq')))))))
theorem TX (s:qo n A)(h:qD t)(hK:qT t=(K:Int))(hw:ye n A w):∃b B,kR [zC t,w] A=.ok (.bl b) B/\Ext A B/\(b=true↔Z8 K w):=by
 unfold kR UK
 unfold WS
 cases hw with
 | oth ty ht hn=>
  refine ⟨false,A,qy (qe ((yW (Vp (yJ (k:=false) ((gc (zw (i:=1) rfl) ht).trans (by rw [Km hn]))))).trans (qe (qC qN)))),Ext.refl,λ z=>(by cases z),?_⟩
  rintro ⟨r,rfl,_⟩
  simp [zy,qW] at ht
  exact absurd ht.symm hn
 | tup us e hl hp=>
  subst e
  have e0:jd (jW .tup (zh 1)) [some (zC t),some (.tup us)] A=.ok (.bl false) A:=yJ (k:=true) ((gc (zw (i:=1) rfl) rfl).trans rfl)
  have e1:=(zL (Zw (ρ:=[some (zC t),some (.tup us)]) (i:=1) (A:=A) rfl) ((qm (zV (zw (i:=0) rfl) qt)).trans (Sg h A))).trans (Uc _ _ _)
  rw [hK] at e1
  by_cases q:us.length=K
  ·have ec:=GL (cap:=[]) (ρ:=[some (zC t),some (.tup us)]) (A:=A) (ifs:=jd (zD Ze (zc (zh 0) (zj)))) (me:=zh 0) (N:=us.length) (item:=λ i=>us.getD i .non) (g:=λ i=>us.getD i .non) (keep:=λ i=>!yv (us.getD i .non)) (Zl (zw (i:=1) rfl)) rfl (by unfold zW;omega)
    (λ i hi=>by show some us[i]? =_;rw [List.getElem?_eq_getElem hi,List.getD_eq_getElem?_getD,List.getElem?_eq_getElem hi];rfl)
    (by show some us[us.length]? =_;rw [List.getElem?_eq_none (Nat.le_refl _)])
    (λ i hi=>by
     have hm:us.getD i .non∈us:=by rw [List.getD_eq_getElem?_getD,List.getElem?_eq_getElem hi];exact List.getElem_mem hi
     obtain ⟨ty,hty⟩:=(hp _ hm).ty
     exact yJ ((qm (zV (zw rfl) qt)).trans (L7 hty)))
    (λ i hi _=>zw rfl)
   have hlp:∀x∈(((List.range us.length).filter λ i=>!yv (us.getD i .non)).map λ i=>us.getD i .non),ki n A x:=λ x hx=>by
    obtain ⟨i,hi,rfl⟩:=List.mem_map.mp hx
    have hi:=List.mem_range.mp (List.mem_filter.mp hi).1
    have hm:us.getD i .non∈us:=by rw [List.getD_eq_getElem?_getD,List.getElem?_eq_getElem hi];exact List.getElem_mem hi
    exact hp _ hm
   generalize hL:(((List.range us.length).filter λ i=>!yv (us.getD i .non)).map λ i=>us.getD i .non)=L at ec hlp
   have x2:Ext A (A++[.lst L]++[.lst []]):=Ext.one.app
   have e2:zp jl (qg (zN 1 [] (qj (zh 1)) (zI 0) (jd (zD Ze (zc (zh 0) (zj)))) (zK (zh 0)))) (zR (zj)) [some (zC t),some (.tup us)] A=.ok (.bl L.isEmpty) (A++[.lst L]++[.lst []]):=
    (zL (kU ec) (jx qt)).trans (MY (n:=n) (yh je) (λ x hx=>(hlp x hx).mono (Kn.ext s x2)) (by have:=je (A:=A++[.lst L]) (u:=.lst []);exact this))
   have e01:=(Z7 e0).trans (e1.trans (by rw [decide_eq_true (show (us.length:Int)=K by omega)]<;>rfl))
   refine ⟨L.isEmpty,_,qy ((zM ((j3 e01).trans j8)).trans (qe (qC e2))),x2,?_⟩
   rw [List.isEmpty_iff]
   constructor
   ·intro z
    rw [z] at hL
    have hn:=List.map_eq_nil_iff.mp hL
    have hall:us.all yv=true:=List.all_eq_true.mpr λ x hx=>by
     obtain ⟨i,hi,rfl⟩:=List.getElem_of_mem hx
     have:=List.filter_eq_nil_iff.mp hn i (List.mem_range.mpr hi)
     rw [List.getD_eq_getElem?_getD,List.getElem?_eq_getElem hi] at this
     simpa using this
    obtain ⟨r,rfl⟩:=all_ints hall
    exact ⟨r,rfl,by rw [<- q,List.length_map]⟩
   ·rintro ⟨r,e,_⟩
    unfold zy at e
    injection e with e
    rw [<- hL,List.map_eq_nil_iff,List.filter_eq_nil_iff]
    intro i hi
    have hi:=List.mem_range.mp hi
    have hm:us.getD i .non∈us:=by rw [List.getD_eq_getElem?_getD,List.getElem?_eq_getElem hi];exact List.getElem_mem hi
    rw [e] at hm
    obtain ⟨v,_,ev⟩:=List.mem_map.mp hm
    rw [e,<- ev]
    simp [yv]
  ·refine ⟨false,A,qy (qe ((yW ((Z7 e0).trans (e1.trans (by rw [decide_eq_false (show ¬(us.length:Int)=K by omega)];rfl)))).trans (qe (qC qN)))),Ext.refl,λ z=>(by cases z),?_⟩
   rintro ⟨r,e,hr⟩
   unfold zy at e
   injection e with e
   rw [e,List.length_map] at q
   exact absurd hr q
end
section
variable {n K:Nat}{A B C E:Hx}{w bad:W}{t:List (List Int)}{r:List Int}{Pt:Addr}{PF:jy}{ns:List Int}
theorem Cs {x y:W}(A:Hx):yn LS 0 [x,y] A=yr [x,y] A:=by
 rw [Xo (t:=QE yH yr) rfl]
 unfold QE QS
 dsimp only
 exact qm (ws:=[x,y]) (A1:=A) rfl
theorem CU {x y:W}(A:Hx):yn LS 1 [x,y] A=yr [x,y] A:=by
 rw [Xo (t:=QG yH yr) rfl]
 unfold QG QS
 dsimp only
 exact qm (ws:=[x,y]) (A1:=A) rfl
theorem CJ {x y:W}(A:Hx):yn LS 2 [x,y] A=yH [y,x] A:=by
 rw [Xo (t:=QC yH yr) rfl]
 unfold QC QS
 dsimp only
 exact qm (ws:=[y,x]) (A1:=A) rfl
theorem V2 {ρ:En}{i j:Nat}{a b:W}(ha:ρ[i]? =some (some a))(hb:ρ[j]? =some (some b)):gi [i,j] ρ=some [a,b]:=by
 unfold gi
 rw [ha]
 unfold gi
 rw [hb]
 rfl
noncomputable abbrev Uk (Pt:Addr)(PF:jy):Ex:=zr (qB (jd (zD kT (zc (zD Zi (zc (zh 3) (zc (zh 7) (zj)))) (zc (zD kR (zc (zh 3) (zc (zh 7) (zj)))) (zj))))) (zr (zZ (zi (.bl false))) (zA)) (zA)) (zr (qB (yk (jd (zD kR (zc (zh 3) (zc (zh 7) (zj))))) (zp jg (wz (yQ yH yr) PF (wB RF) (zc (kr 1 jh Pt 0 (PF 0)) (zj))) (zR (zc (zi (.int 4)) (zj))))) (zr (zZ (zi (.bl false))) (zA)) (zA)) (zr (qB (zp jg (wz (yQ yH yr) PF (wB RF) (zc (kr 1 jh Pt 1 (PF 1)) (zj))) (zR (zc (zi (.int 0)) (zj)))) (zr (zZ (zi (.bl false))) (zA)) (zA)) (zA)))
theorem LW {x0 x1 x2 x4 x5:Option W}(s:qo n A)(h1:A[1]? =some (.tab jh Pt))(h:qD t)(hK:qT t=(K:Int))(hw:ye n A w)(hb:kv A bad):
  ∃B,Uk Pt PF [x0,x1,x2,some (zC t),x4,x5,some bad,some w] A=.ok (.nx [x0,x1,x2,some (zC t),x4,x5,some bad,some w]) B/\Ext A B:=by
 obtain ⟨b,e1,hb1⟩:=IG h hK hw
 obtain ⟨b',B1,e2,x1',hb2⟩:=TX s h hK hw
 have:b'=b:=by rw [Bool.eq_iff_iff,hb1,hb2]
 subst this
 have s1:=s.ext x1'
 have hw1:=hw.mono s (Kn.ext s x1')
 obtain ⟨b2,B2,e3,x2',hb3⟩:=TX s1 h hK hw1
 have:b2=b':=by rw [Bool.eq_iff_iff,hb3,hb2]
 subst this
 have s2:=s1.ext x2'
 have hw2:=hw1.mono s1 (Kn.ext s1 x2')
 have t2:=x2'.at (x1'.at h1)
 have go1:∀m2:Ex,zr (qB (jd (zD kT (zc (zD Zi (zc (zh 3) (zc (zh 7) (zj)))) (zc (zD kR (zc (zh 3) (zc (zh 7) (zj)))) (zj))))) (zr (zZ (zi (.bl false))) (zA)) (zA)) m2 [x0,x1,x2,some (zC t),x4,x5,some bad,some w] A=m2 [x0,x1,x2,some (zC t),x4,x5,some bad,some w] B1:=λ m2=>
  zM ((j3 (yJ (k:=true) ((qm (zV ((qm (zV (zw rfl) (zV (zw rfl) qt))).trans e1) (zV ((qm (zV (zw rfl) (zV (zw rfl) qt))).trans e2) qt))).trans (FX _ _)))).trans j8)
 have en:jd (zD kR (zc (zh 3) (zc (zh 7) (zj)))) [x0,x1,x2,some (zC t),x4,x5,some bad,some w] B1=.ok (.bl (!b2)) B2:=yJ ((qm (zV (zw rfl) (zV (zw rfl) qt))).trans e3)
 obtain ⟨B3,e4,x3⟩:∃B3,yk (jd (zD kR (zc (zh 3) (zc (zh 7) (zj))))) (zp jg (wz (yQ yH yr) PF (wB RF) (zc (kr 1 jh Pt 0 (PF 0)) (zj))) (zR (zc (zi (.int 4)) (zj)))) [x0,x1,x2,some (zC t),x4,x5,some bad,some w] B1=.ok (.bl false) B3/\Ext B2 B3:=by
  cases b2 with
  | true=>exact ⟨B2,gM en,Ext.refl⟩
  | false=>
   have hn:¬Z8 K w:=λ z=>by cases hb3.mpr z
   obtain ⟨B3,e,x⟩:=GB (k:=0) (g:=4) (PF:=PF) (ρ:=[x0,x1,x2,some (zC t),x4,x5,some bad,some w]) (t:=QE yH yr) t2 rfl (V2 (i:=3) (j:=7) rfl rfl) ((Cs B2).trans (Lu h hK hw2 hn)) ID
   exact ⟨B3,(kX en).trans e,x⟩
 have t3:=x3.at t2
 have hb3':kv B3 bad:=hb.mono ((x1'.trans x2').trans x3).ky
 obtain ⟨B4,e5,x4'⟩:=GB (k:=1) (g:=0) (PF:=PF) (ρ:=[x0,x1,x2,some (zC t),x4,x5,some bad,some w]) (t:=QG yH yr) t3 rfl (V2 (i:=6) (j:=7) rfl rfl) ((CU B3).trans (M9 hb3')) T4
 exact ⟨B4,(go1 _).trans ((zM ((j3 e4).trans j8)).trans ((zM ((j3 e5).trans j8)).trans j8)),((x1'.trans x2').trans x3).trans x4'⟩
theorem NZ {x0 x1 x5 x6 x7:Option W}(s:qo n A)(h1:1<=r.length)(h8:r.length<=8):∃q B ws,zp z8 (zR (zc (zh 4) (zc (zp wC (zz (zc (zi (.int 0)) (zj))) (mQ qK (qa (zh 4)))) (zc (zz (zj)) (zj))))) (qg (zN 1 [2,4] (ji (zi (.int 4))) (zI 0) (zi (.bl true)) (zK (zD gy (zc (zh 1) (zc (zh 2) (zj))))))) [x0,x1,some (.ref n),some (zC t),some (zy r),x5,x6,x7] A=.ok (.ref q) B/\B[q]? =some (.lst ws)/\(∀w∈ws,ye n B w)/\Kn n A B:=by
 have el:=Zw (ws:=r.map W.int) (ρ:=[x0,x1,some (.ref n),some (zC t),some (zy r),x5,x6,x7]) (i:=4) (A:=A) rfl
 rw [List.length_map] at el
 have em:zp wC (zz (zc (zi (.int 0)) (zj))) (mQ qK (qa (zh 4))) [x0,x1,some (.ref n),some (zC t),some (zy r),x5,x6,x7] A=.ok (.tup (List.replicate r.length [W.int 0]).flatten) A:=by
  refine (zL (Y6 (zV qN qt)) el).trans ?_
  unfold wC
  dsimp only
  rw [if_pos (by simp only [Bool.and_eq_true,decide_eq_true_iff];exact ⟨by omega,by omega,by simp,by simp⟩),Int.toNat_natCast]
 have e1:zR (zc (zh 4) (zc (zp wC (zz (zc (zi (.int 0)) (zj))) (mQ qK (qa (zh 4)))) (zc (zz (zj)) (zj)))) [x0,x1,some (.ref n),some (zC t),some (zy r),x5,x6,x7] A=.ok (.ref A.length) (A++[.lst [zy r,.tup (List.replicate r.length [W.int 0]).flatten,.tup []]]):=jx (zV (zw rfl) (zV em (zV (Y6 qt) qt)))
 have hz:∀B,ye n B (.tup (List.replicate r.length [W.int 0]).flatten):=λ B=>by
  refine .tup _ rfl ?_ λ x hx=>?_
  ·rw [List.length_flatten,List.map_replicate,List.sum_replicate_nat];simp;omega
  ·obtain ⟨l,hl,hx⟩:=List.mem_flatten.mp hx
   rw [List.eq_of_mem_replicate hl] at hx
   rw [List.mem_singleton.mp hx]
   exact .flat (Qy 0)
 have hws:∀B,∀w∈([zy r,.tup (List.replicate r.length [W.int 0]).flatten,.tup []]:List W),ye n B w:=λ B w hw=>by
  simp only [List.mem_cons,List.not_mem_nil,or_false] at hw
  rcases hw with rfl | rfl | rfl
  ·exact T8 (by omega)
  ·exact hz B
  ·exact .tup [] rfl (by simp) λ x hx=>by cases hx
 have s1:=s.ext (Ext.one (o:=.lst [zy r,.tup (List.replicate r.length [W.int 0]).flatten,.tup []]))
 have k1:=Kn.ext s (Ext.one (o:=.lst [zy r,.tup (List.replicate r.length [W.int 0]).flatten,.tup []]))
 have hA:=s.lt
 have h0:(A++[O.lst [zy r,.tup (List.replicate r.length [W.int 0]).flatten,.tup []]])[A.length]? =some (.lst [zy r,.tup (List.replicate r.length [W.int 0]).flatten,.tup []]):=je
 have hul:([zy r,.tup (List.replicate r.length [W.int 0]).flatten,.tup []]:List W).length=3:=rfl
 generalize [zy r,.tup (List.replicate r.length [W.int 0]).flatten,.tup []]=us at e1 hws s1 k1 h0 hul
 generalize A++[O.lst us]=A1 at e1 s1 k1 h0
 obtain ⟨ρ',acc,B,e,⟨y,hρ⟩,hl,hw,kn⟩:=Qu (nl:=1) (cap:=[2,4]) (mi:=ji (zi (.int 4))) (ρ:=[x0,x1,some (.ref n),some (zC t),some (zy r),x5,x6,x7]) (A:=A1) (A1:=A1) (j:=yU 0 4) (tw:=zI 0) (ifs:=zi (.bl true)) (em:=zK (zD gy (zc (zh 1) (zc (zh 2) (zj))))) (N:=4)
  (I:=λ i ρ acc B=>(∃y,ρ=[y,some (.ref n),some (zy r)])/\acc.length=i/\(∀w∈acc,ye n B w)/\Kn n A1 B) (Jl qN (by decide)) rfl
  (λ i ρ acc B hi ⟨⟨y,hρ⟩,hl,hw,kn⟩=>by
   subst hρ
   obtain ⟨w,B',e,hw',k'⟩:=Ey kn.st h1 h8
   refine ⟨_,_,ZY hi,rfl,.inl ⟨B,_,_,B',rfl,QA ((qm (zV (zw rfl) (zV (zw rfl) qt))).trans e) (by unfold zW;omega),⟨_,rfl⟩,by rw [List.length_append,hl];rfl,λ z hz=>?_,kn.trans k'⟩⟩
   rcases List.mem_append.mp hz with hz | hz
   ·exact (hw z hz).mono kn.st k'
   ·rw [List.mem_singleton.mp hz];exact hw')
  (λ ρ acc B _=>ZT (by omega)) ⟨⟨none,rfl⟩,rfl,λ _ hw=>(by cases hw),⟨Kp.refl,s1⟩⟩
 have h2:=kn.kp.get h0 (by omega)
 have e2:=kU e
 have xx:Ext B (B++[.lst acc]++[.lst (us++acc)]):=Ext.one.app
 refine ⟨_,_,us++acc,(zL e1 e2).trans (Yz (yh h2) je (by rw [hul,hl];unfold zW;omega)),je,λ w hw'=>?_,(k1.trans kn).trans (Kn.ext kn.st xx)⟩
 rcases List.mem_append.mp hw' with hw' | hw'
 ·exact hws _ w hw'
 ·exact (hw w hw').mono kn.st (Kn.ext kn.st xx)
theorem Sn (h:qD t):(qR t r).length<=100/\∀q∈qR t r,q.length<=100:=by
 have n8:=h.n8
 refine ⟨by unfold qR;rw [List.length_map];omega,λ q hq=>?_⟩
 obtain ⟨row,hrow,rfl⟩:=List.mem_map.mp hq
 rw [List.length_map]
 have:=h.sq row hrow
 omega
noncomputable abbrev BL (Pt:Addr)(PF:jy):Ex:=zr (zT 2 (zD Qq (zc (zh 0) (zc (zh 1) (zj))))) (zr (zT 3 (zD ZK (zc (zh 2) (zj)))) (zr (zT 4 (zD ZM (zc (zh 2) (zc (zD gC (zc (zh 3) (zj))) (zj))))) (zr (zT 5 (mQ j0 (zN 1 [] (qj (zD Zd (zc (zh 3) (zc (zh 4) (zj))))) (zI 0) (zi (.bl true)) (zK (mQ j0 (qa (zh 0))))))) (zr (qB (jd (zD kT (zc (zD ZP (zc (zh 3) (zc (zh 4) (zj)))) (zc (zh 5) (zj))))) (zr (zZ (zi (.bl false))) (zA)) (zA)) (zr (zT 6 (zD ZJ (zc (zh 2) (zj)))) (zr (kJ (qj (zp z8 (zR (zc (zh 4) (zc (zp wC (zz (zc (zi (.int 0)) (zj))) (mQ qK (qa (zh 4)))) (zc (zz (zj)) (zj))))) (qg (zN 1 [2,4] (ji (zi (.int 4))) (zI 0) (zi (.bl true)) (zK (zD gy (zc (zh 1) (zc (zh 2) (zj))))))))) (zI 7) (Uk Pt PF)) (zr (qB (zp jg (wz (yQ yH yr) PF (wB RF) (zc (kr 1 jh Pt 2 (PF 2)) (zj))) (zR (zc (zi (.int 0)) (zj)))) (zr (zZ (zi (.bl false))) (zA)) (zA)) (zA))))))))
theorem Hn {k:Nat}{x2 x3 x4 x5 x6 x7:Option W}(h0:A[0]? =some (.ro (ns.map W.int)))(h1:A[1]? =some (.tab jh Pt)):∃y2 y3 y4 y5 y6 y7 B,BL Pt PF [some (.ref 0),some (.int (k:Int)),x2,x3,x4,x5,x6,x7] A=.ok (.nx [some (.ref 0),some (.int (k:Int)),y2,y3,y4,y5,y6,y7]) B/\B[0]? =some (.ro (ns.map W.int))/\B[1]? =some (.tab jh Pt):=by
 obtain ⟨o,eS,hS⟩:=Fb h0 k
 have hA:=wR h1
 have a0:=yh (u:=o) h0
 have a1:=yh (u:=o) h1
 generalize hn:A.length=n at *
 generalize A++[o]=A1 at *
 obtain ⟨t,A2,e2,ht,k2⟩:=EW hS
 have kb:=VP ht
 obtain ⟨K,hK⟩:=Int.eq_ofNat_of_zero_le (show 0<=qT t by omega)
 obtain ⟨r,A3,e3,hr,k3⟩:=Dz (K:=K) k2.st (by omega)
 obtain ⟨A4,e4,x4'⟩:=Eo (ρ:=[some (.ref 0),some (.int (k:Int)),some (.ref n),some (zC t),some (zy r),x5,x6,x7]) (i:=3) (j:=4) ht hK hr rfl rfl A3
 have k4:=k3.trans (Kn.ext k3.st x4')
 have hmr:ye n A4 (zy r):=T8 (by omega)
 have e5:=L4 ht hK hr hmr
 obtain ⟨bad,A5,e6,hb,k5⟩:=D1 k4.st
 obtain ⟨q,A6,ws,e7,hq,hw,k6⟩:=NZ (t:=t) (x0:=some (.ref 0)) (x1:=some (.int (k:Int))) (x5:=some (zC (qR t r))) (x6:=some bad) (x7:=x7) (r:=r) k5.st (by omega) (by omega)
 have k25:=(k2.trans k4).trans k5
 have kall:=k25.trans k6
 have b0:=kall.kp.get a0 (by omega)
 have b1:=kall.kp.get a1 (by omega)
 have hb6:=hb.mono (k6.ky k5.st)
 obtain ⟨ρ',B,e8,x,y7,hρ⟩:=Yp (j:=⟨λ A i=>(zU (.ref q) A).map λ ws=>ws[i]?,ws.length⟩) (st:=turn (zI 7) (Uk Pt PF)) (N:=ws.length) (I:=λ _ ρ B=>Ext A6 B/\∃y7,ρ=[some (.ref 0),some (.int (k:Int)),some (.ref n),some (zC t),some (zy r),some (zC (qR t r)),some bad,y7])
  (λ i ρ B hi ⟨x,y7,hρ⟩=>by
   subst hρ
   obtain ⟨B',e,x'⟩:=LW (PF:=PF) (x0:=some (.ref 0)) (x1:=some (.int (k:Int))) (x2:=some (.ref n)) (x4:=some (zy r)) (x5:=some (zC (qR t r))) (k6.st.ext x) (x.at b1) ht hK ((hw _ (List.getElem_mem hi)).mono k6.st (Kn.ext k6.st x)) (hb6.mono x.ky)
   exact ⟨ws[i],_,B',Dk (x.at hq) (List.getElem?_eq_getElem hi),(gK rfl).trans e,x.trans x',_,rfl⟩)
  (λ ρ B ⟨x,_⟩=>FK (x.at hq) (Nat.le_refl _)) ws.length 0 [some (.ref 0),some (.int (k:Int)),some (.ref n),some (zC t),some (zy r),some (zC (qR t r)),some bad,x7] A6 (by omega) ⟨Ext.refl,_,rfl⟩
 subst hρ
 obtain ⟨B2,e9,x9⟩:=GB (k:=2) (g:=0) (PF:=PF) (ρ:=[some (.ref 0),some (.int (k:Int)),some (.ref n),some (zC t),some (zy r),some (zC (qR t r)),some bad,y7]) (t:=QC yH yr) (x.at b1) rfl (V2 (i:=4) (j:=6) rfl rfl) ((CJ B).trans (Fc (hb6.mono x.ky))) T4
 refine ⟨some (.ref n),some (zC t),some (zy r),some (zC (qR t r)),some bad,y7,B2,?_,x9.at (x.at b0),x9.at (x.at b1)⟩
 refine (zM (ρ1:=[some (.ref 0),some (.int (k:Int)),some (.ref n),x3,x4,x5,x6,x7]) (A1:=A1) ((qO ((qm (ws:=[.ref 0,.int k]) (A1:=A) rfl).trans eS)).trans rfl)).trans ?_
 refine (zM (ρ1:=[some (.ref 0),some (.int (k:Int)),some (.ref n),some (zC t),x4,x5,x6,x7]) (A1:=A2) ((qO ((qm (ws:=[.ref n]) (A1:=A1) rfl).trans e2)).trans rfl)).trans ?_
 refine (zM (ρ1:=[some (.ref 0),some (.int (k:Int)),some (.ref n),some (zC t),some (zy r),x5,x6,x7]) (A1:=A3) ((qO ((qm (zV (zw (i:=2) rfl) (zV ((qm (zV (zw (i:=3) rfl) qt)).trans (Sg ht A2)) qt))).trans (by rw [hK];exact e3))).trans rfl)).trans ?_
 refine (zM (ρ1:=[some (.ref 0),some (.int (k:Int)),some (.ref n),some (zC t),some (zy r),some (zC (qR t r)),x6,x7]) (A1:=A4) ((qO e4).trans rfl)).trans ?_
 refine (zM ((j3 (A1:=A4) (yJ (k:=true) ((qm (zV ((qm (zV (zw (i:=3) rfl) (zV (zw (i:=4) rfl) qt))).trans e5) (zV (zw (i:=5) rfl) qt))).trans (Lc (Sn ht).1 (Sn ht).2 A4)))).trans j8)).trans ?_
 refine (zM (ρ1:=[some (.ref 0),some (.int (k:Int)),some (.ref n),some (zC t),some (zy r),some (zC (qR t r)),some bad,x7]) (A1:=A5) ((qO ((qm (zV (zw (i:=2) rfl) qt)).trans e6)).trans rfl)).trans ?_
 exact (zM ((Zm (Jp e7 hq)).trans e8)).trans ((zM ((j3 e9).trans j8)).trans j8)
end
noncomputable def Vj (Pt:Addr)(PF:jy):Fn:=z9 8 (VL ZJ gy kR gC ZM kT Zd Qq ZK Zi ZP yH yr RF Pt PF)
theorem IA:Ro jh Vj:=λ ns hl Pt PF=>by
 have hs:zU (.ref 0) [.ro (ns.map W.int),.tab jh Pt]=some (ns.map W.int):=rfl
 have el:mQ qK (qa (zh 0)) [some (.ref 0),none,none,none,none,none,none,none] [.ro (ns.map W.int),.tab jh Pt]=.ok (.int ns.length) [.ro (ns.map W.int),.tab jh Pt]:=by
  rw [yA (ka (w:=.ref 0) (A1:=[.ro (ns.map W.int),.tab jh Pt]) (zw rfl) hs)]
  unfold qK
  rw [List.length_map]
 have em:zp VO (zi (.int 1)) (zp Zx (mQ qK (qa (zh 0))) (zi (.int 6))) [some (.ref 0),none,none,none,none,none,none,none] [.ro (ns.map W.int),.tab jh Pt]=
   .ok (.int (if (if (6:Int)<ns.length then 6 else (ns.length:Int)) > 1 then (if (6:Int)<ns.length then 6 else (ns.length:Int)) else 1)) [.ro (ns.map W.int),.tab jh Pt]:=
  (zL (qN (w:=.int 1)) ((zL el (qN (w:=.int 6))).trans rfl)).trans rfl
 generalize hv:(if (if (6:Int)<ns.length then 6 else (ns.length:Int)) > 1 then (if (6:Int)<ns.length then 6 else (ns.length:Int)) else 1)=v at em
 have hsm:jz v=true:=by
  have:0<=v/\v<1000:=by
   rw [<- hv]
   split<;>split<;>omega
  obtain ⟨k,rfl⟩:=Int.eq_ofNat_of_zero_le this.1
  exact O5 (by omega)
 obtain ⟨ρ',B,e,_⟩:=Yp (j:=yU 0 v.toNat) (st:=turn (zI 1) (BL Pt PF)) (N:=v.toNat) (I:=λ _ ρ B=>B[0]? =some (.ro (ns.map W.int))/\B[1]? =some (.tab jh Pt)/\∃y1 y2 y3 y4 y5 y6 y7,ρ=[some (.ref 0),y1,y2,y3,y4,y5,y6,y7])
  (λ i ρ B hi ⟨h0,h1,y1,y2,y3,y4,y5,y6,y7,hρ⟩=>by
   subst hρ
   obtain ⟨z2,z3,z4,z5,z6,z7,B',e,h0',h1'⟩:=Hn (PF:=PF) (k:=i) (x2:=y2) (x3:=y3) (x4:=y4) (x5:=y5) (x6:=y6) (x7:=y7) h0 h1
   refine ⟨_,_,B',ZY hi,(gK (ρ1:=[some (.ref 0),some (.int (i:Int)),y2,y3,y4,y5,y6,y7]) ?_).trans e,h0',h1',_,_,_,_,_,_,_,rfl⟩
   rw [Int.zero_add];rfl)
  (λ ρ B _=>ZT (by omega)) v.toNat 0 [some (.ref 0),none,none,none,none,none,none,none] [.ro (ns.map W.int),.tab jh Pt] (by omega) ⟨rfl,rfl,_,_,_,_,_,_,_,rfl⟩
 refine ⟨B,qy ?_⟩
 unfold VL
 exact (zM ((Zm (Jl em hsm)).trans e)).trans (qe (qC qN))
section
variable {P:Program}{w:World}{K:Frag}{mg:Str->Option Value}{base h:Heap}
theorem P4 (X:K.In h)(G:h.Ns mainGlobals mg)(T:Tx K){PG:jy}{lam:Nat->Fn}(hL:∀k,Z3 P w K mg base 7 (PG k) (lam k)):zE P w K mg base 8 "_law_refused" 1 ((z9 4 (Q8 PG lam))):=by
 obtain ⟨f,fd,F,a⟩:=T.Wz
 exact (P8 (k:=7) (bu X G T) (cl T) T.VR F (PySem.W.mg_of X G a) (Nat.le_refl _) hL)
theorem EJ (X:K.In h)(Gl:h.Ns mainGlobals mg)(T:Tx K){f c Pt:Addr}{fd:FuncData}(F:qH K "law" "law" Z2 f fd)(hn:PySem.W.nsIn K mainGlobals "law" = some (some (.ref f)))(ht:PySem.W.tabIn K "law" = some (c,Pt))(hB:BMain mg base)(hC:PySem.W.CodeHd base c Pt):yc P w K mg base we 9 f fd ["_law_script"] (spT K 1 (Vj Pt)):=
 o_law (k:=8) (j:=6) (kk:=8) (bu X Gl T) F hn ht hB hC ((PY X Gl T).mono (by decide)) ((P6 X Gl T).mono (by decide)) ((Ov X Gl T).mono (by decide)) ((UR X Gl T).mono (by decide)) ((Nw X Gl T).mono (by decide)) ((Nb X Gl T).mono (by decide)) ((Oy X Gl T).mono (by decide)) ((O2 X Gl T).mono (by decide)) ((OP X Gl T).mono (by decide)) ((LJ X Gl T).mono (by decide)) ((M5 X Gl T).mono (by decide)) (by decide)
  (Dv (k:=6) (bu X Gl T) (λ base=>(Ts X Gl T).mono (by decide)) (λ base=>(Tt X Gl T).mono (by decide))) (λ base PG hL=>(P4 X Gl T hL).imp λ us A _=>F7 us A)
theorem all_mk {l:PySem.W.OpenLaw}{fa Pt:Addr}(X:K.In h)(Gl:h.Ns mainGlobals mg)(hfa:mg "law" = some (.ref fa))(T:Tx K)(ht:∃c,PySem.W.tabIn K "law" = some (c,Pt)/\PySem.W.codeHdIn K c Pt=true):
  ∃fd:FuncData,(∀(s:Shared) (v:Value),BindsTo s fd ⟨[v],[]⟩ [("_law_script",v)])/\∀base:Heap,K.In base->base.Ns mainGlobals mg->BMain mg base->yc l.prog w K mg base we 9 fa fd ["_law_script"] (spT K 1 (Vj Pt)):=by
 obtain ⟨c,ht,hcd⟩:=ht
 obtain ⟨f,fd,F,a⟩:=T.Vr
 have e:=hfa.symm.trans (PySem.W.mg_of X Gl a)
 cases e
 obtain ⟨oc,od,kV,doc,pm,an,cdv,ct,osl,rfl,lk,hcd'⟩:=id F.ex
 exact ⟨_,λ s v=>.of_eq rfl,λ base kb nb hB=>EJ X Gl T F a ht hB (PySem.W.codeHd_of_K kb hcd)⟩
end
end G
noncomputable def PySem.W.Fast.tw17787960422922776607:Nat:=0
noncomputable def PySem.W.Fast.tw11965749977937900491:Nat:=0
noncomputable def PySem.W.Fast.tw15391617979970084202:Nat:=0
noncomputable def PySem.W.Fast.tw15649422043575776197:Nat:=0
noncomputable def PySem.W.Fast.tw4747919788619154768:Nat:=0
noncomputable def PySem.W.Fast.tw5822228357860631444:Nat:=0
noncomputable def PySem.W.Fast.tw3551742307977379183:Nat:=0
noncomputable def PySem.W.Fast.tw13208077897673942908:Nat:=0
noncomputable def PySem.W.Fast.tw13161733270146272326:Nat:=0
noncomputable def PySem.W.Fast.tw6263864483361236713:Nat:=0
noncomputable def PySem.W.Fast.tw16408274238741156462:Nat:=0
noncomputable def PySem.W.Fast.tw1931386078100433987:Nat:=0
noncomputable def PySem.W.Fast.tw17812013171650912740:Nat:=0
noncomputable def PySem.W.Fast.tw12140426397283594451:Nat:=0
noncomputable def PySem.W.Fast.tw4417232417741597010:Nat:=0
noncomputable def PySem.W.Fast.tw8957890525665093755:Nat:=0
noncomputable def PySem.W.Fast.tw11179142320887884998:Nat:=0
noncomputable def PySem.W.Fast.tw4527727352203202412:Nat:=0
noncomputable def PySem.W.Fast.tw13243359140977977388:Nat:=0
noncomputable def PySem.W.Fast.tw4958883491304297035:Nat:=0
noncomputable def PySem.W.Fast.tw13549013767881653400:Nat:=0
noncomputable def PySem.W.Fast.tw9899224093903649238:Nat:=0
noncomputable def PySem.W.Fast.tw18113290827562886217:Nat:=0
noncomputable def PySem.W.Fast.tw15077879931812146394:Nat:=0
noncomputable def PySem.W.Fast.tw5463511472210134255:Nat:=0
noncomputable def PySem.W.Fast.tw11674034272359210410:Nat:=0
noncomputable def PySem.W.Fast.tw6280389960259197020:Nat:=0
noncomputable def PySem.W.Fast.tw4793433153225959765:Nat:=0
noncomputable def PySem.W.Fast.tw3991117014305241888:Nat:=0
noncomputable def PySem.W.Fast.tw8593009334089669752:Nat:=0
noncomputable def PySem.W.Fast.tw710760948236137529:Nat:=0
noncomputable def PySem.W.Fast.tw14714854246972743708:Nat:=0
noncomputable def PySem.W.Fast.tw9880639363673671517:Nat:=0
noncomputable def PySem.W.Fast.tw3576654317672516320:Nat:=0
noncomputable def PySem.W.Fast.tw14528739482814264629:Nat:=0
noncomputable def PySem.W.Fast.tw6886291234087582482:Nat:=0
noncomputable def PySem.W.Fast.tw11327510884210351478:Nat:=0
noncomputable def PySem.W.Fast.tw964435031169662440:Nat:=0
noncomputable def PySem.W.Fast.tw16904818132361011372:Nat:=0
noncomputable def PySem.W.Fast.tw3174012075082661560:Nat:=0
noncomputable def PySem.W.Fast.tw2854561366853315818:Nat:=0
open PySem PySem.W PyProof.Rows
set_option maxRecDepth 100000 in
set_option maxHeartbeats 0 in
theorem PySem.Challenge.cw_nearkinds_k05_mixes_and_squares_holds : PySem.Challenge.rw_nearkinds_k05_mixes_and_squares.Holds := by
 w_on;o_law;k_head;(case hw=>w_witness2)
 k_fill
 refine' Mi.Cq (l:=PySem.Challenge.rw_nearkinds_k05_mixes_and_squares) (k:=9) (x := "_law_script") G.IA rfl rfl ⟨rfl,by decide,by decide⟩ (λ w h Y=>PySem.W.km_in_of Y) (λ w h Y=>PySem.W.km_tabs_of Y _ (List.mem_cons_self ..)) ?ht ?hKP ?F
 case ht=>exact λ p=>by kernel_rfl
 case hKP=>exact λ p=>by kernel_rfl
 case F=>
  intro w mg fa h KX Gl hmg ht
  have T:G.Tx (L2.Pe KX):=by
   dsimp only [L2.Pe]
   refine' ⟨?GI,?GU,?We,?WM,?Gn,?WA,?Gw,?Gj,?W7,?WR,?Gk,?Gz,?W3,?Wk,?Gd,?GD,?Wu,?Wo,?WJ,?Wf,?WH,?W9,?Jb,?GJ,?WZ,?Ww,?Xn,?G8,?Wz,?Vr,?Gb,?VJ,?Vz,?X2,?Gx,?VH,?W5,?Vx,?XT,?Vy,?Vq,?Xx,?VB,?Xh,?Vl,?XA,?VD,?WI,?VM,?VE,?VR⟩
   (case GI=>(refine' Mi.jo ?a ?l ?c ?k;(case a=>k_is);(case l=>k_is);(case c=>k_is);(case k=>k_is)))
   (case GU=>(refine' Mi.jo ?a ?l ?c ?k;(case a=>k_is);(case l=>k_is);(case c=>k_is);(case k=>k_is)))
   (case We=>(refine' Mi.jo ?a ?l ?c ?k;(case a=>k_is);(case l=>k_is);(case c=>k_is);(case k=>k_is)))
   (case WM=>(refine' Mi.jo ?a ?l ?c ?k;(case a=>k_is);(case l=>k_is);(case c=>k_is);(case k=>k_is)))
   (case Gn=>(refine' Mi.jo ?a ?l ?c ?k;(case a=>k_is);(case l=>k_is);(case c=>k_is);(case k=>k_is)))
   (case WA=>(refine' Mi.jo ?a ?l ?c ?k;(case a=>k_is);(case l=>k_is);(case c=>k_is);(case k=>k_is)))
   (case Gw=>(refine' Mi.jo ?a ?l ?c ?k;(case a=>k_is);(case l=>k_is);(case c=>k_is);(case k=>k_is)))
   (case Gj=>(refine' Mi.jo ?a ?l ?c ?k;(case a=>k_is);(case l=>k_is);(case c=>k_is);(case k=>k_is)))
   (case W7=>(refine' Mi.jo ?a ?l ?c ?k;(case a=>k_is);(case l=>k_is);(case c=>k_is);(case k=>k_is)))
   (case WR=>(refine' Mi.jo ?a ?l ?c ?k;(case a=>k_is);(case l=>k_is);(case c=>k_is);(case k=>k_is)))
   (case Gk=>(refine' Mi.jo ?a ?l ?c ?k;(case a=>k_is);(case l=>k_is);(case c=>k_is);(case k=>k_is)))
   (case Gz=>(refine' Mi.jo ?a ?l ?c ?k;(case a=>k_is);(case l=>k_is);(case c=>k_is);(case k=>k_is)))
   (case W3=>(refine' Mi.jo ?a ?l ?c ?k;(case a=>k_is);(case l=>k_is);(case c=>k_is);(case k=>k_is)))
   (case Wk=>(refine' Mi.jo ?a ?l ?c ?k;(case a=>k_is);(case l=>k_is);(case c=>k_is);(case k=>k_is)))
   (case Gd=>(refine' Mi.jo ?a ?l ?c ?k;(case a=>k_is);(case l=>k_is);(case c=>k_is);(case k=>k_is)))
   (case GD=>(refine' Mi.jo ?a ?l ?c ?k;(case a=>k_is);(case l=>k_is);(case c=>k_is);(case k=>k_is)))
   (case Wu=>(refine' Mi.jo ?a ?l ?c ?k;(case a=>k_is);(case l=>k_is);(case c=>k_is);(case k=>k_is)))
   (case Wo=>(refine' Mi.jo ?a ?l ?c ?k;(case a=>k_is);(case l=>k_is);(case c=>k_is);(case k=>k_is)))
   (case WJ=>(refine' Mi.jo ?a ?l ?c ?k;(case a=>k_is);(case l=>k_is);(case c=>k_is);(case k=>k_is)))
   (case Wf=>(refine' Mi.jo ?a ?l ?c ?k;(case a=>k_is);(case l=>k_is);(case c=>k_is);(case k=>k_is)))
   (case WH=>(refine' Mi.jo ?a ?l ?c ?k;(case a=>k_is);(case l=>k_is);(case c=>k_is);(case k=>k_is)))
   (case W9=>(refine' Mi.jo ?a ?l ?c ?k;(case a=>k_is);(case l=>k_is);(case c=>k_is);(case k=>k_is)))
   (case Jb=>(refine' Mi.jo ?a ?l ?c ?k;(case a=>k_is);(case l=>k_is);(case c=>k_is);(case k=>k_is)))
   (case GJ=>(refine' Mi.jo ?a ?l ?c ?k;(case a=>k_is);(case l=>k_is);(case c=>k_is);(case k=>k_is)))
   (case WZ=>(refine' Mi.jo ?a ?l ?c ?k;(case a=>k_is);(case l=>k_is);(case c=>k_is);(case k=>k_is)))
   (case Ww=>(refine' Mi.jo ?a ?l ?c ?k;(case a=>k_is);(case l=>k_is);(case c=>k_is);(case k=>k_is)))
   (case Xn=>(refine' Mi.jo ?a ?l ?c ?k;(case a=>k_is);(case l=>k_is);(case c=>k_is);(case k=>k_is)))
   (case G8=>(refine' Mi.jo ?a ?l ?c ?k;(case a=>k_is);(case l=>k_is);(case c=>k_is);(case k=>k_is)))
   (case Wz=>(refine' Mi.jo ?a ?l ?c ?k;(case a=>k_is);(case l=>k_is);(case c=>k_is);(case k=>k_is)))
   (case Vr=>(refine' Mi.jo ?a ?l ?c ?k;(case a=>k_is);(case l=>k_is);(case c=>k_is);(case k=>k_is)))
   (case Gb=>k_is)
   (case VJ=>k_is)
   (case Vz=>k_is)
   (case X2=>k_is)
   (case Gx=>k_is)
   (case VH=>k_is)
   (case W5=>k_is)
   (case Vx=>k_is)
   (case XT=>k_is)
   (case Vy=>k_is)
   (case Vq=>k_is)
   (case Xx=>k_is)
   (case VB=>k_is)
   (case Xh=>k_is)
   (case Vl=>k_is)
   (case XA=>k_is)
   (case VD=>k_is)
   (case WI=>(refine' Mi.DT ?a;(case a=>k_is)))
   (case VM=>kernel_rfl)
   (case VE=>kernel_rfl)
   (case VR=>kernel_rfl)
  exact G.all_mk KX Gl hmg T ht
