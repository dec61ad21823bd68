import PyProof.Rows.All
import Wide.All
import OpenK.AllK
import Wide.FinOn
import Lean
import PyProof.EqAt
import PyProof.EqKinds
import PyProof.TupleCall
import OpenK.KOwn
import PyProof.Rows.FStr
import PyProof.FString
import PyProof.NsDelKeeps
import KE.KIsAll
import PyProof.ExcArgs
import KE.KLam
import KE.KNestM
import PyProof.Rows.SetFrom
import PyProof.ListMulRoad
import PyProof.FactsAll.set_1
import PyProof.FactsAll.set_2
import PyProof.CollectIter
import PyProof.TupleIter
import PyProof.CollectWalk
import PyProof.Rows.SortShell
import PyProof.SumAny
import PyProof.ListOps
import KE.KDictList
import PySem.Challenge.RW_nearkinds_k01_tables_known
open PySem.W (Frag)
set_option Elab.async false
set_option linter.all false
set_option maxRecDepth 1000000
set_option maxHeartbeats 4000000
namespace L2
open PySem PySem.Spec PyProof.Rows
noncomputable abbrev Key:=Sum Int Str
noncomputable def g9:Key->Value->Bool
 | .inl k,v=>Value.isInt k v
 | .inr x,v=>Value.isStrOf x v
noncomputable def Hc (w:World):Key->Int
 | .inl k=>hashInt k
 | .inr x=>hashStr w x
theorem kS:∀{k:Key} {v:Value},g9 k v=true->(∃i t,k=Sum.inl i/\v=Value.int i t)∨(∃x t,k=Sum.inr x/\v=Value.str x t)
 | .inl i,v,h=>by
  obtain ⟨t,e⟩:=Value.isInt_shape (k:=i) (v:=v) h
  exact .inl ⟨i,t,rfl,e⟩
 | .inr x,v,h=>by
  obtain ⟨t,e⟩:=Value.isStrOf_shape (x:=x) (v:=v) h
  exact .inr ⟨x,t,rfl,e⟩
theorem R4 (i:Int)(t:Tok):g9 (.inl i) (.int i t)=true:=by simp [g9,Value.isInt]
theorem Rv (x:Str)(t:Tok):g9 (.inr x) (.str x t)=true:=by simp [g9,Value.isStrOf]
theorem Mo (a b:Int):decide ((Sum.inl a:Key)=Sum.inl b)=(a==b):=by
 by_cases e:a=b
 ·subst e;simp
 ·have h:¬(Sum.inl a:Key)=Sum.inl b:=λ q=>e (Sum.inl.inj q)
  rw [decide_eq_false h]
  exact (beq_eq_false_iff_ne.mpr e).symm
theorem LN (a b:Str):decide ((Sum.inr a:Key)=Sum.inr b)=decide (a=b):=by
 by_cases e:a=b
 ·subst e;simp
 ·have h:¬(Sum.inr a:Key)=Sum.inr b:=λ q=>e (Sum.inr.inj q)
  rw [decide_eq_false h,decide_eq_false e]
theorem LI (a:Int)(b:Str):decide ((Sum.inl a:Key)=Sum.inr b)=false:=decide_eq_false (λ q=>nomatch q)
theorem Mv (a:Str)(b:Int):decide ((Sum.inr a:Key)=Sum.inl b)=false:=decide_eq_false (λ q=>nomatch q)
noncomputable def yr (prog:Program)(w:World):PySem.KeyKind prog w Key where
 is:=g9
 hash:=Hc w
 inj:=λ v a b ha hb=>by
  rcases kS ha with ⟨i,t,rfl,rfl⟩ | ⟨x,t,rfl,rfl⟩
  ·rcases kS hb with ⟨j,u,rfl,e⟩ | ⟨y,u,rfl,e⟩
   ·injection e with e1 _;rw [e1]
   ·exact nomatch e
  ·rcases kS hb with ⟨j,u,rfl,e⟩ | ⟨y,u,rfl,e⟩
   ·exact nomatch e
   ·injection e with e1 _;rw [e1]
 byValue:=λ k v h=>by
  rcases kS h with ⟨i,t,rfl,rfl⟩ | ⟨x,t,rfl,rfl⟩<;>rfl
 pyHash:=λ hv h=>by
  rcases kS hv with ⟨i,t,rfl,rfl⟩ | ⟨x,t,rfl,rfl⟩
  ·exact wpAny_pyHash_int h
  ·exact wpAny_pyHash_str h
 eqBool:=λ hu hv h=>by
  rcases kS hu with ⟨i,t,rfl,rfl⟩ | ⟨x,t,rfl,rfl⟩
  ·rcases kS hv with ⟨j,u,rfl,rfl⟩ | ⟨y,u,rfl,rfl⟩
   ·rw [Mo] at h;exact wpAny_eqBool_int h
   ·rw [LI] at h;exact SeqAt.EqAt.int_str i t y u _ _ _ _ h
  ·rcases kS hv with ⟨j,u,rfl,rfl⟩ | ⟨y,u,rfl,rfl⟩
   ·rw [Mv] at h;exact SeqAt.EqAt.str_int x t j u _ _ _ _ h
   ·rw [LN] at h;exact wpAny_eqBool_str h
 «strs»:=λ k x t v h=>by
  rcases kS h with ⟨i,u,rfl,e⟩ | ⟨y,u,rfl,e⟩
  ·exact nomatch e
  ·injection e with e1 _
   subst e1
   cases v<;>rfl
theorem Sj (prog:Program)(w:World)(i:Int)(t:Tok):(yr prog w).is (.inl i) (.int i t)=true:=R4 i t
theorem SD (prog:Program)(w:World)(x:Str)(t:Tok):(yr prog w).is (.inr x) (.str x t)=true:=Rv x t
inductive V where
 | non | bl (b:Bool) | int (i:Int) | str (x:Str) | byt (b:Array UInt8) | flt (b:UInt64) | ref (a:Addr) | ty (n:String)
 deriving DecidableEq
noncomputable def RelV:V->Value->Prop
 | .non,u=>u=Value.none
 | .bl b,u=>u=Value.bool b
 | .int i,u=>∃t,u=Value.int i t
 | .str x,u=>∃t,u=Value.str x t
 | .byt b,u=>∃t,u=Value.bytes b t
 | .flt b,u=>∃t,u=Value.float b t
 | .ref a,u=>u=Value.ref a
 | .ty n,u=>u=Value.type n
noncomputable abbrev Vals:List V->List Value->Prop:=Paired RelV
theorem Vals.length {xs:List V}{us:List Value}(r:Vals xs us):xs.length=us.length:=Paired.length r
theorem Vals.get:∀{xs:List V} {us:List Value} {i:Nat} {x:V},Vals xs us->xs[i]? =some x->∃u,us[i]? =some u/\RelV x u
 | _,_,_,_,.nil,e=>by simp at e
 | _,_,0,_,.cons r _,e=>by simp at e;subst e;exact ⟨_,rfl,r⟩
 | _,_,i+1,x,.cons _ t,e=>by
  obtain ⟨u,h1,h2⟩:=Vals.get (i:=i) (x:=x) t (by simpa using e)
  exact ⟨u,by simpa using h1,h2⟩
theorem Vals.set {x:V}{u:Value}(r:RelV x u):∀{xs:List V} {us:List Value} (i:Nat),Vals xs us->Vals (xs.set i x) (us.set i u)
 | _,_,_,.nil=>.nil
 | _,_,0,.cons _ t=>.cons r t
 | _,_,i+1,.cons q t=>.cons q (Vals.set r i t)
theorem Vals.append:∀{xs ys:List V} {us ws:List Value},Vals xs us->Vals ys ws->Vals (xs++ys) (us++ws)
 | _,_,_,_,.nil,s=>s
 | _,_,_,_,.cons r t,s=>.cons r (Vals.append t s)
theorem Vals.take:∀{xs:List V} {us:List Value} (n:Nat),Vals xs us->Vals (xs.take n) (us.take n)
 | _,_,0,_=>.nil
 | _,_,_+1,.nil=>.nil
 | _,_,n+1,.cons r t=>.cons r (Vals.take n t)
theorem Vals.drop:∀{xs:List V} {us:List Value} (n:Nat),Vals xs us->Vals (xs.drop n) (us.drop n)
 | _,_,0,r=>r
 | _,_,_+1,.nil=>.nil
 | _,_,n+1,.cons _ t=>Vals.drop n t
theorem Vals.none_of:∀{xs:List V} {us:List Value} {i:Nat},Vals xs us->xs[i]? =none->us[i]? =none:=λ {xs us i} r e=>by
 have h1:=r.length
 have h2:xs.length<=i:=List.getElem?_eq_none_iff.mp e
 exact List.getElem?_eq_none_iff.mpr (by omega)
noncomputable def ZV:Option V->Option Value->Prop
 | some v,some u=>RelV v u
 | none,none=>True
 | _,_=>False
noncomputable def KV {κ:Type}:List (κ × V)->List (κ × Value)->Prop:=Paired λ (p:κ × V) (q:κ × Value)=>p.1=q.1/\RelV p.2 q.2
noncomputable def kV:Key->V
 | .inl i=>.int i
 | .inr x=>.str x
inductive HO where
 | lst (xs:List V)
 | tup (xs:List V)
 | dK (kvs:List (Key × V)) | dT (kvs:List (List Key × V))
 | set (S:Int->Bool) (n:Nat)
 | ins (C dx:Addr) (fs:List (Str × V))
 | own (x:Addr)
 | xd (fs:List (Str × V))
 | met (f x:Addr)
 | rng (lo hi:Int)
 | frz (o:Obj) (u:HO)
 | tbl (ps:Array Value)
 | ext (φ:Heap->Prop)
noncomputable abbrev Hp:=Addr->Option HO
noncomputable def upd (H:Hp)(a:Addr)(o:HO):Hp:=λ b=>if b=a then some o else H b
theorem jO {H:Hp}{a:Addr}{o:HO}:upd H a o a=some o:=by unfold upd;rw [if_pos rfl]
theorem qf {H:Hp}{a b:Addr}{o:HO}(h:b≠a):upd H a o b=H b:=by unfold upd;rw [if_neg h]
theorem IH {H:Hp}{a b:Addr}{o u:HO}(h:H a=some o)(h':H b=some u)(d:o≠u):a≠b:=by
 intro e;subst e;rw [h] at h';exact d (Option.some.inj h')
theorem kT {H:Hp}{a b:Addr}{o:HO}(h:H a=some o)(h':H b=none):a≠b:=by
 intro e;subst e;rw [h] at h';cases h'
noncomputable def wI (h:Heap)(a:Addr)(items:Array Value):Prop:=∃o,h.get? a=some o/\(o.cls=.type "tuple" /\ o.dict=none)/\∃n,o.data=.seq items n
theorem wI.tup {h:Heap}{a:Addr}{items:Array Value}(x:wI h a items):IsTup h a items:=let ⟨o,e,c,d⟩:=x;⟨o,e,c.1,d⟩
theorem wI.new (h:Heap)(items:Array Value):wI (h.push { cls:=.type "tuple",data:=.seq items }) h.objs.size items:=⟨_,Heap.get?_push_size h rfl,⟨rfl,rfl⟩,0,rfl⟩
section
variable (P:Program)(w:World)
noncomputable def qP (H:Hp)(h:Heap)(a:Addr):HO->Prop
 | .lst xs=>xs.length<=sizeLine/\∃(its:List Value) (n:Nat),Vals xs its/\h.get? a=some { cls:=.type "list",data:=.seq its.toArray n }
 | .tup xs=>xs.length<=sizeLine/\∃its:List Value,Vals xs its/\wI h a its.toArray
 | .dK kvs=>kvs.length<=sizeLine/\(a==sysModules)=false/\∃vs,KV kvs vs/\h.DictOf (yr P w) a vs
 | .dT kvs=>kvs.length<=sizeLine/\(a==sysModules)=false/\∃xs:List (List Key × Addr × Value),
   Paired (λ (p:List Key × V) (q:List Key × Addr × Value)=>p.1=q.1/\H q.2.1=some (.tup (p.1.map kV))/\RelV p.2 q.2.2) kvs xs/\
   ∃o es ep,h.get? a=some o/\o.ExactDict/\o.data=.dict es ep/\es.toList=xs.map (entryOfKey (tupleKind (yr P w)))/\(xs.map (·.1)).Nodup
 | .set S n=>h.SetOf (intKind P w) a S n
 | .ins C dx fs=>H dx=some (.own a)/\fs.length<=1000/\dx≠a/\h.get? a=some (PySem.W.instObj C dx)/\
   ∃mA,h.Ns1 dx mA/\(∀f,ZV (fs.lookup f) (mA f))/\PySem.Within mA (fs.map (·.1))
 | .own _=>∃o,h.get? a=some o
 | .xd fs=>∃mA,h.Ns1 a mA/\∀f,ZV (fs.lookup f) (mA f)
 | .rng lo hi=>∃t u v,h.get? a=some { cls:=.type "range",data:=.fields #[.int lo t,.int hi u,.int 1 v] }
 | .frz o u=>h.get? a=some o/\qP H h a u
 | .tbl ps=>h.get? a=some { cls:=.none,data:=.fields ps }
 | .met f x=>h.get? a=some (PySem.W.methodObj (.ref f) (.ref x))
 | .ext φ=>φ h/\(∃o,h.get? a=some o)/\∀h1 h2:Heap,φ h1->(∀o,h1.get? a=some o->h2.get? a=some o)->φ h2
noncomputable def jb (H:Hp)(h:Heap):Prop:=∀a o,H a=some o->qP P w H h a o
end
section
variable {P:Program}{w:World}{H H':Hp}{h h':Heap}{a:Addr}{o:HO}
theorem qP.lt (x:qP P w H h a o):a<h.objs.size:=by
 cases o with
 | lst xs=>obtain ⟨_,_,_,_,e⟩:=x;exact Heap.lt_size e
 | tup xs=>obtain ⟨_,_,_,p⟩:=x;exact p.tup.lt
 | dK kvs=>obtain ⟨_,_,_,_,o,_,_,e,_⟩:=x;exact Heap.lt_size e
 | dT kvs=>obtain ⟨_,_,_,_,o,_,_,e,_⟩:=x;exact Heap.lt_size e
 | set S n=>obtain ⟨o,_,_,_,e,_⟩:=x;exact Heap.lt_size e
 | ins C dx fs=>obtain ⟨_,_,_,e,_⟩:=x;exact Heap.lt_size e
 | own y=>obtain ⟨_,e⟩:=x;exact Heap.lt_size e
 | xd fs=>obtain ⟨_,⟨_,_,_,e,_⟩,_⟩:=x;exact Heap.lt_size e
 | rng lo hi=>obtain ⟨_,_,_,e⟩:=x;exact Heap.lt_size e
 | frz ob u=>obtain ⟨e,_⟩:=x;exact Heap.lt_size e
 | tbl ps=>exact Heap.lt_size (show h.get? a=some _ from x)
 | met f y=>exact Heap.lt_size (show h.get? a=some _ from x)
 | ext φ=>obtain ⟨_,⟨_,e⟩,_⟩:=x;exact Heap.lt_size e
theorem Paired.mapP {α β:Type}{F G:α->β->Prop}:∀{l₁:List α} {l₂:List β},Paired F l₁ l₂->(∀a b,F a b->G a b)->Paired G l₁ l₂
 | _,_,.nil,_=>.nil
 | _,_,.cons r t,f=>.cons (f _ _ r) (Paired.mapP t f)
theorem qP.stay (x:qP P w H h a o)(k:∀b u,(b=a∨H b=some (.own a))->h.get? b=some u->h'.get? b=some u)
  (ho:∀b,H b=some (.own a)->H' b=some (.own a))(ht:∀b xs,H b=some (.tup xs)->H' b=some (.tup xs)):qP P w H' h' a o:=by
 induction o with
 | lst xs=>obtain ⟨z,its,n,r,e⟩:=x;exact ⟨z,its,n,r,k _ _ (.inl rfl) e⟩
 | tup xs=>obtain ⟨z,its,r,ob,e,c⟩:=x;exact ⟨z,its,r,ob,k _ _ (.inl rfl) e,c⟩
 | dK kvs=>obtain ⟨z,y,vs,r,ob,es,ep,e,c⟩:=x;exact ⟨z,y,vs,r,ob,es,ep,k _ _ (.inl rfl) e,c⟩
 | dT kvs=>
  obtain ⟨z,y,xs,r,ob,es,ep,e,c⟩:=x
  exact ⟨z,y,xs,Paired.mapP r λ p q z=>⟨z.1,ht _ _ z.2.1,z.2.2⟩,ob,es,ep,k _ _ (.inl rfl) e,c⟩
 | set S n=>obtain ⟨ob,es,ep,t,e,c⟩:=x;exact ⟨ob,es,ep,t,k _ _ (.inl rfl) e,c⟩
 | ins C dx fs=>
  obtain ⟨d,z,ne,e,mA,⟨od,es,ep,e2,c⟩,r⟩:=x
  exact ⟨ho _ d,z,ne,k _ _ (.inl rfl) e,mA,⟨od,es,ep,k _ _ (.inr d) e2,c⟩,r⟩
 | own y=>obtain ⟨ob,e⟩:=x;exact ⟨ob,k _ _ (.inl rfl) e⟩
 | xd fs=>obtain ⟨mA,⟨od,es,ep,e,c⟩,r⟩:=x;exact ⟨mA,⟨od,es,ep,k _ _ (.inl rfl) e,c⟩,r⟩
 | rng lo hi=>obtain ⟨t,u,v,e⟩:=x;exact ⟨t,u,v,k _ _ (.inl rfl) e⟩
 | frz ob u ih=>obtain ⟨e,q⟩:=x;exact ⟨k _ _ (.inl rfl) e,ih q⟩
 | tbl ps=>
  have e:h.get? a=some { cls:=.none,data:=.fields ps }:=x
  show h'.get? a=some { cls:=.none,data:=.fields ps }
  exact k a _ (.inl rfl) e
 | met f y=>
  have e:h.get? a=some (PySem.W.methodObj (.ref f) (.ref y)):=x
  show h'.get? a=some (PySem.W.methodObj (.ref f) (.ref y))
  exact k a _ (.inl rfl) e
 | ext φ=>obtain ⟨p,⟨o,e⟩,st⟩:=x;exact ⟨st _ _ p λ o q=>k _ _ (.inl rfl) q,⟨o,k _ _ (.inl rfl) e⟩,st⟩
theorem jb.lt (x:jb P w H h)(e:H a=some o):a<h.objs.size:=(x a o e).lt
theorem jb.fresh (x:jb P w H h)(e:h.objs.size<=a):H a=none:=by
 cases q:H a with
 | none=>rfl
 | some u=>exact absurd (Nat.lt_of_lt_of_le (x.lt q) e) (Nat.lt_irrefl _)
theorem jb.kept (x:jb P w H h)(k:∀b u,h.get? b=some u->h'.get? b=some u):jb P w H h':=λ a o e=>
 (x a o e).stay (λ b u _ q=>k b u q) (λ _ q=>q) λ _ _ q=>q
theorem jb.laid (x:jb P w H h)(k:∀b u,h.get? b=some u->h'.get? b=some u)(hp:h.objs.size<=a)(new:qP P w (upd H a o) h' a o):jb P w (upd H a o) h':=λ b u e=>by
 have hn:=x.fresh hp
 by_cases hb:b=a
 ·subst hb;rw [jO] at e;cases e;exact new
 ·rw [qf hb] at e
  exact (x b u e).stay (λ c v _ q=>k c v q) (λ c q=>by rw [qf (kT q hn)];exact q) λ c xs q=>by rw [qf (kT q hn)];exact q
end
noncomputable def Rd (H:Hp)(a:Addr)(u:HO):Prop:=H a=some u∨∃o,H a=some (.frz o u)
theorem Rd.ok {P:Program}{w:World}{H:Hp}{h:Heap}{a:Addr}{u:HO}(r:Rd H a u)(x:jb P w H h):qP P w H h a u:=by
 rcases r with r | ⟨o,r⟩
 ·exact x a u r
 ·obtain ⟨_,q⟩:=x a _ r
  exact q
noncomputable def QG:Option HO->Prop
 | some (.lst _)=>True
 | some (.dK _)=>True
 | some (.dT _)=>True
 | some (.set _ _)=>True
 | some (.ins _ _ _)=>True
 | some (.ext _)=>True
 | _=>False
section
variable {P:Program}{w:World}{H:Hp}{h h':Heap}{x e:Addr}{o':HO}
theorem jb.write (ok:jb P w H h)(mu:QG (H x))(he:e=x∨H e=some (.own x))(k:∀b u,b≠e->h.get? b=some u->h'.get? b=some u)(heo:∃u,h'.get? e=some u)
  (new:qP P w (upd H x o') h' x o'):jb P w (upd H x o') h':=λ b u q=>by
 have nown:∀c y,H c=some (.own y)->c≠x:=λ c y r z=>by subst z;rw [r] at mu;exact mu
 have ntup:∀c xs,H c=some (.tup xs)->c≠x:=λ c xs r z=>by subst z;rw [r] at mu;exact mu
 by_cases hb:b=x
 ·subst hb;rw [jO] at q;cases q;exact new
 ·rw [qf hb] at q
  by_cases hbe:b=e
  ·have q':H b=some (.own x):=by
    rcases he with z | z
    ·exact absurd (hbe.trans z) hb
    ·rw [hbe];exact z
   rw [q] at q';cases q'
   obtain ⟨v,hv⟩:=heo
   exact ⟨v,by rw [hbe];exact hv⟩
  ·refine (ok b u q).stay (λ c v hc r=>k c v ?_ r) (λ c r=>by rw [qf (nown c b r)];exact r) λ c xs r=>by rw [qf (ntup c xs r)];exact r
   rcases hc with rfl | hc
   ·exact hbe
   ·rintro rfl
    rcases he with z | z
    ·exact nown c b hc z
    ·rw [hc] at z;cases z;exact hb rfl
end
structure Un (fs ex:List Addr)(H H':Hp)(h h':Heap):Prop where
 keep:∀b o,h.get? b=some o->H b=none->b∉fs->b∉ex->h'.get? b=some o
 slot:∀b o,h.get? b=some o->H b=none->b∈fs->b∉ex->∃sl,h'.get? b=some { o with slots:=sl }
 free:∀b o,h.get? b=some o->H b=none->b∉ex->H' b=none
 there:∀b o,h.get? b=some o->b∉ex->∃o',h'.get? b=some o'
 tups:∀b xs,H b=some (.tup xs)->H' b=some (.tup xs)
 frzs:∀b o u,H b=some (.frz o u)->H' b=some (.frz o u)
 tbls:∀b ps,H b=some (.tbl ps)->∃more,H' b=some (.tbl (ps++more))
section
variable {fs fs' ex ex':List Addr}{H H1 H2:Hp}{h h1 h2 h':Heap}{a x e:Addr}{o:HO}
theorem Un.any (u:Un fs ex H H1 h h1){b:Addr}{ob:Obj}(q:h.get? b=some ob)(n:H b=none)(hx:b∉ex):∃sl,h1.get? b=some { ob with slots:=sl }:=by
 by_cases hb:b∈fs
 ·exact u.slot b ob q n hb hx
 ·exact ⟨ob.slots,u.keep b ob q n hb hx⟩
theorem Un.kept (k:∀b u,h.get? b=some u->h'.get? b=some u):Un fs ex H H h h':=
 ⟨λ b ob q _ _ _=>k b ob q,λ b ob q _ _ _=>⟨ob.slots,k b ob q⟩,λ _ _ _ n _=>n,λ b ob q _=>⟨ob,k b ob q⟩,λ _ _ q=>q,λ _ _ _ q=>q,λ _ ps q=>⟨#[],by rw [q];simp⟩⟩
theorem Un.refl:Un fs ex H H h h:=Un.kept λ _ _ q=>q
theorem Un.laid (k:∀b u,h.get? b=some u->h'.get? b=some u)(hp:h.objs.size<=a)(hn:H a=none):Un fs ex H (upd H a o) h h' where
 keep:=λ b u q _ _ _=>k b u q
 slot:=λ b u q _ _ _=>⟨u.slots,k b u q⟩
 free:=λ b u q n _=>by rw [qf (Nat.ne_of_lt (Nat.lt_of_lt_of_le (Heap.lt_size q) hp))];exact n
 there:=λ b u q _=>⟨u,k b u q⟩
 tups:=λ b xs q=>by rw [qf (kT q hn)];exact q
 frzs:=λ b u xs q=>by rw [qf (kT q hn)];exact q
 tbls:=λ b ps q=>⟨#[],by rw [qf (kT q hn),q];simp⟩
theorem Un.write (mu:QG (H x))(he:e=x∨H e=some (.own x))(k:∀b u,b≠e->h.get? b=some u->h'.get? b=some u)(heo:∃u,h'.get? e=some u):Un fs ex H (upd H x o) h h':=by
 have hx:∀b,H b=none->b≠x:=λ b n z=>by subst z;rw [n] at mu;exact mu
 have hb:∀b,H b=none->b≠e:=λ b n z=>by
  subst z
  rcases he with r | r
  ·exact hx b n r
  ·rw [n] at r;cases r
 have hm:∀b u,H b=some u->¬QG (some u)->b≠x:=λ b u q nm z=>by subst z;rw [q] at mu;exact nm mu
 refine ⟨λ b u q n _ _=>k b u (hb b n) q,λ b u q n _ _=>⟨u.slots,k b u (hb b n) q⟩,λ b u q n _=>by rw [qf (hx b n)];exact n,λ b u q _=>?_,
  λ b xs q=>by rw [qf (hm b _ q λ z=>z)];exact q,λ b u xs q=>by rw [qf (hm b _ q λ z=>z)];exact q,λ b ps q=>⟨#[],by rw [qf (hm b _ q λ z=>z),q];simp⟩⟩
 by_cases hbe:b=e
 ·subst hbe;exact heo
 ·exact ⟨u,k b u hbe q⟩
end
noncomputable def J6 (h:Heap)(H:Hp):List Addr:=(List.range h.objs.size).filter λ a=>(H a).isSome
noncomputable def wV (h:Heap)(H:Hp):Heap:=PySem.W.hideAll h (J6 h H)
theorem Pd (h:Heap)(H:Hp):(wV h H).objs.size=h.objs.size:=PySem.W.hideAll_size _ _
theorem Px {h:Heap}{H:Hp}{b:Addr}{o:Obj}(e:h.get? b=some o)(n:H b=none):(wV h H).get? b=some o:=
 PySem.W.hideAll_get _ e λ hm=>by
  have q:(H b).isSome=true:=(List.mem_filter.mp hm).2
  rw [n] at q;simp at q
theorem Nn {h:Heap}{H:Hp}{b:Addr}{o:Obj}(e:(wV h H).get? b=some o):h.get? b=some o/\H b=none:=by
 have e':h.get? b=some o:=PySem.W.of_hideAll (J6 h H) e
 refine ⟨e',?_⟩
 cases q:H b with
 | none=>rfl
 | some x=>
  have hm:b∈J6 h H:=List.mem_filter.mpr ⟨List.mem_range.mpr (Heap.lt_size e'),by simp [q]⟩
  have z:(wV h H).get? b=none:=PySem.W.hideAll_none (J6 h H) hm
  rw [z] at e;cases e
structure Mod (K:Frag)(mg:Str->Option Value)(base:Heap):Prop where
 kin:K.In base
 glob:base.Ns mainGlobals mg
 blt:∃mb,base.Ns builtinsNs mb/\∀x:Str,x ≠ "__name__" -> mb x=bootBuiltins x
 nolimit:base.NoLimit
structure Cx where
 prog:Program
 w:World
 K:Frag
 mg:Str->Option Value
 base:Heap
 A:Around
 N:List Str
 s0:Shared
 H0:Hp
 env:Env
 outer:List Env
 stack:List Env
 ex:List Addr
 fn:Str->Bool
 calm:Bool
 pn:List (Addr × Obj)
 xe:Value->Shared->Prop
noncomputable def kM (l:List Env):List Addr:=l.filterMap (·.frame)
noncomputable abbrev Cx.fs (X:Cx):List Addr:=kM X.outer
noncomputable def J3 (sc:Scope)(x:Str):Prop:=sc.names.lookup x=some .local∨sc.names.lookup x=some .cell∨sc.names.lookup x=some .free
noncomputable def Loc (sc:Scope)(x:Str):Prop:=sc.names.lookup x=some .local∨sc.names.lookup x=some .cell
noncomputable def Look (env:Env)(h:Heap)(m:Str->Option Value)(x:Str)(u:Value):Prop:=
 (env.kindOf x=some .local/\m x=some u)∨((env.kindOf x=some .cell∨env.kindOf x=some .free)/\∃c,env.cells.lookup x=some c/\h.IsCell c (some u))
structure Cx.Ok (X:Cx):Prop where
 mod:Mod X.K X.mg X.base
 kind:X.env.scope.kind=.function
 glob:X.env.globals=mainGlobals
 blt:X.env.builtins=builtinsNs
 above:X.s0.heap.objs.size<=X.env.locals
 inj:∀x y c,X.env.cells.lookup x=some c->X.env.cells.lookup y=some c->x=y
 has:∀x,(X.env.kindOf x=some .cell∨X.env.kindOf x=some .free)->∃c,X.env.cells.lookup x=some c
 cab:∀x c,X.fn x=true->X.env.cells.lookup x=some c->X.s0.heap.objs.size<=c
 hd:X.calm=true->X.A.handled=none
 frames:X.A.frames=some X.stack
 stk:X.stack=X.outer∨(X.stack=X.env::X.outer/\X.env.frame=some X.env.locals)
 exf:∀b∈X.ex,b≠X.env.locals/\∀x c,X.env.cells.lookup x=some c->c≠b
 bs:∀b o,X.base.get? b=some o->X.s0.heap.get? b=some o/\X.H0 b=none
 bsz:X.base.objs.size<=X.s0.heap.objs.size
 noex:∀b o,X.base.get? b=some o->b∉X.ex
 exfs:∀b∈X.ex,b∉X.fs
 funs:X.s0.heap.FunFrames X.base X.outer
 frf:∀b∈X.fs,X.H0 b=none
structure Inv (X:Cx)(pins:List (Addr × Obj))(σ:List (Option V))(H:Hp)(s:Shared):Prop where
 ok:X.Ok
 os:s.os=X.s0.os
 bare:AllBare s.gens
 base:Un X.fs X.ex X.H0 H X.s0.heap s.heap
 loc:∃m,s.heap.Ns X.env.locals m/\∀(i:Nat) (x:Str) (v:V),X.N[i]? =some x->σ[i]? =some (some v)->J3 X.env.scope x->∃u,RelV v u/\Look X.env s.heap m x u
 cell:∀x c,X.env.cells.lookup x=some c->∃v,s.heap.IsCell c v
 free:H X.env.locals=none
 freeC:∀x c,X.env.cells.lookup x=some c->H c=none
 pin:∀p∈X.pn++pins,s.heap.get? p.1=some p.2/\H p.1=none/\p.1≠X.env.locals/\p.1∉X.fs/\∀v,p.2.data≠.cell v
 hok:jb X.prog X.w H s.heap
 len:σ.length=X.N.length
section
variable {X:Cx}{pins:List (Addr × Obj)}{σ:List (Option V)}{H H':Hp}{s:Shared}{h':Heap}
theorem Cx.Ok.nofr (ok:X.Ok){b:Addr}{o:Obj}(e:X.base.get? b=some o):b∉X.fs:=λ hb=>by
 have:=(ok.funs.mem hb).1
 rw [e] at this;cases this
theorem Inv.bs (I:Inv X pins σ H s):∀b o,X.base.get? b=some o->s.heap.get? b=some o/\H b=none:=λ b o e=>
 ⟨I.base.keep b o (I.ok.bs b o e).1 (I.ok.bs b o e).2 (I.ok.nofr e) (I.ok.noex b o e),I.base.free b o (I.ok.bs b o e).1 (I.ok.bs b o e).2 (I.ok.noex b o e)⟩
theorem Inv.bk (I:Inv X pins σ H s):∀b o,X.base.get? b=some o->s.heap.get? b=some o:=λ b o e=>(I.bs b o e).1
theorem Inv.mod (I:Inv X pins σ H s):Mod X.K X.mg X.base:=I.ok.mod
theorem Inv.kIn (I:Inv X pins σ H s):X.K.In s.heap:=I.ok.mod.kin.keeps I.bk
theorem Inv.lt (I:Inv X pins σ H s):X.env.locals<s.heap.objs.size:=let ⟨_,hn,_⟩:=I.loc;hn.lt
theorem Inv.sz (I:Inv X pins σ H s):X.s0.heap.objs.size<=s.heap.objs.size:=Nat.le_trans I.ok.above (Nat.le_of_lt I.lt)
theorem Inv.nofs (I:Inv X pins σ H s){a:Addr}(h:s.heap.objs.size<=a):a∉X.fs:=λ hb=>by
 obtain ⟨_,o,ho,_⟩:=I.ok.funs.mem hb
 exact absurd (Nat.lt_of_lt_of_le (Heap.lt_size ho) (Nat.le_trans I.sz h)) (Nat.lt_irrefl _)
theorem Inv.cne (I:Inv X pins σ H s):∀x c,X.env.cells.lookup x=some c->c≠X.env.locals:=λ x c e z=>by
 obtain ⟨v,o,ho,hd⟩:=I.cell x c e
 obtain ⟨m,⟨o',es,ep,ho',hd',_⟩,_⟩:=I.loc
 rw [z,ho'] at ho;cases ho;rw [hd'] at hd;cases hd
theorem Inv.funs (I:Inv X pins σ H s):s.heap.FunFrames X.base X.outer:=by
 have all:∀(l:List Env),(∀b∈kM l,b∈X.fs)->X.s0.heap.FunFrames X.base l->s.heap.FunFrames X.base l:=by
  intro l
  induction l with
  | nil=>intro _ _;trivial
  | cons env r ih=>
   intro hs hl
   obtain ⟨hk,⟨L,o,hf,hn,ho,hd⟩,hr⟩:=hl
   have hL:L∈X.fs:=hs L (by unfold kM;rw [List.filterMap_cons,hf];exact List.mem_cons_self)
   obtain ⟨sl,e⟩:=I.base.slot L o ho (I.ok.frf L hL) hL λ z=>I.ok.exfs L z hL
   exact ⟨hk,⟨L,_,hf,hn,e,hd⟩,ih (λ b hb=>hs b (by unfold kM;rw [List.filterMap_cons,hf];exact List.mem_cons_of_mem _ hb)) hr⟩
 exact all X.outer (λ _ hb=>hb) I.ok.funs
theorem Inv.stack (I:Inv X pins σ H s):s.heap.FunFrames X.base X.stack:=by
 rcases I.ok.stk with e | ⟨e,hf⟩
 ·rw [e];exact I.funs
 ·rw [e]
  obtain ⟨m,hn,_⟩:=I.loc
  refine .cons (by rw [I.ok.kind];decide) hf hn ?_ I.funs
  exact Heap.get?_none_of_le (Nat.le_trans I.ok.bsz I.ok.above)
theorem Inv.stkSub (I:Inv X pins σ H s):∀b∈kM X.stack,b∈X.env.locals::X.fs:=λ b hb=>by
 rcases I.ok.stk with e | ⟨e,hf⟩
 ·rw [e] at hb;exact List.mem_cons_of_mem _ hb
 ·rw [e] at hb
  unfold kM at hb
  rw [List.filterMap_cons,hf] at hb
  exact hb
theorem Inv.stkFree (I:Inv X pins σ H s):∀b∈kM X.stack,H b=none:=λ b hb=>by
 rcases List.mem_cons.mp (I.stkSub b hb) with e | hb
 ·rw [e];exact I.free
 ·obtain ⟨_,o,ho,_⟩:=I.ok.funs.mem hb
  exact I.base.free b o ho (I.ok.frf b hb) λ z=>I.ok.exfs b z hb
theorem Inv.step {g':Array GenState}{t':Nat}{d':Drawn}{ch:List Addr}(I:Inv X pins σ H s)
  (hch:∀b∈ch,(b∈X.ex∨X.s0.heap.objs.size<=b)/\b≠X.env.locals/\(∀x c,X.env.cells.lookup x=some c->c≠b)/\∀p∈X.pn++pins,p.1≠b)
  (keep:∀b o,b≠X.env.locals->b∉X.fs->b∉ch->s.heap.get? b=some o->H b=none->h'.get? b=some o)
  (slot:∀b o,b≠X.env.locals->b∈X.fs->b∉ch->s.heap.get? b=some o->H b=none->∃sl,h'.get? b=some { o with slots:=sl })(free:∀b o,b∉ch->s.heap.get? b=some o->H b=none->H' b=none)
  (there:∀b o,b∉ch->s.heap.get? b=some o->∃o',h'.get? b=some o')
  (tups:∀b xs,H b=some (.tup xs)->H' b=some (.tup xs))(frzs:∀b o u,H b=some (.frz o u)->H' b=some (.frz o u))(tbls:∀b ps,H b=some (.tbl ps)->∃more,H' b=some (.tbl (ps++more)))
  (ns:∀m,s.heap.Ns X.env.locals m->h'.Ns X.env.locals m)(hok:jb X.prog X.w H' h')(hg:AllBare g'):
  Inv X pins σ H' { s with heap:=h',gens:=g',drawn:=d',toks:=t' }:=by
 have QH:∀b o,X.s0.heap.get? b=some o->b≠X.env.locals:=λ b o e=>Nat.ne_of_lt (Nat.lt_of_lt_of_le (Heap.lt_size e) I.ok.above)
 have neC:∀b o,X.s0.heap.get? b=some o->b∉X.ex->b∉ch:=λ b o e hx hb=>by
  rcases (hch b hb).1 with z | z
  ·exact hx z
  ·exact absurd (Nat.lt_of_lt_of_le (Heap.lt_size e) z) (Nat.lt_irrefl _)
 have cellK:∀x c,X.env.cells.lookup x=some c->∀v,s.heap.IsCell c v->h'.IsCell c v:=λ x c e v ⟨o,ho,hd⟩=>by
  have nch:c∉ch:=λ z=>(hch c z).2.2.1 x c e rfl
  by_cases hc:c∈X.fs
  ·obtain ⟨sl,q⟩:=slot c o (I.cne x c e) hc nch ho (I.freeC x c e)
   exact ⟨_,q,hd⟩
  ·exact ⟨o,keep c o (I.cne x c e) hc nch ho (I.freeC x c e),hd⟩
 refine ⟨I.ok,I.os,hg,⟨λ b o e n hb hx=>?_,λ b o e n hb hx=>?_,λ b o e n hx=>?_,λ b o e hx=>?_,λ b xs e=>tups b xs (I.base.tups b xs e),λ b o xs e=>frzs b o xs (I.base.frzs b o xs e),λ b ps e=>?_⟩,?_,λ x c e=>?_,?_,λ x c e=>?_,λ p hp=>?_,hok,I.len⟩
 ·exact keep b o (QH b o e) hb (neC b o e hx) (I.base.keep b o e n hb hx) (I.base.free b o e n hx)
 ·obtain ⟨sl,e1⟩:=I.base.slot b o e n hb hx
  obtain ⟨sl',e2⟩:=slot b _ (QH b o e) hb (neC b o e hx) e1 (I.base.free b o e n hx)
  exact ⟨sl',e2⟩
 ·obtain ⟨o',e1⟩:=I.base.there b o e hx
  exact free b o' (neC b o e hx) e1 (I.base.free b o e n hx)
 ·obtain ⟨o',e1⟩:=I.base.there b o e hx
  exact there b o' (neC b o e hx) e1
 ·obtain ⟨m1,e1⟩:=I.base.tbls b ps e
  obtain ⟨m2,e2⟩:=tbls b _ e1
  exact ⟨m1++m2,by rw [e2,Array.append_assoc]⟩
 ·obtain ⟨m,hn,hl⟩:=I.loc
  refine ⟨m,ns m hn,λ i x v e1 e2 e3=>?_⟩
  obtain ⟨u,r,l⟩:=hl i x v e1 e2 e3
  refine ⟨u,r,?_⟩
  rcases l with l | ⟨k,c,e,z⟩
  ·exact .inl l
  ·exact .inr ⟨k,c,e,cellK x c e _ z⟩
 ·obtain ⟨v,z⟩:=I.cell x c e
  exact ⟨v,cellK x c e v z⟩
 ·obtain ⟨m,⟨o,_,_,ho,_⟩,_⟩:=I.loc
  exact free _ o (λ z=>(hch _ z).2.1 rfl) ho I.free
 ·obtain ⟨v,o,ho,hd⟩:=I.cell x c e
  exact free c o (λ z=>(hch c z).2.2.1 x c e rfl) ho (I.freeC x c e)
 ·obtain ⟨e,n,ne,nf,d⟩:=I.pin p hp
  have nch:p.1∉ch:=λ z=>(hch p.1 z).2.2.2 p hp rfl
  exact ⟨keep p.1 p.2 ne nf nch e n,free p.1 p.2 nch e n,ne,nf,d⟩
theorem Inv.un {t':Nat}(I:Inv X pins σ H s)(u:Un X.fs [] H H' s.heap h')(hok:jb X.prog X.w H' h'):Inv X pins σ H' { s with heap:=h',toks:=t' }:=by
 obtain ⟨m,⟨o,es,ep,ho,r⟩,_⟩:=id I.loc
 obtain ⟨sl,hL⟩:=u.any ho I.free (by simp)
 exact I.step (g':=s.gens) (d':=s.drawn) (ch:=[]) (λ _ z=>nomatch z) (λ b o _ hb _ e n=>u.keep b o e n hb (by simp)) (λ b o _ hb _ e n=>u.slot b o e n hb (by simp)) (λ b o _ e n=>u.free b o e n (by simp)) (λ b o _ e=>u.there b o e (by simp)) u.tups u.frzs u.tbls (λ m' hm=>by
  obtain ⟨o',es',ep',ho',r'⟩:=hm
  rw [ho] at ho';cases ho'
  exact ⟨_,es',ep',hL,r'⟩) hok I.bare
theorem Inv.call {g':Array GenState}{t':Nat}{d':Drawn}{ch:List Addr}(I:Inv X pins σ H s)(u:Un (kM X.stack) ch H H' s.heap h')(hok:jb X.prog X.w H' h')(hg:AllBare g')
  (hch:∀b∈ch,(b∈X.ex∨X.s0.heap.objs.size<=b)/\b≠X.env.locals/\(∀x c,X.env.cells.lookup x=some c->c≠b)/\∀p∈X.pn++pins,p.1≠b):
  Inv X pins σ H' { s with heap:=h',gens:=g',drawn:=d',toks:=t' }:=by
 obtain ⟨m,⟨o,es,ep,ho,r⟩,_⟩:=id I.loc
 obtain ⟨sl,hL⟩:=u.any ho I.free λ z=>(hch _ z).2.1 rfl
 exact I.step (ch:=ch) hch (λ b o hL hb hc e n=>u.keep b o e n (λ z=>(List.mem_cons.mp (I.stkSub b z)).elim hL hb) hc) (λ b o _ _ hc e n=>u.any e n hc) (λ b o hc e n=>u.free b o e n hc) (λ b o hc e=>u.there b o e hc) u.tups u.frzs u.tbls (λ m' hm=>by
  obtain ⟨o',es',ep',ho',r'⟩:=hm
  rw [ho] at ho';cases ho'
  exact ⟨_,es',ep',hL,r'⟩) hok hg
theorem Inv.turned {t':Nat}{it:Addr}(I:Inv X pins σ H s)(k:∀b o,b≠it->s.heap.get? b=some o->h'.get? b=some o)(hn:H it=none)(hL:it≠X.env.locals)
  (h1:it∈X.ex∨X.s0.heap.objs.size<=it)(h2:∀x c,X.env.cells.lookup x=some c->c≠it)(h3:∀p∈X.pn++pins,p.1≠it):Inv X pins σ H { s with heap:=h',toks:=t' }:=by
 have nit:∀b u,H b=some u->b≠it:=λ b u e z=>by rw [z,hn] at e;cases e
 refine I.step (g':=s.gens) (d':=s.drawn) (ch:=[it]) (λ b hb=>?_) (λ b o _ _ hc e _=>k b o (λ z=>hc (by simp [z])) e) (λ b o _ _ hc e _=>⟨o.slots,k b o (λ z=>hc (by simp [z])) e⟩) (λ _ _ _ _ n=>n)
  (λ b o hc e=>⟨o,k b o (λ z=>hc (by simp [z])) e⟩) (λ _ _ e=>e) (λ _ _ _ e=>e) (λ b ps e=>⟨#[],by rw [e];simp⟩) (λ m hm=>?_) (λ b u e=>?_) I.bare
 ·have e:b=it:=by simpa using hb
  subst e
  exact ⟨h1,hL,h2,h3⟩
 ·obtain ⟨o,es,ep,ho,r⟩:=hm
  exact ⟨o,es,ep,k _ o (Ne.symm hL) ho,r⟩
 ·refine (I.hok b u e).stay (λ c v hc q=>k c v ?_ q) (λ _ q=>q) λ _ _ q=>q
  rcases hc with z | z
  ·rw [z];exact nit b u e
  ·exact nit c _ z
theorem Inv.tok (I:Inv X pins σ H s)(t:Nat):Inv X pins σ H { s with toks:=t }:=I.un (h':=s.heap) (t':=t) Un.refl I.hok
theorem Inv.kept {t':Nat}(I:Inv X pins σ H s)(k:∀b u,s.heap.get? b=some u->h'.get? b=some u):Inv X pins σ H { s with heap:=h',toks:=t' }:=I.un (Un.kept k) (I.hok.kept k)
theorem Inv.laid {a:Addr}{o:HO}{t':Nat}(I:Inv X pins σ H s)(k:∀b u,s.heap.get? b=some u->h'.get? b=some u)(hp:s.heap.objs.size<=a)(new:qP X.prog X.w (upd H a o) h' a o):
  Inv X pins σ (upd H a o) { s with heap:=h',toks:=t' }:=I.un (Un.laid k hp (I.hok.fresh hp)) (I.hok.laid k hp new)
theorem Inv.write {x e:Addr}{o:HO}{t':Nat}(I:Inv X pins σ H s)(mu:QG (H x))(he:e=x∨H e=some (.own x))(k:∀b u,b≠e->s.heap.get? b=some u->h'.get? b=some u)(heo:∃u,h'.get? e=some u)
  (new:qP X.prog X.w (upd H x o) h' x o):Inv X pins σ (upd H x o) { s with heap:=h',toks:=t' }:=I.un (Un.write mu he k heo) (I.hok.write mu he k heo new)
theorem Inv.pins_of {pins':List (Addr × Obj)}(I:Inv X pins σ H s)(h:∀p∈pins',s.heap.get? p.1=some p.2/\H p.1=none/\p.1≠X.env.locals/\p.1∉X.fs/\∀v,p.2.data≠.cell v):Inv X pins' σ H s:=
 ⟨I.ok,I.os,I.bare,I.base,I.loc,I.cell,I.free,I.freeC,λ p hp=>(List.mem_append.mp hp).elim (λ z=>I.pin p (List.mem_append_left _ z)) (h p),I.hok,I.len⟩
theorem Va {N:List Str}(hN:N.Nodup){i j:Nat}{x:Str}(a:N[i]? =some x)(b:N[j]? =some x):i=j:=by
 obtain ⟨h1,e1⟩:=List.getElem?_eq_some_iff.mp a
 obtain ⟨h2,e2⟩:=List.getElem?_eq_some_iff.mp b
 exact (List.getElem_inj hN).mp (e1.trans e2.symm)
theorem Xt {M:Model}{A:Around}{E:Value->Shared->Prop}{i:Nat}{x:Str}{v:V}{u:Value}{Q:Unit->Shared->Prop}(I:Inv X pins σ H s)(hN:X.N.Nodup)(hi:X.N[i]? =some x)(hx:Loc X.env.scope x)(r:RelV v u)
  (h:∀s',Inv X pins (σ.set i (some v)) H s'->(∃a,Heap.SameBut a s.heap s'.heap/\(a=X.env.locals∨X.env.cells.lookup x=some a))->Q () s')(hf:X.fn x=true∨X.env.scope.names.lookup x=some .local:=by first | exact .inl rfl | exact .inr rfl | assumption):wpAny M A (storeName X.env x u) Q E s:=by
 obtain ⟨m,hn,hl⟩:=id I.loc
 have hcls:(X.env.scope.kind==.class || (X.env.scope.kind==.module&&X.env.locals != X.env.globals))=false:=by rw [I.ok.kind];rfl
 have hiσ:i < σ.length:=by rw [I.len];exact (List.getElem?_eq_some_iff.mp hi).1
 have cne:=I.cne
 have tracked:∀{a:Addr} {h':Heap},(∃o,s.heap.get? a=some o/\H a=none)->Heap.SameBut a s.heap h'->jb X.prog X.w H h':=λ {a h'} ha hs b ob e=>by
  obtain ⟨_,_,hfree⟩:=ha
  refine (I.hok b ob e).stay (λ c w' hc q=>(hs.2 c ?_).trans q) (λ _ q=>q) λ _ _ q=>q
  rintro rfl
  rcases hc with rfl | hc
  ·rw [hfree] at e;cases e
  ·rw [hfree] at hc;cases hc
 rcases hx with hk | hk
 ·refine wpAny_storeName_local hk hn (λ h' hn' hs=>?_) hcls
  obtain ⟨oL,_,_,hoL,_⟩:=id hn
  refine h _ ⟨I.ok,I.os,I.bare,⟨λ b o e n hb hx=>?_,λ b o e n hb hx=>?_,I.base.free,λ b o e hx=>?_,I.base.tups,I.base.frzs,I.base.tbls⟩,⟨_,hn',λ j y v' e1 e2 e3=>?_⟩,λ y c e=>?_,I.free,I.freeC,λ p hp=>?_,tracked ⟨oL,hoL,I.free⟩ hs,by simpa using I.len⟩ ⟨_,hs,.inl rfl⟩
  ·exact (hs.2 b (Nat.ne_of_lt (Nat.lt_of_lt_of_le (Heap.lt_size e) I.ok.above))).trans (I.base.keep b o e n hb hx)
  ·obtain ⟨sl,e1⟩:=I.base.slot b o e n hb hx
   exact ⟨sl,(hs.2 b (Nat.ne_of_lt (Nat.lt_of_lt_of_le (Heap.lt_size e) I.ok.above))).trans e1⟩
  ·obtain ⟨o',e1⟩:=I.base.there b o e hx
   exact ⟨o',(hs.2 b (Nat.ne_of_lt (Nat.lt_of_lt_of_le (Heap.lt_size e) I.ok.above))).trans e1⟩
  ·by_cases hj:j=i
   ·subst hj
    rw [hi] at e1;cases e1
    rw [List.getElem?_set_self hiσ] at e2
    cases e2
    exact ⟨u,r,.inl ⟨hk,by simp⟩⟩
   ·rw [List.getElem?_set_ne (Ne.symm hj)] at e2
    obtain ⟨u',r',q⟩:=hl j y v' e1 e2 e3
    refine ⟨u',r',?_⟩
    rcases q with ⟨k,e⟩ | ⟨k,c,e,z⟩
    ·refine .inl ⟨k,?_⟩
     have:y≠x:=λ e=>hj (Va hN e1 (e ▸ hi))
     simp [this,e]
    ·exact .inr ⟨k,c,e,z.sameBut hs (cne y c e)⟩
  ·obtain ⟨w',z⟩:=I.cell y c e
   exact ⟨w',z.sameBut hs (cne y c e)⟩
  ·obtain ⟨e,n,ne,nf,d⟩:=I.pin p hp
   exact ⟨(hs.2 p.1 ne).trans e,n,ne,nf,d⟩
 ·have hfn:X.fn x=true:=by
   rcases hf with z | z
   ·exact z
   ·rw [z] at hk;cases hk
  obtain ⟨c,hc⟩:=I.ok.has x (.inl hk)
  obtain ⟨w',z⟩:=I.cell x c hc
  refine wpAny_storeName_cell I.ok.kind hk hc z (λ h' hc' hs=>?_)
  obtain ⟨oc,hoc,hocd⟩:=id z
  refine h { s with heap:=h' } ⟨I.ok,I.os,I.bare,⟨λ b o e n hb hx=>?_,λ b o e n hb hx=>?_,I.base.free,λ b o e hx=>?_,I.base.tups,I.base.frzs,I.base.tbls⟩,⟨m,hn.sameBut hs (Ne.symm (cne x c hc)),λ j y v' e1 e2 e3=>?_⟩,λ y c' e=>?_,I.free,I.freeC,λ p hp=>?_,tracked ⟨oc,hoc,I.freeC x c hc⟩ hs,by simpa using I.len⟩ ⟨c,hs,.inr hc⟩
  ·exact (hs.2 b (Nat.ne_of_lt (Nat.lt_of_lt_of_le (Heap.lt_size e) (I.ok.cab x c hfn hc)))).trans (I.base.keep b o e n hb hx)
  ·obtain ⟨sl,e1⟩:=I.base.slot b o e n hb hx
   exact ⟨sl,(hs.2 b (Nat.ne_of_lt (Nat.lt_of_lt_of_le (Heap.lt_size e) (I.ok.cab x c hfn hc)))).trans e1⟩
  ·obtain ⟨o',e1⟩:=I.base.there b o e hx
   exact ⟨o',(hs.2 b (Nat.ne_of_lt (Nat.lt_of_lt_of_le (Heap.lt_size e) (I.ok.cab x c hfn hc)))).trans e1⟩
  ·by_cases hj:j=i
   ·subst hj
    rw [hi] at e1;cases e1
    rw [List.getElem?_set_self hiσ] at e2
    cases e2
    exact ⟨u,r,.inr ⟨.inl hk,c,hc,hc'⟩⟩
   ·rw [List.getElem?_set_ne (Ne.symm hj)] at e2
    obtain ⟨u',r',q⟩:=hl j y v' e1 e2 e3
    refine ⟨u',r',?_⟩
    rcases q with q | ⟨k,c',e,z'⟩
    ·exact .inl q
    ·refine .inr ⟨k,c',e,z'.sameBut hs ?_⟩
     rintro rfl
     exact hj (Va hN e1 (I.ok.inj _ _ _ e hc ▸ hi))
  ·by_cases hcc:c'=c
   ·subst hcc;exact ⟨_,hc'⟩
   ·obtain ⟨w2,z2⟩:=I.cell y c' e
    exact ⟨w2,z2.sameBut hs hcc⟩
  ·obtain ⟨e,n,ne,nf,d⟩:=I.pin p hp
   refine ⟨(hs.2 p.1 ?_).trans e,n,ne,nf,d⟩
   intro q
   rw [q,hoc] at e
   have q':oc=p.2:=Option.some.inj e
   exact d w' (by rw [<- q'];exact hocd)
theorem Jc {M:Model}{A:Around}{E:Value->Shared->Prop}{i:Nat}{x:Str}{v:V}{u:Value}{Q:Unit->Shared->Prop}(I:Inv X pins σ H s)(hN:X.N.Nodup)(hi:X.N[i]? =some x)(hx:Loc X.env.scope x)(r:RelV v u)
  (h:∀s',Inv X pins (σ.set i (some v)) H s'->Q () s')(hf:X.fn x=true∨X.env.scope.names.lookup x=some .local:=by first | exact .inl rfl | exact .inr rfl | assumption):wpAny M A (storeName X.env x u) Q E s:=
 Xt I hN hi hx r (λ s' I' _=>h s' I') hf
theorem Inv.call' {s':Shared}{ch:List Addr}(I:Inv X pins σ H s)(ho:s'.os=s.os)(u:Un (kM X.stack) ch H H' s.heap s'.heap)(hok:jb X.prog X.w H' s'.heap)(hg:AllBare s'.gens)
  (hch:∀b∈ch,(b∈X.ex∨X.s0.heap.objs.size<=b)/\b≠X.env.locals/\(∀x c,X.env.cells.lookup x=some c->c≠b)/\∀p∈X.pn++pins,p.1≠b):Inv X pins σ H' s':=by
 obtain ⟨h',g',d',t',o'⟩:=s'
 have e:o'=s.os:=ho
 subst e
 exact I.call (g':=g') (t':=t') (d':=d') u hok hg hch
end
noncomputable abbrev XK:=Value->Option Addr->Hp->Prop
noncomputable abbrev St:=List (Option V)
noncomputable abbrev VK:=V->Hp->Prop
noncomputable abbrev TE:=St->Hp->VK->Prop
noncomputable abbrev TT:=St->Hp->(Bool->Hp->Prop)->Prop
noncomputable abbrev TA:=St->Hp->(List V->Hp->Prop)->Prop
structure Ends where
 nx:St->Hp->Prop
 rt:VK
 bk:St->Hp->Prop:=λ _ _=>False
 ct:St->Hp->Prop:=λ _ _=>False
noncomputable abbrev TS:=Ends->St->Hp->Prop
inductive EP (X:Cx)(pins:List (Addr × Obj))(σ:St)(Q:VK)(u:Value)(s':Shared):Prop
 | mk (v:V) (H':Hp) (I:Inv X pins σ H' s') (r:RelV v u) (q:Q v H')
noncomputable def TP (X:Cx)(pins:List (Addr × Obj))(σ:St)(Q:Bool->Hp->Prop)(b:Bool)(s':Shared):Prop:=∃H',Inv X pins σ H' s'/\Q b H'
inductive AP (X:Cx)(pins:List (Addr × Obj))(σ:St)(Q:List V->Hp->Prop)(us:List Value)(s':Shared):Prop
 | mk (vs:List V) (H':Hp) (I:Inv X pins σ H' s') (r:Vals vs us) (q:Q vs H')
noncomputable def SP (X:Cx)(pins:List (Addr × Obj))(D:Ends)(f:Flow)(s':Shared):Prop:=
 match f with
 | .next=>∃σ' H',Inv X pins σ' H' s'/\D.nx σ' H'
 | .brk=>∃σ' H',Inv X pins σ' H' s'/\D.bk σ' H'
 | .cont=>∃σ' H',Inv X pins σ' H' s'/\D.ct σ' H'
 | .ret u=>∃v σ' H',Inv X pins σ' H' s'/\RelV v u/\D.rt v H'
noncomputable def PE (X:Cx)(e:Expr)(t:TE):Prop:=
 ∀(pins:List (Addr × Obj)) (s:Shared) (σ:St) (H:Hp) (Q:VK),Inv X pins σ H s->t σ H Q->wpAny (model X.prog X.w) X.A (eval e X.env) (EP X pins σ Q) X.xe s
noncomputable def PT (X:Cx)(e:Expr)(t:TT):Prop:=
 ∀(pins:List (Addr × Obj)) (s:Shared) (σ:St) (H:Hp) (Q:Bool->Hp->Prop),Inv X pins σ H s->t σ H Q->wpAny (model X.prog X.w) X.A (isTrue e X.env (eval e X.env)) (TP X pins σ Q) X.xe s
noncomputable def PW (X:Cx)(e:Expr)(t:TT):Prop:=
 ∀(whole:Sem Value) (pins:List (Addr × Obj)) (s:Shared) (σ:St) (H:Hp) (Q:Bool->Hp->Prop),Inv X pins σ H s->t σ H Q->wpAny (model X.prog X.w) X.A (isTrue e X.env whole) (TP X pins σ Q) X.xe s
theorem PW.pt {X:Cx}{e:Expr}{t:TT}(h:PW X e t):PT X e t:=h _
noncomputable def PA (X:Cx)(es:List Expr)(t:TA):Prop:=
 ∀(pos:Pos) (pins:List (Addr × Obj)) (s:Shared) (σ:St) (H:Hp) (Q:List V->Hp->Prop),Inv X pins σ H s->t σ H Q->wpAny (model X.prog X.w) X.A (spliced (backTo pos (starEach es X.env))) (AP X pins σ Q) X.xe s
noncomputable def PS (X:Cx)(st:Stmt)(t:TS):Prop:=
 ∀(pins:List (Addr × Obj)) (s:Shared) (σ:St) (H:Hp) (D:Ends),Inv X pins σ H s->t D σ H->wpAny (model X.prog X.w) X.A (exec st X.env) (SP X pins D) X.xe s
noncomputable def yj (X:Cx)(st:List Stmt)(t:TS):Prop:=
 ∀(pins:List (Addr × Obj)) (s:Shared) (σ:St) (H:Hp) (D:Ends),Inv X pins σ H s->t D σ H->wpAny (model X.prog X.w) X.A (execs st X.env) (SP X pins D) X.xe s
theorem zO {α:Type}{t:Sem α}{Q Q':α->Shared->Prop}{M:Model}{A:Around}{E:Value->Shared->Prop}{s:Shared}(h:wpAny M A t Q E s)(hQ:∀a s,Q a s->Q' a s):wpAny M A t Q' E s:=wpAny_mono h hQ λ _ _ x=>x
section
variable {X:Cx}
noncomputable def Hh (i:Nat):TE:=λ σ H Q=>∃v,σ[i]? =some (some v)/\Q v H
noncomputable def tC (v:V):TE:=λ _ H Q=>Q v H
theorem Mf {i:Nat}{x:Str}{pos:Pos}(hN:X.N[i]? =some x)(hv:J3 X.env.scope x)(hd:(x==("__debug__" : Str))=false:=by decide)(hcd:(x==("__classdict__" : Str))=false:=by decide):PE X (.Name x pos) (Hh i):=by
 intro pins s σ H Q I h
 obtain ⟨v,e,h⟩:=h
 obtain ⟨m,hn,hl⟩:=I.loc
 obtain ⟨u,r,l⟩:=hl i x v hN e hv
 have fin:EP X pins σ Q u s:=⟨v,H,I,r,h⟩
 rcases l with ⟨hk,hm⟩ | ⟨hk,c,hc,hcell⟩
 ·exact wpAny_Name (wpAny_loadName_local I.ok.kind hk hn hm fin) hd
 ·rcases hk with hk | hk
  ·exact wpAny_Name (wpAny_loadName_cell I.ok.kind hk hc hcell fin) hd
  ·exact wpAny_Name (wpAny_loadName_free I.ok.kind hk hc hcell fin hcd) hd
theorem Lo {i j pos}:PE X (.Constant (.int i) j pos) (tC (.int i)):=λ _ _ _ H _ I h=>wpAny_Constant_int ⟨.int i,H,I.tok _,⟨_,rfl⟩,h⟩
theorem L0 {b j pos}:PE X (.Constant (.bool b) j pos) (tC (.bl b)):=λ _ _ _ H _ I h=>Constant_bool ⟨.bl b,H,I,rfl,h⟩
theorem Ml {j pos}:PE X (.Constant .none j pos) (tC .non):=λ _ _ _ H _ I h=>Constant_none ⟨.non,H,I,rfl,h⟩
theorem LF {x j pos}:PE X (.Constant (.str x) j pos) (tC (.str x)):=λ _ _ _ H _ I h=>Calls.Constant_str ⟨.str x,H,I.tok _,⟨_,rfl⟩,h⟩
noncomputable def Gl (X:Cx)(x:Str):Prop:=X.env.kindOf x=some .globalImplicit
theorem VH {E:Value->Shared->Prop}{pins:List (Addr × Obj)}{s:Shared}{σ:St}{H:Hp}{x:Str}{u:Value}{pos:Pos}{Q:Value->Shared->Prop}(I:Inv X pins σ H s)(hg:Gl X x)(hm:X.mg x=some u)(h:Q u s)
  (hd:(x==("__debug__" : Str))=false:=by decide):wpAny (model X.prog X.w) X.A (eval (.Name x pos) X.env) Q E s:=
 Calls.Name_function_global I.ok.kind hg (Calls.loadGlobal_global (by rw [I.ok.glob];exact I.mod.glob.keeps I.bk) hm h) hd
theorem gy {E:Value->Shared->Prop}{pins:List (Addr × Obj)}{s:Shared}{σ:St}{H:Hp}{x:Str}{u:Value}{pos:Pos}{Q:Value->Shared->Prop}(I:Inv X pins σ H s)(hg:Gl X x)(hm:X.mg x=none)(hv:bootBuiltins x=some u)(h:Q u s)
  (hn:x ≠ "__name__" := by decide)(hd:(x==("__debug__" : Str))=false:=by decide):wpAny (model X.prog X.w) X.A (eval (.Name x pos) X.env) Q E s:=by
 obtain ⟨mb,h1,h2⟩:=I.mod.blt
 exact Calls.Name_function_global I.ok.kind hg (Calls.loadGlobal_builtin (by rw [I.ok.glob];exact I.mod.glob.keeps I.bk) hm (by rw [I.ok.blt];exact h1.keeps I.bk) ((h2 x hn).trans hv) h) hd
theorem N2 {x:Str}{v:V}{u:Value}{pos:Pos}(hg:Gl X x)(hm:X.mg x=some u)(r:RelV v u)(hd:(x==("__debug__" : Str))=false:=by decide):PE X (.Name x pos) (tC v):=
 λ _ _ _ H _ I h=>VH I hg hm ⟨v,H,I,r,h⟩ hd
theorem KS {x:Str}{v:V}{u:Value}{pos:Pos}(hg:Gl X x)(hm:X.mg x=none)(hv:bootBuiltins x=some u)(r:RelV v u)(hn:x ≠ "__name__" := by decide)(hd:(x==("__debug__" : Str))=false:=by decide):PE X (.Name x pos) (tC v):=
 λ _ _ _ H _ I h=>gy I hg hm hv ⟨v,H,I,r,h⟩ hn hd
variable {a b:Expr}{ta tb:TE}{pos:Pos}
theorem Ol (b:Expr){op:CmpOp}(h:op≠.In)(h2:op≠.NotIn):behindInMarks op b=false:=by
 have e1:(op==CmpOp.In)=false:=by cases op<;>first | rfl | exact absurd rfl h
 have e2:(op==CmpOp.NotIn)=false:=by cases op<;>first | rfl | exact absurd rfl h2
 cases b<;>simp [behindInMarks,e1,e2]
noncomputable def tB (t:TE):TT:=λ σ H Q=>t σ H λ x H1=>∃c,x=.bl c/\Q c H1
theorem Lq {e:Expr}{t:TE}(h:PE X e t)(he:∀whole,isTrue e X.env whole=(do let v <- whole;standAt e.pos;holding [v] (truthy v)):=by intro _;rfl):PT X e (tB t):=by
 intro pins s σ H Q I hw
 refine isTrue_plain (zO (h pins s σ H _ I hw) λ v s1 ⟨x,H1,I1,r1,q1⟩=>?_) (he _)
 obtain ⟨d,rfl,q⟩:=q1
 cases r1
 exact wpAny_truthy_bool ⟨H1,I1,q⟩
variable {tA tB':TT}{rest:List Expr}
noncomputable def I9 (t u:TT):TT:=λ σ H Q=>t σ H λ c H1=>if c=true then u σ H1 Q else Q false H1
noncomputable def HA (t u:TT):TT:=λ σ H Q=>t σ H λ c H1=>if c=true then Q true H1 else u σ H1 Q
noncomputable def Hl (t:TT):TT:=λ σ H Q=>t σ H λ c H1=>Q (!c) H1
theorem pw_and1 (ha:PT X a tA):PW X (.BoolOp .And [a] pos) tA:=by
 intro wh pins s σ H Q I h
 refine isTrue_and (zO (ha pins s σ H Q I h) λ c s1 e=>?_)
 cases c with
 | true=>exact isTrue_and_nil e
 | false=>exact e
theorem pw_or1 (ha:PT X a tA):PW X (.BoolOp .Or [a] pos) tA:=by
 intro wh pins s σ H Q I h
 refine isTrue_or (zO (ha pins s σ H Q I h) λ c s1 e=>?_)
 cases c with
 | false=>exact isTrue_or_nil e
 | true=>exact e
theorem pw_and (ha:PT X a tA)(hb:PW X (.BoolOp .And (b::rest) pos) tB'):PW X (.BoolOp .And (a::b::rest) pos) (I9 tA tB'):=by
 intro wh pins s σ H Q I h
 refine isTrue_and (zO (ha pins s σ H _ I h) λ c s1 ⟨H1,I1,q1⟩=>?_)
 cases c with
 | true=>exact hb wh pins s1 σ H1 Q I1 q1
 | false=>exact ⟨H1,I1,q1⟩
theorem pw_or (ha:PT X a tA)(hb:PW X (.BoolOp .Or (b::rest) pos) tB'):PW X (.BoolOp .Or (a::b::rest) pos) (HA tA tB'):=by
 intro wh pins s σ H Q I h
 refine isTrue_or (zO (ha pins s σ H _ I h) λ c s1 ⟨H1,I1,q1⟩=>?_)
 cases c with
 | true=>exact ⟨H1,I1,q1⟩
 | false=>exact hb wh pins s1 σ H1 Q I1 q1
theorem Md (ha:PT X a tA):PT X (.UnaryOp .Not a pos) (Hl tA):=by
 intro pins s σ H Q I h
 exact isTrue_not (ha pins s σ H (λ c H1=>Q (!c) H1) I h)
noncomputable def II (ta tb:TE):TE:=λ σ H Q=>ta σ H λ x H1=>∃c,x=.bl c/\if c=true then tb σ H1 Q else Q (.bl false) H1
noncomputable def IM (ta:TE):TE:=λ σ H Q=>ta σ H λ x H1=>∃c,x=.bl c/\Q (.bl (!c)) H1
theorem Lz {op}{t:TE}(h:PE X a t):PE X (.BoolOp op [a] pos) t:=λ pins s σ H Q I hw=>BoolOp_one (h pins s σ H Q I hw)
theorem M8 (ha:PE X a ta)(hb:PE X (.BoolOp .And (b::rest) pos) tb):PE X (.BoolOp .And (a::b::rest) pos) (II ta tb):=by
 intro pins s σ H Q I h
 refine BoolOp_and (zO (ha pins s σ H _ I h) λ v s1 ⟨x,H1,I1,r1,q1⟩=>?_)
 obtain ⟨c,rfl,q1⟩:=q1
 cases r1
 refine wpAny_truthy_bool ?_
 cases c with
 | true=>exact hb pins s1 σ H1 Q I1 q1
 | false=>exact ⟨.bl false,H1,I1,rfl,q1⟩
theorem LB (ha:PE X a ta):PE X (.UnaryOp .Not a pos) (IM ta):=by
 intro pins s σ H Q I h
 refine UnaryOp_ (zO (ha pins s σ H _ I h) λ v s1 ⟨x,H1,I1,r1,q1⟩=>?_)
 obtain ⟨c,rfl,q1⟩:=q1
 cases r1
 exact not_of (wpAny_truthy_bool ⟨.bl (!c),H1,I1,rfl,q1⟩)
noncomputable def HF (t:TT)(ta tb:TE):TE:=λ σ H Q=>t σ H λ c H1=>if c=true then ta σ H1 Q else tb σ H1 Q
theorem OG {c:Expr}(hc:PT X c tA)(ha:PE X a ta)(hb:PE X b tb):PE X (.IfExp c a b pos) (HF tA ta tb):=by
 intro pins s σ H Q I h
 refine wpAny_IfExp (zO (hc pins s σ H _ I h) λ d s1 ⟨H1,I1,q1⟩=>?_)
 cases d with
 | true=>exact ha pins s1 σ H1 Q I1 q1
 | false=>exact hb pins s1 σ H1 Q I1 q1
end
noncomputable def qx (K:Frag)(H:Hp)(a:Addr)(xs:List V):Prop:=
 Rd H a (.lst xs)∨
  ∃(o:Obj) (its:Array Value) (n:Nat),K.lookup a=some o/\o.cls=.type "list" /\ o.dict=none/\o.data=.seq its n/\its.size<=sizeLine/\Vals xs its.toList
noncomputable def qd (K:Frag)(H:Hp)(a:Addr)(xs:List V):Prop:=
 Rd H a (.tup xs)∨
  ∃(o:Obj) (its:Array Value) (n:Nat),K.lookup a=some o/\(o.cls=.type "tuple" /\ o.dict=none)/\o.data=.seq its n/\its.size<=sizeLine/\Vals xs its.toList
noncomputable def Hu:Value->Option V
 | .none=>some .non
 | .bool b=>some (.bl b)
 | .int i _=>some (.int i)
 | .str x _=>some (.str x)
 | .bytes b _=>some (.byt b)
 | .float b _=>some (.flt b)
 | .ref a=>some (.ref a)
 | .type n=>some (.ty n)
 | _=>none
theorem RelV.abs {x:V}{u:Value}(r:RelV x u):Hu u=some x:=by
 cases x with
 | non=>cases r;rfl
 | bl _=>cases r;rfl
 | int _=>obtain ⟨t,rfl⟩:=r;rfl
 | str _=>obtain ⟨t,rfl⟩:=r;rfl
 | byt _=>obtain ⟨t,rfl⟩:=r;rfl
 | flt _=>obtain ⟨t,rfl⟩:=r;rfl
 | ref _=>cases r;rfl
 | ty _=>cases r;rfl
theorem RelV.inj {x y:V}{u:Value}(r:RelV x u)(q:RelV y u):x=y:=Option.some.inj (r.abs.symm.trans q.abs)
theorem Vals.inj:∀{xs ys:List V} {us:List Value},Vals xs us->Vals ys us->xs=ys
 | _,_,_,.nil,.nil=>rfl
 | _,_,_,.cons r t,.cons r' t'=>by rw [r.inj r',Vals.inj t t']
section
variable {X:Cx}{pins:List (Addr × Obj)}{σ:St}{H:Hp}{s:Shared}{a:Addr}{xs ys:List V}
theorem qx.of {K:Frag}(h:H a=some (.lst xs)):qx K H a xs:=.inl (.inl h)
theorem qd.of {K:Frag}(h:H a=some (.tup xs)):qd K H a xs:=.inl (.inl h)
theorem Inv.list (I:Inv X pins σ H s)(h:qx X.K H a xs):∃its:List Value,Vals xs its/\PlainL s.heap a its.toArray/\xs.length<=sizeLine:=by
 rcases h with h | ⟨o,its,n,hk,hc,hd,hs,hz,r⟩
 ·obtain ⟨z,its,n,r,e⟩:=h.ok I.hok
  exact ⟨its,r,⟨_,n,e,rfl,rfl,rfl⟩,z⟩
 ·refine ⟨its.toList,r,⟨o,n,I.kIn a o hk,hc,hd,by simpa using hs⟩,?_⟩
  have e:=r.length
  simp only [Array.length_toList] at e
  omega
theorem Inv.tuple (I:Inv X pins σ H s)(h:qd X.K H a xs):∃its:List Value,Vals xs its/\IsTup s.heap a its.toArray/\xs.length<=sizeLine:=by
 rcases h with h | ⟨o,its,n,hk,hc,hs,hz,r⟩
 ·obtain ⟨z,its,r,p⟩:=h.ok I.hok
  exact ⟨its,r,p.tup,z⟩
 ·refine ⟨its.toList,r,⟨o,I.kIn a o hk,hc.1,n,by simpa using hs⟩,?_⟩
  have e:=r.length
  simp only [Array.length_toList] at e
  omega
theorem Inv.list_inj (I:Inv X pins σ H s)(h:qx X.K H a xs)(h':qx X.K H a ys):xs=ys:=by
 obtain ⟨its,r,⟨o,n,e,_,_,d⟩,_⟩:=I.list h
 obtain ⟨its',r',⟨o',n',e',_,_,d'⟩,_⟩:=I.list h'
 rw [e] at e';cases e'
 rw [d] at d'
 injection d' with d1 _
 have:its=its':=by simpa using congrArg Array.toList d1
 subst this
 exact r.inj r'
theorem Inv.tuple_inj (I:Inv X pins σ H s)(h:qd X.K H a xs)(h':qd X.K H a ys):xs=ys:=by
 obtain ⟨its,r,⟨o,e,_,n,d⟩,_⟩:=I.tuple h
 obtain ⟨its',r',⟨o',e',_,n',d'⟩,_⟩:=I.tuple h'
 rw [e] at e';cases e'
 rw [d] at d'
 injection d' with d1 _
 have:its=its':=by simpa using congrArg Array.toList d1
 subst this
 exact r.inj r'
end
noncomputable abbrev Cx.wish (X:Cx)(E:Value->Shared->Prop):Cx:={ X with xe:=E }
noncomputable abbrev Cx.nox (X:Cx):Cx:=X.wish λ _ _=>False
theorem Cx.Ok.wish {X:Cx}(ok:X.Ok)(E:Value->Shared->Prop):(X.wish E).Ok:=
 ⟨ok.mod,ok.kind,ok.glob,ok.blt,ok.above,ok.inj,ok.has,ok.cab,ok.hd,ok.frames,ok.stk,ok.exf,ok.bs,ok.bsz,ok.noex,ok.exfs,ok.funs,ok.frf⟩
theorem Cx.Ok.unwish {X:Cx}{E:Value->Shared->Prop}(ok:(X.wish E).Ok):X.Ok:=
 ⟨ok.mod,ok.kind,ok.glob,ok.blt,ok.above,ok.inj,ok.has,ok.cab,ok.hd,ok.frames,ok.stk,ok.exf,ok.bs,ok.bsz,ok.noex,ok.exfs,ok.funs,ok.frf⟩
section
variable {X:Cx}{pins:List (Addr × Obj)}{σ:St}{H:Hp}{s:Shared}{E:Value->Shared->Prop}
theorem Inv.wish (I:Inv X pins σ H s)(E:Value->Shared->Prop):Inv (X.wish E) pins σ H s:=⟨I.ok.wish E,I.os,I.bare,I.base,I.loc,I.cell,I.free,I.freeC,I.pin,I.hok,I.len⟩
theorem Inv.unwish (I:Inv (X.wish E) pins σ H s):Inv X pins σ H s:=⟨I.ok.unwish,I.os,I.bare,I.base,I.loc,I.cell,I.free,I.freeC,I.pin,I.hok,I.len⟩
theorem SP.unwish {D:Ends}{f:Flow}{s':Shared}(h:SP (X.wish E) pins D f s'):SP X pins D f s':=by
 cases f with
 | next=>obtain ⟨σ',H',I,q⟩:=h;exact ⟨σ',H',I.unwish,q⟩
 | brk=>obtain ⟨σ',H',I,q⟩:=h;exact ⟨σ',H',I.unwish,q⟩
 | cont=>obtain ⟨σ',H',I,q⟩:=h;exact ⟨σ',H',I.unwish,q⟩
 | ret u=>obtain ⟨v,σ',H',I,r,q⟩:=h;exact ⟨v,σ',H',I.unwish,r,q⟩
theorem yj.nox {st:List Stmt}{t:TS}(h:yj X.nox st t):yj X st t:=λ pins s σ H D I hw=>
 wpAny_mono (h pins s σ H D (I.wish _) hw) (λ _ _ q=>q.unwish) λ _ _ z=>False.elim z
end
section
variable {X:Cx}{st:Stmt}{rest:List Stmt}{t u:TS}{e:Expr}{te:TE}{pos:Pos}
noncomputable def Ig:TS:=λ D σ H=>D.nx σ H
noncomputable def Ho (t u:TS):TS:=λ D σ H=>t { D with nx:=u D } σ H
theorem Nc:yj X [] Ig:=λ _ _ σ H _ I h=>wpAny_execs_nil ⟨σ,H,I,h⟩
theorem P0 (h1:PS X st t)(h2:yj X rest u):yj X (st::rest) (Ho t u):=by
 intro pins s σ H D I h
 refine wpAny_execs_cons (zO (h1 pins s σ H { D with nx:=u D } I h) λ f s1 q=>?_)
 cases f with
 | next=>
  obtain ⟨σ',H',I',q⟩:=q
  exact h2 pins s1 σ' H' D I' q
 | ret v=>exact q
 | brk=>exact q
 | cont=>exact q
theorem Inv.quiet {pins:List (Addr × Obj)}{σ:St}{H:Hp}{s:Shared}(I:Inv X pins σ H s):interactive X.env=false:=by simp [interactive,I.ok.kind]
noncomputable def Ij (te:TE):TS:=λ D σ H=>te σ H λ _ H1=>D.nx σ H1
theorem Ny (he:PE X e te)(hs:swapsWith e none pos.line X.env=pure false:=by rfl):PS X (.Expr e pos) (Ij te):=by
 intro pins s σ H D I h
 exact wpAny_Expr_any (zO (he pins s σ H _ I h) λ v s1 ⟨x,H1,I1,r1,q1⟩=>⟨σ,H1,I1,q1⟩) I.quiet hs
noncomputable def Hj (te:TE):TS:=λ D σ H=>te σ H D.rt
theorem LU (he:PE X e te):PS X (.Return (some e) pos) (Hj te):=by
 intro pins s σ H D I h
 exact wpAny_Return_some (zO (he pins s σ H _ I h) λ v s1 ⟨x,H1,I1,r1,q1⟩=>⟨x,σ,H1,I1,r1,q1⟩)
noncomputable def Hk (c:TT)(t u:TS):TS:=λ D σ H=>c σ H λ b H1=>if b=true then t D σ H1 else u D σ H1
theorem Io {c:Expr}{a b:List Stmt}{tc:TT}(hc:PT X c tc)(ha:yj X a t)(hb:yj X b u):PS X (.If c a b pos) (Hk tc t u):=by
 intro pins s σ H D I h
 refine wpAny_If (zO (hc pins s σ H _ I h) λ d s1 ⟨H1,I1,q1⟩=>?_)
 cases d with
 | true=>exact ha pins s1 σ H1 D I1 q1
 | false=>exact hb pins s1 σ H1 D I1 q1
end
noncomputable abbrev TG:=V->St->Hp->(St->Hp->Prop)->Prop
noncomputable abbrev Zr:=List V->St->Hp->(St->Hp->Prop)->Prop
noncomputable def PG (X:Cx)(target:Expr)(t:TG):Prop:=
 ∀(pins:List (Addr × Obj)) (s:Shared) (σ:St) (H:Hp) (v:V) (u:Value) (Q:St->Hp->Prop),Inv X pins σ H s->RelV v u->t v σ H Q->
  wpAny (model X.prog X.w) X.A (assign target X.env u) (λ _ s'=>∃σ' H',Inv X pins σ' H' s'/\Q σ' H') X.xe s
noncomputable def J7 (X:Cx)(ts:List Expr)(t:Zr):Prop:=
 ∀(pins:List (Addr × Obj)) (s:Shared) (σ:St) (H:Hp) (vs:List V) (us:List Value) (Q:St->Hp->Prop),Inv X pins σ H s->Vals vs us->t vs σ H Q->
  wpAny (model X.prog X.w) X.A (assignInOrder ((assignEach ts X.env).map (·.2)) us) (λ _ s'=>∃σ' H',Inv X pins σ' H' s'/\Q σ' H') X.xe s
noncomputable abbrev ZY:=V->V->V->Hp->(Hp->Prop)->Prop
noncomputable def JJ (X:Cx)(t:ZY):Prop:=
 ∀(pins:List (Addr × Obj)) (s:Shared) (σ:St) (H:Hp) (o i v:V) (ov iv u:Value) (Q:Hp->Prop),Inv X pins σ H s->RelV o ov->RelV i iv->RelV v u->t o i v H Q->
  wpAny (model X.prog X.w) X.A (setItem ov iv u) (λ _ s'=>∃H',Inv X pins σ H' s'/\Q H') X.xe s
section
variable {X:Cx}{pos:Pos}
noncomputable def JC (i:Nat):TG:=λ v σ H Q=>Q (σ.set i (some v)) H
theorem K6 {i:Nat}{x:Str}(hN:X.N.Nodup)(hi:X.N[i]? =some x)(hx:Loc X.env.scope x)(hf:X.fn x=true∨X.env.scope.names.lookup x=some .local:=by first | exact .inl rfl | exact .inr rfl | assumption):PG X (.Name x pos) (JC i):=by
 intro pins s σ H v u Q I r h
 exact wpAny_assign_Name (Jc I hN hi hx r (λ s' I'=>⟨_,H,I',h⟩) hf)
noncomputable def Hv:Zr:=λ vs σ H Q=>vs=[]/\Q σ H
noncomputable def Ip (t:TG)(u:Zr):Zr:=λ vs σ H Q=>∃v r,vs=v::r/\t v σ H λ σ' H'=>u r σ' H' Q
theorem Nf:J7 X [] Hv:=by
 intro pins s σ H vs us Q I r h
 obtain ⟨e,h⟩:=h
 subst e
 cases r
 exact assignInOrder_nil ⟨σ,H,I,h⟩
theorem XT {e:Expr}{es:List Expr}{t:TG}{u:Zr}(h1:PG X e t)(h2:J7 X es u)
  (hs:(assignEach (e::es) X.env).map (·.2)=assign e X.env::(assignEach es X.env).map (·.2):=by rfl):J7 X (e::es) (Ip t u):=by
 intro pins s σ H vs us Q I r h
 obtain ⟨v,vr,e1,h⟩:=h
 subst e1
 cases r with
 | cons r rr=>
  rw [hs]
  refine assignInOrder_cons (zO (h1 pins s σ H _ _ _ I r h) λ _ s1 ⟨σ1,H1,I1,q1⟩=>?_)
  exact h2 pins s1 σ1 H1 _ _ Q I1 rr q1
noncomputable def jF (K:Frag)(n:Nat)(t:Zr):TG:=λ v σ H Q=>∃a xs,v=.ref a/\qd K H a xs/\xs.length=n/\t xs σ H Q
theorem Lc {es:List Expr}{k:Nat}{t:Zr}{n:Nat}(hc:X.calm=true)(h:J7 X es t)
  (hn:(assignEach es X.env).length=n:=by rfl)(hst:(assignEach es X.env).findIdx? (·.1)=none:=by rfl):PG X (.Tuple es k pos) (jF X.K n t):=by
 intro pins s σ H v u Q I r hw
 obtain ⟨a,xs,e1,hq,hl,hw⟩:=hw
 subst e1
 cases r
 obtain ⟨its,rv,ht,hz⟩:=I.tuple hq
 refine assign_Tuple_tuple (I.ok.hd hc) ht (by simp [hn,<- hl,rv.length]) hst λ h' hx=>?_
 have I1:Inv X pins σ H { s with heap:=h' }:=I.kept (t':=s.toks) λ b o e=>hx b o (Nat.ne_of_lt (Heap.lt_size e)) e
 exact h pins _ σ H xs _ Q I1 (by simpa using rv) hw
noncomputable def jS (to ti:TE)(t:ZY):TG:=λ v σ H Q=>to σ H λ o H1=>ti σ H1 λ i H2=>t o i v H2 λ H3=>Q σ H3
theorem Ly {o i:Expr}{to ti:TE}{t:ZY}(ho:PE X o to)(hi:PE X i ti)(hs:JJ X t)
  (ha:∀v,assign (.Subscript o i pos) X.env v=(do
   let ov <- holding [v] (eval o X.env)
   let iv <- holding [v,ov] (eval i X.env)
   standAt pos
   holding [v,ov,iv] (setItem ov iv v)
   release [v,ov,iv] []):=by intro _;rfl):PG X (.Subscript o i pos) (jS to ti t):=by
 intro pins s σ H v u Q I r h
 rw [ha]
 refine wpAny_bind (wpAny_holding (zO (ho pins s σ H _ I h) λ ov s1 ⟨x,H1,I1,r1,q1⟩=>?_))
 refine wpAny_bind (wpAny_holding (zO (hi pins s1 σ H1 _ I1 q1) λ iv s2 ⟨y,H2,I2,r2,q2⟩=>?_))
 refine wpAny_bind (wpAny_standAt (wpAny_bind (wpAny_holding (zO (hs pins s2 σ H2 x y v ov iv u _ I2 r1 r2 r q2) λ _ s3 ⟨H3,I3,q3⟩=>?_))))
 exact wpAny_release ⟨σ,H3,I3,q3⟩
noncomputable def JV (te:TE)(g:TG):TS:=λ D σ H=>te σ H λ x H1=>g x σ H1 D.nx
theorem V8 {tg e:Expr}{te:TE}{g:TG}(he:PE X e te)(hg:PG X tg g)(hs:swapsWithSole [tg] e pos.line X.env=pure false:=by rfl)(hw:swappedStores [tg] e X.env=pure none:=by rfl)
  (h1:(assignEach [tg] X.env).map (·.2)=[assign tg X.env]:=by rfl):PS X (.Assign [tg] e pos) (JV te g):=by
 intro pins s σ H D I h
 refine wpAny_Assign_stores (zO (he pins s σ H _ I h) λ v s1 ⟨x,H1,I1,r1,q1⟩=>?_) hs hw
 rw [h1]
 exact zO (hg pins s1 σ H1 x v _ I1 r1 q1) λ _ s2 q=>q
theorem MD {i:Nat}{x:Str}{e:Expr}{te:TE}{pos':Pos}(hN:X.N.Nodup)(hi:X.N[i]? =some x)(hx:Loc X.env.scope x)(he:PE X e te)(hs:swapsWith e (some (.Name x pos')) pos.line X.env=pure false:=by rfl)(hf:X.fn x=true∨X.env.scope.names.lookup x=some .local:=by first | exact .inl rfl | exact .inr rfl | assumption):
  PS X (.Assign [.Name x pos'] e pos) (JV te (JC i)):=by
 intro pins s σ H D I h
 refine wpAny_Assign_Name (zO (he pins s σ H _ I h) λ v s1 ⟨y,H1,I1,r1,q1⟩=>?_) hs
 exact Jc I1 hN hi hx r1 (λ s2 I2=>⟨_,H1,I2,q1⟩) hf
noncomputable def Hg (i j:Nat)(ta:TA):TS:=λ D σ H=>ta σ H λ vs H1=>∃v w,vs=[v,w]/\D.nx ((σ.set i (some v)).set j (some w)) H1
theorem Mb {i j:Nat}{x y:Str}{a b:Expr}{ta:TA}{px py pt:Pos}{kt k2 pt2}(hc:X.calm=true)(hN:X.N.Nodup)(hi:X.N[i]? =some x)(hj:X.N[j]? =some y)(hij:i≠j)
  (hx:X.env.scope.names.lookup x=some .local)(hy:X.env.scope.names.lookup y=some .local)(ha:PA X [a,b] ta)
  (hw:swappedStores [.Tuple [.Name x px,.Name y py] kt pt] (.Tuple [a,b] k2 pt2) X.env=pure (some [x,y]))
  (hs:swapsWithSole [.Tuple [.Name x px,.Name y py] kt pt] (.Tuple [a,b] k2 pt2) pos.line X.env=pure false:=by rfl):
  PS X (.Assign [.Tuple [.Name x px,.Name y py] kt pt] (.Tuple [a,b] k2 pt2) pos) (Hg i j ta):=by
 intro pins s σ H D I h
 rw [exec_Assign_arm]
 refine wpAny_bind (wpAny_standAt ?_)
 rw [hs]
 refine wpAny_bind (wpAny_pure ?_)
 rw [if_neg (by decide)]
 refine wpAny_bind (Tuple_ (zO (ha _ pins s σ H _ I h) λ us s1 ⟨vs,H1,I1,r1,q1⟩=>?_))
 obtain ⟨v,w,e1,q1⟩:=q1
 subst e1
 obtain ⟨u1,u2,rfl,rv,rw'⟩:∃u1 u2,us=[u1,u2]/\RelV v u1/\RelV w u2:=by
  cases r1 with
  | cons p q=>
   cases q with
   | cons p' q'=>
    cases q'
    exact ⟨_,_,rfl,p,p'⟩
 refine wpAny_newObj_type ?_ (by show 2<=sizeLine;decide)
 have I2:Inv X pins σ H1 { s1 with heap:=s1.heap.push { cls:=.type "tuple",data:=.seq [u1,u2].toArray } }:=I1.kept (t':=s1.toks) λ b o e=>Heap.get?_push_of_some _ e
 rw [hw]
 refine wpAny_bind (wpAny_pure ?_)
 show wpAny (model X.prog X.w) X.A (do rule "assign.swapped-stores";let items <- unpackItems (.ref s1.heap.objs.size) 2 none;assignInOrder [λ v=>bindName X.env y v,λ v=>bindName X.env x v] items.reverse;pure Flow.next) _ _ _
 refine wpAny_bind (wpAny_rule (wpAny_bind (unpackItems_tuple (items:=#[u1,u2]) (I.ok.hd hc) (IsTup.new s1.heap _) λ h' hx'=>?_)))
 have I3:=I2.kept (h':=h') (t':=s1.toks) λ b o e=>hx' b o (Nat.ne_of_lt (Heap.lt_size e)) e
 show wpAny _ _ (assignInOrder [λ v=>bindName X.env y v,λ v=>bindName X.env x v] [u2,u1] >>= λ _=>pure Flow.next) _ _ _
 refine wpAny_bind (assignInOrder_cons (wpAny_bindName (Jc I3 hN hj (.inl hy) rw' (λ s2 I4=>?_) (.inr hy))))
 refine assignInOrder_cons (wpAny_bindName (Jc I4 hN hi (.inl hx) rv (λ s3 I5=>assignInOrder_nil (wpAny_pure ?_)) (.inr hx)))
 rw [List.set_comm _ _ (Ne.symm hij)] at I5
 exact ⟨_,H1,I5,q1⟩
end
section
variable {X:Cx}{pos:Pos}
noncomputable def LQ (c:TT)(tb:TS):TS:=λ D σ H=>∃W:Nat->St->Hp->Prop,(∃m,W m σ H)/\∀m σ H,W m σ H->
 c σ H λ b H1=>if b=true then ∃N:St->Hp->Prop,(∀σ' H',N σ' H'->∃m',m'<m/\W m' σ' H')/\tb { D with nx:=N,ct:=N,bk:=D.nx } σ H1 else D.nx σ H1
theorem PJ {c:Expr}{body:List Stmt}{tc:TT}{tb:TS}(hp:PassesOwn (model X.prog X.w) X.A X.env X.xe)(hc:PT X c tc)(hb:yj X body tb):PS X (.While c body [] pos) (LQ tc tb):=by
 intro pins s σ H D I h
 obtain ⟨W,⟨m0,w0⟩,turn⟩:=h
 refine wpAny_While (codeAny_whileLoop (λ n s'=>∃σ' H',Inv X pins σ' H' s'/\W n σ' H') ?_ m0 ⟨σ,H,I,w0⟩)
 rintro n s1 ⟨σ1,H1,I1,w1⟩
 refine wpAny_passesOwn hp (zO (hc pins s1 σ1 H1 _ I1 (turn n σ1 H1 w1)) λ b s2 ⟨H2,I2,q2⟩=>?_)
 cases b with
 | true=>
  obtain ⟨N,hN,q2⟩:=q2
  rw [if_pos rfl]
  refine wpAny_passesOwn hp (zO (hb pins s2 σ1 H2 _ I2 q2) λ f s3 q3=>?_)
  cases f with
  | next=>
   obtain ⟨σ3,H3,I3,n3⟩:=q3
   obtain ⟨m',hm,w3⟩:=hN σ3 H3 n3
   exact ⟨m',hm,σ3,H3,I3,w3⟩
  | cont=>
   obtain ⟨σ3,H3,I3,n3⟩:=q3
   obtain ⟨m',hm,w3⟩:=hN σ3 H3 n3
   exact ⟨m',hm,σ3,H3,I3,w3⟩
  | brk=>exact q3
  | ret v=>exact q3
 | false=>
  rw [if_neg Bool.false_ne_true]
  exact wpAny_execs_nil ⟨σ1,H2,I2,q2⟩
end
structure It where
 go:Nat->Hp->Prop
 yld:Nat->Hp->V->Hp->Prop
 stop:Nat->Hp->Prop
noncomputable def yG (X:Cx)(pins:List (Addr × Obj))(H:Hp)(b:Addr):Prop:=
 H b=none/\b≠X.env.locals/\b∉X.fs/\(b∈X.ex∨X.s0.heap.objs.size<=b)/\(∀x c,X.env.cells.lookup x=some c->c≠b)/\∀p∈X.pn++pins,p.1≠b
theorem Inv.fpOk {X:Cx}{pins:List (Addr × Obj)}{σ:St}{H H':Hp}{s:Shared}{b:Addr}(I:Inv X pins σ H s)(hb:s.heap.objs.size<=b)(hn:H' b=none):yG X pins H' b:=by
 refine ⟨hn,Nat.ne_of_gt (Nat.lt_of_lt_of_le I.lt hb),I.nofs hb,.inr (Nat.le_trans I.sz hb),λ x c e z=>?_,λ p hp z=>?_⟩
 ·obtain ⟨v,q⟩:=I.cell x c e
  exact absurd (Nat.lt_of_lt_of_le q.lt (by rw [z];exact hb)) (Nat.lt_irrefl _)
 ·exact absurd (Nat.lt_of_lt_of_le (Heap.lt_size (I.pin p hp).1) (by rw [z];exact hb)) (Nat.lt_irrefl _)
structure Turn (P:Program)(w:World)(K:Frag)(tg:Expr)(J:It)(fp:List Addr)(it:Addr)(tn:Nat->Heap->Prop):Prop where
 mem:it∈fp
 obj:∀i h,tn i h->∀b∈fp,∃o,h.get? b=some o/\∀v,o.data≠.cell v
 keep:∀i h h',tn i h->(∀b∈fp,∀o,h.get? b=some o->h'.get? b=some o)->tn i h'
 item:∀(X:Cx),X.prog=P->X.w=w->X.K=K->X.calm=true->∀(i:Nat) (pins:List (Addr × Obj)) (s:Shared) (σ:St) (H:Hp) (E:Value->Shared->Prop),Inv X pins σ H s->(∀b∈fp,yG X pins H b)->tn i s.heap->J.go i H->
  wpAny (model P w) X.A (pyNext (.ref it)) (λ r s1=>∃u,r=some u/\
   wpAny (model P w) X.A (letOwnedTupleGo tg (.ref it) u) (λ _ s2=>∃x H',Inv X pins σ H' s2/\RelV x u/\J.yld i H x H'/\tn (i+1) s2.heap/\∀b∈fp,H' b=none) E s1) E s
 done:∀(X:Cx),X.prog=P->X.w=w->X.K=K->X.calm=true->∀(i:Nat) (pins:List (Addr × Obj)) (s:Shared) (σ:St) (H:Hp) (E:Value->Shared->Prop),Inv X pins σ H s->(∀b∈fp,yG X pins H b)->tn i s.heap->J.stop i H->
  wpAny (model P w) X.A (pyNext (.ref it)) (λ r s1=>r=none/\Inv X pins σ H s1) E s
 self:∀(A:Around) (i:Nat) (s:Shared) (Q:Value->Shared->Prop) (E:Value->Shared->Prop),tn i s.heap->Q (.ref it) s->wpAny (model P w) A (pyIter (.ref it)) Q E s
noncomputable abbrev TI:=St->Hp->(It->Hp->Prop)->Prop
inductive UL (X:Cx)(pins:List (Addr × Obj))(σ:St)(tg:Expr)(R:It->Hp->Prop)(itv:Value)(s2:Shared):Prop
 | mk (it:Addr) (fp:List Addr) (tn:Nat->Heap->Prop) (J:It) (H':Hp) (e:itv=.ref it) (I:Inv X pins σ H' s2) (T:Turn X.prog X.w X.K tg J fp it tn) (t0:tn 0 s2.heap) (f:(∀b∈fp,yG X pins H' b)) (q:R J H')
noncomputable def PI (X:Cx)(tg iter:Expr)(wi:TI):Prop:=
 ∀(pins:List (Addr × Obj)) (s:Shared) (σ:St) (H:Hp) (R:It->Hp->Prop),Inv X pins σ H s->wi σ H R->
  wpAny (model X.prog X.w) X.A (eval iter X.env) (λ v s1=>wpAny (model X.prog X.w) X.A (pyIter v) (UL X pins σ tg R) X.xe s1) X.xe s
theorem WV {M:Model}{A:Around}{E:Value->Shared->Prop}{s:Shared}{tg:Expr}{it:Addr}{u:Value}{o:Obj}{n:String}{vs:Array Value}{Q:Unit->Shared->Prop}(ho:s.heap.get? it=some o)(hc:o.cls=.type n)(hd:o.data=.fields vs)
  (hn:["enumerate", "zip", "dict_itemiterator", "dict_reverseitemiterator", "odict_iterator", "itertools.zip_longest", "itertools.pairwise"].contains n=false)(hQ:Q () s):wpAny M A (letOwnedTupleGo tg (.ref it) u) Q E s:=by
 unfold letOwnedTupleGo
 cases tg<;>first
  | exact wpAny_pure hQ
  | (cases u<;>first
    | exact wpAny_pure hQ
    | (
      refine wpAny_bind (wpAny_load ho ?_)
      rw [hc,hd]
      show wpAny M A (if (["enumerate", "zip", "dict_itemiterator", "dict_reverseitemiterator", "odict_iterator", "itertools.zip_longest", "itertools.pairwise"].contains n&&vs[0]?==some (rawInt _))=true then _ else _) Q E s
      rw [if_neg (by intro h;rw [hn,Bool.false_and] at h;cases h)]
      exact wpAny_pure hQ))
noncomputable def UW (K:Frag)(a:Addr):It:=
 ⟨λ i H=>∃xs x,qx K H a xs/\xs[i]? =some x,λ i H x H'=>H'=H/\∀xs,qx K H a xs->xs[i]? =some x,λ i H=>∃xs,qx K H a xs/\xs.length<=i⟩
noncomputable def UO (K:Frag)(a:Addr):It:=
 ⟨λ i H=>∃xs x,qd K H a xs/\xs[i]? =some x,λ i H x H'=>H'=H/\∀xs,qd K H a xs->xs[i]? =some x,λ i H=>∃xs,qd K H a xs/\xs.length<=i⟩
noncomputable def J9 (lo:Int)(n:Nat):It:=⟨λ i _=>i<n,λ i H x H'=>H'=H/\x=.int (lo+i),λ i _=>n<=i⟩
theorem RT {P:Program}{w:World}{K:Frag}{tg:Expr}(a it:Addr):Turn P w K tg (UW K a) [it] it (λ i h=>h.IsListIter it a i) where
 mem:=by simp
 obj:=λ i h st b hb=>by
  have e:b=it:=by simpa using hb
  subst e
  obtain ⟨o,e,c,d⟩:=st
  exact ⟨o,e,λ v z=>by rw [d] at z;cases z⟩
 keep:=λ i h h' st k=>st.at λ o e=>k it (by simp) o e
 item:=by
  intro X hP hw hK hc i pins s σ H E I hf st hg
  subst hP hw hK
  obtain ⟨xs,x,hq,hx⟩:=hg
  obtain ⟨its,rv,p,hz⟩:=I.list hq
  obtain ⟨u,hu,ru⟩:=rv.get hx
  obtain ⟨f0,f1,f2,f3,f4,f5⟩:=hf it (by simp)
  refine wpAny_pyNext_list_item st p.isList (x:=u) (by simpa using hu) λ h' st' sb=>?_
  have I1:Inv X pins σ H { s with heap:=h' }:=I.turned (t':=s.toks) (λ b o hb e=>(sb.2 b hb).trans e) f0 f1 f3 f4 f5
  obtain ⟨o,e,c,d⟩:=id st'
  exact ⟨u,rfl,WV (s:={ s with heap:=h' }) e c d (by decide) ⟨x,H,I1,ru,⟨rfl,λ ys hy=>by rw [I.list_inj hy hq];exact hx⟩,st',λ b hb=>(hf b hb).1⟩⟩
 done:=by
  intro X hP hw hK hc i pins s σ H E I hf st hg
  subst hP hw hK
  obtain ⟨xs,hq,hx⟩:=hg
  obtain ⟨its,rv,p,hz⟩:=I.list hq
  obtain ⟨f0,f1,f2,f3,f4,f5⟩:=hf it (by simp)
  have hl:=rv.length
  exact wpAny_pyNext_list_end (I.ok.hd hc) st p.isList (by simp;omega) λ h' eb=>⟨rfl,I.turned (t':=s.toks) (λ b o hb e=>eb b o hb e) f0 f1 f3 f4 f5⟩
 self:=λ _ _ _ _ _ st h=>wpAny_pyIter_listiter st h
theorem Rb {P:Program}{w:World}{K:Frag}{tg:Expr}(a it:Addr):Turn P w K tg (UO K a) [it] it (λ i h=>h.IsTupleIter it a i) where
 mem:=by simp
 obj:=λ i h st b hb=>by
  have e:b=it:=by simpa using hb
  subst e
  obtain ⟨o,e,c,d⟩:=st
  exact ⟨o,e,λ v z=>by rw [d] at z;cases z⟩
 keep:=λ i h h' st k=>st.at λ o e=>k it (by simp) o e
 item:=by
  intro X hP hw hK hc i pins s σ H E I hf st hg
  subst hP hw hK
  obtain ⟨xs,x,hq,hx⟩:=hg
  obtain ⟨its,rv,p,hz⟩:=I.tuple hq
  obtain ⟨u,hu,ru⟩:=rv.get hx
  obtain ⟨f0,f1,f2,f3,f4,f5⟩:=hf it (by simp)
  refine wpAny_pyNext_tuple_item st (show s.heap.IsTuple a its.toArray from p) (x:=u) (by simpa using hu) λ h' st' sb=>?_
  have I1:Inv X pins σ H { s with heap:=h' }:=I.turned (t':=s.toks) (λ b o hb e=>(sb.2 b hb).trans e) f0 f1 f3 f4 f5
  obtain ⟨o,e,c,d⟩:=id st'
  exact ⟨u,rfl,WV (s:={ s with heap:=h' }) e c d (by decide) ⟨x,H,I1,ru,⟨rfl,λ ys hy=>by rw [I.tuple_inj hy hq];exact hx⟩,st',λ b hb=>(hf b hb).1⟩⟩
 done:=by
  intro X hP hw hK hc i pins s σ H E I hf st hg
  subst hP hw hK
  obtain ⟨xs,hq,hx⟩:=hg
  obtain ⟨its,rv,p,hz⟩:=I.tuple hq
  obtain ⟨f0,f1,f2,f3,f4,f5⟩:=hf it (by simp)
  have hl:=rv.length
  exact wpAny_pyNext_tuple_end (I.ok.hd hc) st (show s.heap.IsTuple a its.toArray from p) (by simp;omega) λ h' eb=>⟨rfl,I.turned (t':=s.toks) (λ b o hb e=>eb b o hb e) f0 f1 f3 f4 f5⟩
 self:=λ _ _ _ _ _ st h=>wpAny_pyIter_tupleiter st h
theorem Ri {P:Program}{w:World}{K:Frag}{tg:Expr}(it:Addr)(lo:Int)(n:Nat):Turn P w K tg (J9 lo n) [it] it (λ i h=>IsRangeIter h it (lo+(i:Nat) * 1) ((n:Int) - (i:Nat)) 1) where
 mem:=by simp
 obj:=λ i h st b hb=>by
  have e:b=it:=by simpa using hb
  subst e
  exact ⟨_,st,λ v z=>by
   have z':Data.fields _=Data.cell v:=z
   cases z'⟩
 keep:=λ i h h' st k=>k it (by simp) _ st
 item:=by
  intro X hP hw hK hc i pins s σ H E I hf st hg
  subst hP hw hK
  obtain ⟨f0,f1,f2,f3,f4,f5⟩:=hf it (by simp)
  have W:=Walks.range (prog:=X.prog) (w:=X.w) (I.ok.hd hc) it lo 1 n
  refine W.item i s _ _ hg st λ v h' tk hv st' kk=>?_
  obtain ⟨t,rfl⟩:=hv
  have I1:Inv X pins σ H { s with heap:=h',toks:=tk }:=I.turned (λ b o hb e=>kk b o (by simpa using hb) e) f0 f1 f3 f4 f5
  refine ⟨_,rfl,WV (s:={ s with heap:=h',toks:=tk }) (n := "range_iterator") st' rfl rfl (by decide) ⟨.int (lo+i),H,I1,⟨t,?_⟩,⟨rfl,rfl⟩,st',λ b hb=>(hf b hb).1⟩⟩
  rw [Int.mul_one]
 done:=by
  intro X hP hw hK hc i pins s σ H E I hf st hg
  subst hP hw hK
  obtain ⟨f0,f1,f2,f3,f4,f5⟩:=hf it (by simp)
  exact wpAny_pyNext_range_end (I.ok.hd hc) st (by have:n<=i:=hg;omega) λ h' eb=>⟨rfl,I.turned (t':=s.toks) (λ b o hb e=>eb b o hb e) f0 f1 f3 f4 f5⟩
 self:=λ _ _ _ _ _ st h=>wpAny_pyIter_rangeiter st h
section
variable {X:Cx}{tg:Expr}
theorem PH {pins:List (Addr × Obj)}{σ:St}{H:Hp}{s:Shared}{R:It->Hp->Prop}{E:Value->Shared->Prop}{lo hi:Int}{t u v:Tok}{tk:Nat}(I:Inv X pins σ H s)(h1:-(2 ^ 62)<=lo)(h2:lo<2 ^ 62)(h3:-(2 ^ 62)<=hi)(h4:hi<2 ^ 62)
  (q:R (J9 lo (hi - lo).toNat) H):wpAny (model X.prog X.w) X.A (pyIter (.ref s.heap.objs.size)) (UL X pins σ tg R) E { s with heap:=s.heap.push { cls:=.type "range",data:=.fields #[.int lo t,.int hi u,.int 1 v] },toks:=tk }:=by
 refine wpAny_pyIter_range (IsRange.new ..) (small_one h1 h2 h3 h4) ?_
 have I1:Inv X pins σ H { s with heap:=s.heap.push { cls:=.type "range",data:=.fields #[.int lo t,.int hi u,.int 1 v] },toks:=tk }:=I.kept λ b o e=>Heap.get?_push_of_some _ e
 refine ⟨(s.heap.push { cls:=.type "range",data:=.fields #[.int lo t,.int hi u,.int 1 v] }).objs.size,[(s.heap.push { cls:=.type "range",data:=.fields #[.int lo t,.int hi u,.int 1 v] }).objs.size],_,_,H,rfl,
  I1.kept (t':=tk) λ b o e=>Heap.get?_push_of_some _ e,Ri _ lo (hi - lo).toNat,?_,λ b hb=>?_,q⟩
 ·have e1:lo+((0:Nat):Int) * 1=lo:=by simp
  have e2:(((hi - lo).toNat:Nat):Int) - ((0:Nat):Int)=Builtin.Range.rangeSize lo hi 1:=by rw [rangeSize_one];split<;>omega
  show IsRangeIter _ _ (lo+((0:Nat):Int) * 1) ((((hi - lo).toNat:Nat):Int) - ((0:Nat):Int)) 1
  rw [e1,e2]
  exact Heap.get?_push_size _ rfl
 ·have e:b=(s.heap.push { cls:=.type "range",data:=.fields #[.int lo t,.int hi u,.int 1 v] }).objs.size:=by simpa using hb
  subst e
  exact I1.fpOk (Nat.le_refl _) (I1.hok.fresh (Nat.le_refl _))
noncomputable def LW (ta:TA):TI:=λ σ H R=>ta σ H λ vs H1=>∃j:Int,vs=[.int j]/\-(2 ^ 62)<=j/\j<2 ^ 62/\R (J9 0 j.toNat) H1
theorem RW {a:Expr}{ta:TA}{p pos:Pos}(hg:Gl X "range")(hm:X.mg "range" = none)(ha:PA X [a] ta)(hs:starEach [a] X.env=[(false,eval a X.env)]:=by rfl):PI X tg (.Call (.Name "range" p) [a] [] pos) (LW ta):=by
 intro pins s σ H R I h
 refine Call_ (gy I hg hm boot_range (PyProof.Rows.callWith_type1 (zO (ha pos pins s σ H _ I h) λ us s1 ⟨vs,H1,I1,r1,q1⟩=>?_) hs rfl))
 obtain ⟨j,e,q1,q2,q⟩:=q1
 subst e
 cases r1 with
 | cons r rr=>
  cases rr
  obtain ⟨t,rfl⟩:=r
  exact call_range_1 (PH I1 (by omega) (by omega) q1 q2 (by simpa using q))
noncomputable def Hn (wi:TI)(g:TG)(tb:TS):TS:=λ D σ H=>wi σ H λ J H1=>∃W:Nat->Nat->St->Hp->Prop,(∃m,W 0 m σ H1)/\∀i m σ H,W i m σ H->
 (J.stop i H/\D.nx σ H)∨(J.go i H/\∃N:St->Hp->Prop,(∀σ' H',N σ' H'->∃m',m'<m/\W (i+1) m' σ' H')/\∀x H',J.yld i H x H'->g x σ H' λ σ2 H2=>tb { D with nx:=N,ct:=N,bk:=D.nx } σ2 H2)
noncomputable def Qn (fp:List Addr)(h:Heap):List (Addr × Obj):=fp.filterMap λ b=>(h.get? b).map λ o=>(b,o)
theorem Q7 {fp:List Addr}{h:Heap}{b:Addr}{o:Obj}(hb:b∈fp)(e:h.get? b=some o):(b,o)∈Qn fp h:=List.mem_filterMap.mpr ⟨b,hb,by rw [e];rfl⟩
theorem RO {fp:List Addr}{h:Heap}{p:Addr × Obj}(hp:p∈Qn fp h):p.1∈fp/\h.get? p.1=some p.2:=by
 obtain ⟨b,hb,e⟩:=List.mem_filterMap.mp hp
 cases q:h.get? b with
 | none=>rw [q] at e;cases e
 | some o=>
  rw [q] at e
  have e':(b,o)=p:=Option.some.inj e
  subst e'
  exact ⟨hb,q⟩
theorem Inv.pinned {pins:List (Addr × Obj)}{σ:St}{H:Hp}{s:Shared}{fp:List Addr}(I:Inv X pins σ H s)(hf:∀b∈fp,yG X pins H b)(ho:∀b∈fp,∃o,s.heap.get? b=some o/\∀v,o.data≠.cell v):Inv X (pins++Qn fp s.heap) σ H s:=
 I.pins_of λ p hp=>(List.mem_append.mp hp).elim (λ z=>I.pin p (List.mem_append_right _ z)) λ z=>by
  obtain ⟨hb,e⟩:=RO z
  obtain ⟨f0,f1,f2,_⟩:=hf p.1 hb
  obtain ⟨o,e',d⟩:=ho p.1 hb
  rw [e] at e';cases e'
  exact ⟨e,f0,f1,f2,d⟩
theorem Inv.unpinned {pins pl:List (Addr × Obj)}{σ:St}{H:Hp}{s:Shared}(I:Inv X (pins++pl) σ H s):Inv X pins σ H s:=I.pins_of λ p hp=>I.pin p (List.mem_append_right _ (List.mem_append_left _ hp))
theorem M3 {iter:Expr}{body:List Stmt}{wi:TI}{g:TG}{tb:TS}{pos:Pos}(hp:PassesOwn (model X.prog X.w) X.A X.env X.xe)(hc:X.calm=true)(hi:PI X tg iter wi)(hg:PG X tg g)(hb:yj X body tb)
  (hs:∀x,foldedSetIterable iter X.env x=pure x:=by intro _;rfl):PS X (.For tg iter body [] pos) (Hn wi g tb):=by
 intro pins s σ H D I h
 refine wpAny_For (zO (hi pins s σ H _ I h) λ v s1 h1=>zO h1 λ itv s2 h2=>?_) hs
 obtain ⟨it,fp,tn,J,H2,e,I2,T,yX,f2,W,⟨m0,w0⟩,turn⟩:=h2
 subst e
 have stat:∀{H':Hp},(∀b∈fp,H' b=none)->∀b∈fp,yG X pins H' b:=λ hn b hb=>⟨hn b hb,(f2 b hb).2⟩
 refine codeAny_forLoop_any (λ n s'=>∃i σ' H',Inv X pins σ' H' s'/\tn i s'.heap/\(∀b∈fp,H' b=none)/\W i n σ' H') ?_ m0 ⟨0,σ,H2,I2,yX,λ b hb=>(f2 b hb).1,w0⟩
 rintro n s3 ⟨i,σ3,H3,I3,kx,fr3,w3⟩
 rcases turn i n σ3 H3 w3 with ⟨stop,qn⟩ | ⟨go,N,hN,step⟩
 ·refine wpAny_passesOwn hp (zO (T.done X rfl rfl rfl hc i pins s3 σ3 H3 X.xe I3 (stat fr3) kx stop) λ r s4 ⟨hr,I4⟩=>?_)
  subst hr
  exact wpAny_execs_nil ⟨σ3,H3,I4,qn⟩
 ·refine wpAny_passesOwn hp (zO (T.item X rfl rfl rfl hc i pins s3 σ3 H3 X.xe I3 (stat fr3) kx go) λ r s4 ⟨u,hr,h4⟩=>?_)
  subst hr
  refine wpAny_passesOwn hp (zO h4 λ _ s5 ⟨x,H5,I5,r5,y5,st5,fr5⟩=>?_)
  have I5':=I5.pinned (stat fr5) (T.obj _ _ st5)
  refine wpAny_passesOwn hp (zO (hg _ s5 σ3 H5 x u _ I5' r5 (step x H5 y5)) λ _ s6 ⟨σ6,H6,I6,q6⟩=>?_)
  refine wpAny_passesOwn hp (zO (hb _ s6 σ6 H6 _ I6 q6) λ f s7 q7=>?_)
  have again:∀{σ7:St} {H7:Hp},Inv X (pins++Qn fp s5.heap) σ7 H7 s7->N σ7 H7->∃m,m<n/\∃i σ' H',Inv X pins σ' H' s7/\tn i s7.heap/\(∀b∈fp,H' b=none)/\W i m σ' H':=λ {σ7 H7} I7 n7=>by
   obtain ⟨m',hm,w7⟩:=hN σ7 H7 n7
   refine ⟨m',hm,i+1,σ7,H7,I7.unpinned,T.keep _ _ _ st5 λ b hb o e=>(I7.pin (b,o) (List.mem_append_right _ (List.mem_append_right _ (Q7 hb e)))).1,λ b hb=>?_,w7⟩
   obtain ⟨o,e,d⟩:=T.obj _ _ st5 b hb
   exact (I7.pin (b,o) (List.mem_append_right _ (List.mem_append_right _ (Q7 hb e)))).2.1
  cases f with
  | next=>obtain ⟨σ7,H7,I7,n7⟩:=q7;exact again I7 n7
  | cont=>obtain ⟨σ7,H7,I7,n7⟩:=q7;exact again I7 n7
  | brk=>obtain ⟨σ7,H7,I7,q7⟩:=q7;exact ⟨σ7,H7,I7.unpinned,q7⟩
  | ret v=>obtain ⟨x7,σ7,H7,I7,r7,q7⟩:=q7;exact ⟨x7,σ7,H7,I7.unpinned,r7,q7⟩
end
noncomputable abbrev R2:=V->V->Hp->VK->Prop
noncomputable def qj (X:Cx)(f:Value->Value->Sem Value)(r:R2):Prop:=
 ∀(pins:List (Addr × Obj)) (s:Shared) (σ:St) (H:Hp) (x y:V) (v u:Value) (Q:VK),Inv X pins σ H s->RelV x v->RelV y u->r x y H Q->
  wpAny (model X.prog X.w) X.A (f v u) (EP X pins σ Q) X.xe s
noncomputable def J4 (X:Cx)(f:Value->Sem Value)(r:V->Hp->VK->Prop):Prop:=
 ∀(pins:List (Addr × Obj)) (s:Shared) (σ:St) (H:Hp) (x:V) (v:Value) (Q:VK),Inv X pins σ H s->RelV x v->r x H Q->
  wpAny (model X.prog X.w) X.A (f v) (EP X pins σ Q) X.xe s
noncomputable def jx (X:Cx)(f:Value)(r:List V->Hp->VK->Prop):Prop:=
 ∀(pins:List (Addr × Obj)) (s:Shared) (σ:St) (H:Hp) (xs:List V) (us:List Value) (Q:VK),Inv X pins σ H s->Vals xs us->r xs H Q->
  wpAny (model X.prog X.w) X.A (call f us) (EP X pins σ Q) X.xe s
noncomputable def QF (r:R2)(ta tb:TE):TE:=λ σ H Q=>ta σ H λ x H1=>tb σ H1 λ y H2=>r x y H2 Q
noncomputable def UU (r:V->Hp->VK->Prop)(ta:TE):TE:=λ σ H Q=>ta σ H λ x H1=>r x H1 Q
noncomputable def rI (C:Int->Int->Prop)(g:Int->Int->V):R2:=λ x y H Q=>∃i j,x=.int i/\y=.int j/\C i j/\Q (g i j) H
noncomputable def kP (g:Int->Int->V):R2:=λ x y H Q=>∃i j,x=.int i/\y=.int j/\Q (g i j) H
noncomputable def rU (g:Int->V):V->Hp->VK->Prop:=λ x H Q=>∃i,x=.int i/\Q (g i) H
section
variable {X:Cx}{a b c:Expr}{ta tb tc:TE}{pos:Pos}
theorem Gg (ha:PE X a ta)(hb:PE X b tb){pins:List (Addr × Obj)}{s:Shared}{σ:St}{H:Hp}{R:V->V->Hp->Prop}(I:Inv X pins σ H s)
  (h:ta σ H λ x H1=>tb σ H1 λ y H2=>R x y H2){Q:Value->Shared->Prop}{f:Value->Value->Sem Value}
  (hf:∀v u s2 x y H2,Inv X pins σ H2 s2->RelV x v->RelV y u->R x y H2->wpAny (model X.prog X.w) X.A (f v u) Q X.xe s2):
  wpAny (model X.prog X.w) X.A (eval a X.env) (λ v s₁=>wpAny (model X.prog X.w) X.A (eval b X.env) (λ u s₂=>wpAny (model X.prog X.w) X.A (f v u) Q X.xe s₂) X.xe s₁) X.xe s:=by
 refine zO (ha pins s σ H _ I h) λ v s1 ⟨x,H1,I1,r1,q1⟩=>?_
 refine zO (hb pins s1 σ H1 _ I1 q1) λ u s2 ⟨y,H2,I2,r2,q2⟩=>?_
 exact hf v u s2 x y H2 I2 r1 r2 q2
theorem Ii {op:Operator}{r:R2}(ho:qj X (binaryOp op) r)(ha:PE X a ta)(hb:PE X b tb):PE X (.BinOp a op b pos) (QF r ta tb):=by
 intro pins s σ H Q I h
 exact wpAny_BinOp (Gg ha hb I h λ v u s2 x y H2 I2 rx ry q=>ho pins s2 σ H2 x y v u Q I2 rx ry q)
theorem IF {op:UnaryOp}{r:V->Hp->VK->Prop}(ho:J4 X (unaryOp op) r)(ha:PE X a ta):PE X (.UnaryOp op a pos) (UU r ta):=by
 intro pins s σ H Q I h
 exact UnaryOp_ (zO (ha pins s σ H _ I h) λ v s1 ⟨x,H1,I1,r1,q1⟩=>ho pins s1 σ H1 x v Q I1 r1 q1)
theorem JZ {f:Value->Value->Sem Value}{C:Int->Int->Prop}{g:Int->Int->Int}
  (rule:∀(i j:Int) (t u:Tok) (s:Shared) (Q:Value->Shared->Prop) (E:Value->Shared->Prop),C i j->Q (.int (g i j) s.toks) { s with toks:=s.toks+1 }->wpAny (model X.prog X.w) X.A (f (.int i t) (.int j u)) Q E s):
  qj X f (rI C λ i j=>.int (g i j)):=by
 intro pins s σ H x y v u Q I rx ry h
 obtain ⟨i,j,rfl,rfl,hc,q⟩:=h
 obtain ⟨t,rfl⟩:=rx
 obtain ⟨t',rfl⟩:=ry
 exact rule i j t t' s _ _ hc ⟨.int (g i j),H,I.tok _,⟨_,rfl⟩,q⟩
theorem Ga {f:Value->Value->Sem Value}{g:Int->Int->Int}
  (rule:∀(i j:Int) (t u:Tok) (s:Shared) (Q:Value->Shared->Prop) (E:Value->Shared->Prop),Q (.int (g i j) s.toks) { s with toks:=s.toks+1 }->wpAny (model X.prog X.w) X.A (f (.int i t) (.int j u)) Q E s):
  qj X f (kP λ i j=>.int (g i j)):=by
 intro pins s σ H x y v u Q I rx ry h
 obtain ⟨i,j,rfl,rfl,q⟩:=h
 obtain ⟨t,rfl⟩:=rx
 obtain ⟨t',rfl⟩:=ry
 exact rule i j t t' s _ _ ⟨.int (g i j),H,I.tok _,⟨_,rfl⟩,q⟩
theorem JL {f:Value->Value->Sem Value}{g:Int->Int->Bool}
  (rule:∀(i j:Int) (t u:Tok) (s:Shared) (Q:Value->Shared->Prop) (E:Value->Shared->Prop),Q (.bool (g i j)) s->wpAny (model X.prog X.w) X.A (f (.int i t) (.int j u)) Q E s):
  qj X f (kP λ i j=>.bl (g i j)):=by
 intro pins s σ H x y v u Q I rx ry h
 obtain ⟨i,j,rfl,rfl,q⟩:=h
 obtain ⟨t,rfl⟩:=rx
 obtain ⟨t',rfl⟩:=ry
 exact rule i j t t' s _ _ ⟨.bl (g i j),H,I,rfl,q⟩
noncomputable def Ut (i j:Int):Prop:=0<j/\j<1073741824
noncomputable def Uy (i j:Int):Prop:=0<=j/\j<=1000000/\i.natAbs<2 ^ 64
noncomputable def Qz (i j:Int):Prop:=(-(2 ^ 64)<i/\i<2 ^ 64)∨(-(2 ^ 64)<j/\j<2 ^ 64)
theorem Qz.ok {i j:Int}(h:Qz i j):IntMulOk i j:=by
 rcases h with ⟨h1,h2⟩ | ⟨h1,h2⟩
 ·exact .of_left (intBits_le_64 h1 h2)
 ·exact .of_right (intBits_le_64 h1 h2)
theorem M9:qj X (binaryOp .Add) (kP λ i j=>.int (i+j)):=Ga λ _ _ _ _ _ _ _ q=>add_int q
theorem MC:qj X (binaryOp .Sub) (kP λ i j=>.int (i - j)):=Ga λ _ _ _ _ _ _ _ q=>sub_int q
theorem Mn:qj X (binaryOp .Mult) (rI Qz λ i j=>.int (i * j)):=JZ λ _ _ _ _ _ _ _ hc q=>mul_int q hc.ok
theorem N4:qj X (binaryOp .FloorDiv) (rI Ut λ i j=>.int (i / j)):=JZ λ i j _ _ _ _ _ hc q=>by
 have h1:(0:Int)<j:=hc.1
 have h2:j<1073741824:=hc.2
 exact floordiv_int (by omega) (by rw [Int.fdiv_eq_ediv_of_nonneg i (by omega)];exact q) (.inl (PyProof.noPylong_small (by omega)))
theorem Lg:qj X (binaryOp .Mod) (rI (λ _ j=>0<j) λ i j=>.int (i % j)):=JZ λ i j _ _ _ _ _ hc q=>by
 have h1:(0:Int)<j:=hc
 exact mod_int' (by omega) (by rw [Int.fmod_eq_emod_of_nonneg i (by omega)];exact q)
theorem Ln:qj X (binaryOp .Pow) (rI Uy λ i j=>.int (i ^ j.toNat)):=JZ λ _ _ _ _ _ _ _ hc q=>pow_int_small hc.1 hc.2.1 hc.2.2 q
theorem LJ:qj X (binaryOp .BitXor) (kP λ i j=>.int (Builtin.bitXor i j)):=Ga λ _ _ _ _ _ _ _ q=>xor_int q
theorem Hz {f:Value->Sem Value}{g:Int->Int}
  (rule:∀(i:Int) (t:Tok) (s:Shared) (Q:Value->Shared->Prop) (E:Value->Shared->Prop),Q (.int (g i) s.toks) { s with toks:=s.toks+1 }->wpAny (model X.prog X.w) X.A (f (.int i t)) Q E s):
  J4 X f (rU λ i=>.int (g i)):=by
 intro pins s σ H x v Q I rx h
 obtain ⟨i,rfl,q⟩:=h
 obtain ⟨t,rfl⟩:=rx
 exact rule i t s _ _ ⟨.int (g i),H,I.tok _,⟨_,rfl⟩,q⟩
theorem Mp:J4 X (unaryOp .USub) (rU λ i=>.int (-i)):=Hz λ _ _ _ _ _ q=>neg_int q
end
section
variable {X:Cx}{a b c:Expr}{ta tb tc:TE}{pos:Pos}
theorem VN {pins:List (Addr × Obj)}{σ:St}{H:Hp}{s:Shared}{Q:VK}{k k':Bool}(I:Inv X pins σ H s)(q:Q (.bl k) H)(e:k=k'):EP X pins σ Q (.bool k') s:=by
 subst e
 exact ⟨.bl k,H,I,rfl,q⟩
theorem Iy:qj X (compareOp .Lt) (kP λ i j=>.bl (decide (i<j))):=JL λ _ _ _ _ _ _ _ q=>lt_int q
theorem Il:qj X (compareOp .LtE) (kP λ i j=>.bl (decide (i<=j))):=JL λ _ _ _ _ _ _ _ q=>le_int q
theorem IS:qj X (compareOp .Gt) (kP λ i j=>.bl (decide (j<i))):=JL λ _ _ _ _ _ _ _ q=>gt_int q
theorem LY:qj X (compareOp .GtE) (kP λ i j=>.bl (decide (j<=i))):=JL λ _ _ _ _ _ _ _ q=>ge_int q
theorem Mw:qj X (compareOp .Is) (λ x y H Q=>y=.non/\Q (.bl (decide (x=.non))) H):=by
 intro pins s σ H x y v u Q I rx ry h
 obtain ⟨rfl,q⟩:=h
 cases ry
 refine is_none_gen (VN I q ?_)
 cases x<;>first
  | (cases rx;rfl)
  | (obtain ⟨t,rfl⟩:=rx;rfl)
theorem NX:qj X (compareOp .IsNot) (λ x y H Q=>y=.non/\Q (.bl (!decide (x=.non))) H):=by
 intro pins s σ H x y v u Q I rx ry h
 obtain ⟨rfl,q⟩:=h
 cases ry
 refine isnot_none_gen (VN I q ?_)
 cases x<;>first
  | (cases rx;rfl)
  | (obtain ⟨t,rfl⟩:=rx;rfl)
theorem qj.or {f:Value->Value->Sem Value}{r r':R2}(h:qj X f r)(h':qj X f r'):qj X f (λ x y H Q=>r x y H Q∨r' x y H Q):=by
 intro pins s σ H x y v u Q I rx ry q
 rcases q with q | q
 ·exact h pins s σ H x y v u Q I rx ry q
 ·exact h' pins s σ H x y v u Q I rx ry q
theorem NJ {op:CmpOp}{r:R2}(ho:qj X (compareOp op) r)(ha:PE X a ta)(hb:PE X b tb)(hm:behindInMarks op b=false):PE X (.Compare a [op] [b] pos) (QF r ta tb):=by
 intro pins s σ H Q I h
 exact wpAny_Compare1 (Gg ha hb I h λ v u s2 x y H2 I2 rx ry q=>ho pins s2 σ H2 x y v u Q I2 rx ry q) hm
noncomputable def Uk (t:TE):TT:=λ σ H Q=>t σ H λ x H'=>∃k,x=.bl k/\Q k H'
theorem N5 {op:CmpOp}{r:R2}(ho:qj X (compareOp op) r)(ha:PE X a ta)(hb:PE X b tb)(hm:behindInMarks op b=false):PT X (.Compare a [op] [b] pos) (Uk (QF r ta tb)):=by
 intro pins s σ H Q I h
 refine wpAny_isTrue_Compare1 (zO (ha pins s σ H _ I h) λ v s1 ⟨x,H1,I1,r1,q1⟩=>zO (hb pins s1 σ H1 _ I1 q1) λ u s2 ⟨y,H2,I2,r2,q2⟩=>
  zO (ho pins s2 σ H2 x y v u _ I2 r1 r2 q2) λ c s3 ⟨z,H3,I3,r3,k,e,q3⟩=>?_) hm
 subst e
 cases r3
 exact wpAny_truthy_bool ⟨H3,I3,q3⟩
noncomputable def Wq (r r':R2)(ta tb tc:TE):TE:=λ σ H Q=>ta σ H λ x H1=>tb σ H1 λ y H2=>r x y H2 λ z H3=>∃k,z=.bl k/\
 (if k=true then tc σ H3 λ w' H4=>r' y w' H4 Q else Q (.bl false) H3)
theorem OI {op op':CmpOp}{r r':R2}(ho:qj X (compareOp op) r)(ho':qj X (compareOp op') r')(ha:PE X a ta)(hb:PE X b tb)(hc:PE X c tc)
  (hm:lastMarks [op,op'] [b,c]=false:=by with_unfolding_all rfl):PE X (.Compare a [op,op'] [b,c] pos) (Wq r r' ta tb tc):=by
 intro pins s σ H Q I h
 refine Compare_chain (zO (ha pins s σ H _ I h) λ v s1 ⟨x,H1,I1,r1,q1⟩=>chain_link (zO (hb pins s1 σ H1 _ I1 q1) λ u s2 ⟨y,H2,I2,r2,q2⟩=>
  zO (ho pins s2 σ H2 x y v u _ I2 r1 r2 q2) λ d s3 ⟨z,H3,I3,r3,k,e,q3⟩=>?_)) hm
 subst e
 cases r3
 refine wpAny_truthy_bool ?_
 cases k with
 | false=>exact ite_ff ⟨.bl false,H3,I3,rfl,q3⟩
 | true=>exact ite_tt (chain_last (zO (hc pins s3 σ H3 _ I3 q3) λ w' s4 ⟨z',H4,I4,r4,q4⟩=>ho' pins s4 σ H4 y z' u w' Q I4 r2 r4 q4))
theorem OA {op op':CmpOp}{r r':R2}(ho:qj X (compareOp op) r)(ho':qj X (compareOp op') r')(ha:PE X a ta)(hb:PE X b tb)(hc:PE X c tc)
  (hm:lastMarks [op,op'] [b,c]=false:=by with_unfolding_all rfl):PT X (.Compare a [op,op'] [b,c] pos) (Uk (Wq r r' ta tb tc)):=by
 intro pins s σ H Q I h
 refine isTrue_chain (zO (ha pins s σ H _ I h) λ v s1 ⟨x,H1,I1,r1,q1⟩=>test_link (zO (hb pins s1 σ H1 _ I1 q1) λ u s2 ⟨y,H2,I2,r2,q2⟩=>
  zO (ho pins s2 σ H2 x y v u _ I2 r1 r2 q2) λ d s3 ⟨z,H3,I3,r3,k,e,q3⟩=>?_)) hm
 subst e
 cases r3
 refine wpAny_truthy_bool ?_
 cases k with
 | false=>
  obtain ⟨k',e',q'⟩:=q3
  cases e'
  exact ite_ff ⟨H3,I3,q'⟩
 | true=>
  refine ite_tt (test_last (zO (hc pins s3 σ H3 _ I3 q3) λ w' s4 ⟨z',H4,I4,r4,q4⟩=>zO (ho' pins s4 σ H4 y z' u w' _ I4 r2 r4 q4) λ d' s5 ⟨z2,H5,I5,r5,k2,e2,q5⟩=>?_))
  subst e2
  cases r5
  exact wpAny_truthy_bool ⟨H5,I5,q5⟩
theorem ZP:(sizeLine:Nat)<2 ^ 63:=by rw [sizeLine_eq];decide
theorem vals1 {x:V}{us:List Value}(r:Vals [x] us):∃u,us=[u]/\RelV x u:=by
 cases r with
 | cons r1 r2=>cases r2;exact ⟨_,rfl,r1⟩
theorem vals2 {x y:V}{us:List Value}(r:Vals [x,y] us):∃u w',us=[u,w']/\RelV x u/\RelV y w':=by
 cases r with
 | cons r1 r2=>
  cases r2 with
  | cons r3 r4=>cases r4;exact ⟨_,_,rfl,r1,r3⟩
theorem Oe:jx X (.builtin "abs") (λ xs H Q=>∃i,xs=[.int i]/\Q (.int (if i<0 then -i else i)) H):=by
 intro pins s σ H xs us Q I r h
 obtain ⟨i,rfl,q⟩:=h
 obtain ⟨u,rfl,t,rfl⟩:=vals1 r
 exact call_abs_int λ u tk=>⟨.int (if i<0 then -i else i),H,I.tok _,⟨_,rfl⟩,q⟩
theorem Rq (hc:X.calm=true):jx X (.builtin "max") (λ xs H Q=>∃i j,xs=[.int i,.int j]/\Q (.int (if j > i then j else i)) H):=by
 intro pins s σ H xs us Q I r h
 obtain ⟨i,j,rfl,q⟩:=h
 obtain ⟨u,w',rfl,⟨t,rfl⟩,⟨t',rfl⟩⟩:=vals2 r
 refine max_two_ints (I.ok.hd hc) λ h' tk k=>⟨_,H,I.kept k,?_,q⟩
 by_cases hj:j > i
 ·rw [if_pos hj,if_pos hj];exact ⟨_,rfl⟩
 ·rw [if_neg hj,if_neg hj];exact ⟨_,rfl⟩
theorem Pb (hc:X.calm=true):jx X (.builtin "min") (λ xs H Q=>∃i j,xs=[.int i,.int j]/\Q (.int (if j<i then j else i)) H):=by
 intro pins s σ H xs us Q I r h
 obtain ⟨i,j,rfl,q⟩:=h
 obtain ⟨u,w',rfl,⟨t,rfl⟩,⟨t',rfl⟩⟩:=vals2 r
 refine min_two_ints (I.ok.hd hc) λ h' tk k=>⟨_,H,I.kept k,?_,q⟩
 by_cases hj:j<i
 ·rw [if_pos hj,if_pos hj];exact ⟨_,rfl⟩
 ·rw [if_neg hj,if_neg hj];exact ⟨_,rfl⟩
theorem Ph:jx X (.type "int") (λ xs H Q=>(∃i,xs=[.int i]/\Q (.int i) H)∨∃k,xs=[.bl k]/\Q (.int (if k then 1 else 0)) H):=by
 intro pins s σ H xs us Q I r h
 rcases h with ⟨i,rfl,q⟩ | ⟨k,rfl,q⟩
 ·obtain ⟨u,rfl,t,rfl⟩:=vals1 r
  exact call_int_int ⟨.int i,H,I,⟨_,rfl⟩,q⟩
 ·obtain ⟨u,rfl,r1⟩:=vals1 r
  cases r1
  exact call_int_bool ⟨.int (if k then 1 else 0),H,I.tok _,⟨_,rfl⟩,q⟩
end
structure Gi (h:Heap)(x dx C:Addr)(mA:Str->Option Value):Prop where
 obj:h.get? x=some (PySem.W.instObj C dx)
 ns:h.Ns1 dx mA
 ne:dx≠x
theorem RP {h:Heap}{dx:Addr}{mA:Str->Option Value}(n:h.Ns1 dx mA):∃od,h.get? dx=some od/\∀name,PySem.W.lookIn name od=some (mA name):=by
 obtain ⟨o,es,ep,ho,hd,hk,_,hm⟩:=n
 refine ⟨o,ho,λ name=>?_⟩
 have e:=hm name
 unfold nsFind findBy at e
 rw [<- Array.find?_toList] at e
 unfold PySem.W.lookIn
 rw [hd]
 dsimp only
 split
 ·rename_i y q
  rw [q] at e
  exact congrArg some e
 ·rename_i q
  rw [q] at e
  have a:es.toList.any (·.refKey)=false:=by
   rw [List.any_eq_false]
   intro y hy
   obtain ⟨z,t,hkey⟩:=hk y (Array.mem_toList_iff.mp hy)
   simp [DictEntry.refKey,hkey]
  have a':¬es.toList.any (·.refKey)=true:=by rw [a];exact Bool.false_ne_true
  rw [if_neg a']
  exact congrArg some e
theorem Gi.look {h:Heap}{x dx C:Addr}{mA:Str->Option Value}(I:Gi h x dx C mA):∃od,PySem.W.InstAt h x (PySem.W.instObj C dx) C (some od)/\∀name,PySem.W.lookIn name od=some (mA name):=
 let ⟨od,ho,hl⟩:=RP I.ns
 ⟨od,⟨I.obj,rfl,rfl,ho⟩,hl⟩
section
variable {prog:Program}{w:World}{A:Around}{E:Value->Shared->Prop}{s:Shared}{K:Frag}{x dx C f:Addr}{mA:Str->Option Value}{name:Str}{v:Value}
end
section
variable {P:Program}{w:World}{H H':Hp}{h h':Heap}{a C dx:Addr}{fs fs':List (Str × V)}
theorem OY (hok:jb P w H h)(e:H a=some (.ins C dx fs)):∃mA,Gi h a dx C mA/\(∀f,ZV (fs.lookup f) (mA f))/\PySem.Within mA (fs.map (·.1))/\fs.length<=1000/\H dx=some (.own a):=by
 obtain ⟨d,z,ne,ob,mA,n,r,q⟩:=(show qP P w H h a (.ins C dx fs) from hok a _ e)
 exact ⟨mA,⟨ob,n,ne⟩,r,q,z,d⟩
end
structure Gy (K:Frag)(C:Addr):Prop where
 pg:PySem.W.plainGet K C Str.empty=true
 hd:PySem.W.hasDictIn K C=true
 po:PySem.W.plainOver K C=true
 sa:PySem.W.findIn K (.ref C) "__setattr__" = some (some (.builtin "object.__setattr__"))
theorem Gy.get {K:Frag}{C:Addr}(c:Gy K C)(f:Str):PySem.W.plainGet K C f=true:=c.pg
section
variable {X:Cx}{pins:List (Addr × Obj)}{σ:St}{H:Hp}{s:Shared}{a C dx:Addr}{fs:List (Str × V)}{f:Str}{v:V}{A:Around}{E:Value->Shared->Prop}
end
section
variable {X:Cx}{o e value:Expr}{f:Str}{pos pos' tpos:Pos}{ta tv:TE}
end
section
variable {X:Cx}{pins:List (Addr × Obj)}{σ:St}{H:Hp}{s:Shared}{A:Around}{E:Value->Shared->Prop}{Q:Value->Shared->Prop}{c:Value}{b:Bool}
inductive yT (K:Frag)(H:Hp):V->Value->Prop where
 | non:yT K H .non (.type "NoneType")
 | bl (x:Bool):yT K H (.bl x) (.type "bool")
 | int (i:Int):yT K H (.int i) (.type "int")
 | str (x:Str):yT K H (.str x) (.type "str")
 | flt (x:UInt64):yT K H (.flt x) (.type "float")
 | lst {a:Addr} {xs:List V} (e:H a=some (.lst xs)):yT K H (.ref a) (.type "list")
 | frz {a:Addr} {o:Obj} {xs:List V} (e:H a=some (.frz o (.lst xs))):yT K H (.ref a) (.type "list")
 | tup {a:Addr} {xs:List V} (e:H a=some (.tup xs)):yT K H (.ref a) (.type "tuple")
 | dK {a:Addr} {kvs:List (Key × V)} (e:H a=some (.dK kvs)):yT K H (.ref a) (.type "dict")
 | dT {a:Addr} {kvs:List (List Key × V)} (e:H a=some (.dT kvs)):yT K H (.ref a) (.type "dict")
 | ins {a C dx:Addr} {fs:List (Str × V)} (e:H a=some (.ins C dx fs)) (cl:Gy K C) (ha:PySem.W.findIn K (.ref C) "__class__" = some (some (.builtin "object.__class__")))
   (hn:PySem.W.specialIn K (.builtin "object.__class__") "__get__" = some (some (.builtin "getset_descriptor.__get__"))) (htk:PySem.W.takesIn K (.builtin "object.__class__")=some true)
   (hm:PySem.W.mroIn K C (.type "object")=some true):yT K H (.ref a) (.ref C)
theorem RD {x:V}{u t:Value}(I:Inv X pins σ H s)(rx:RelV x u)(ty:yT X.K H x t)(e:PySem.W.kitOne X.K t c=some b)(h:∀tk,Q (.bool b) { s with toks:=tk }):
  wpAny (model X.prog X.w) A (call (.builtin "isinstance") [u,c]) Q E s:=by
 cases ty with
 | non=>cases (show u=Value.none from rx);exact PySem.W.kia_one PySem.W.kitx_none I.kIn True.intro e (λ z=>nomatch z) h
 | bl y=>cases (show u=Value.bool y from rx);exact PySem.W.kia_one PySem.W.kitx_bool I.kIn True.intro e (λ z=>nomatch z) h
 | int i=>obtain ⟨t,q⟩:=(show ∃t,u=Value.int i t from rx);cases q;exact PySem.W.kia_one PySem.W.kitx_int I.kIn True.intro e (λ z=>nomatch z) h
 | str y=>obtain ⟨t,q⟩:=(show ∃t,u=Value.str y t from rx);cases q;exact PySem.W.kia_one PySem.W.kitx_str I.kIn True.intro e (λ z=>nomatch z) h
 | flt y=>obtain ⟨t,q⟩:=(show ∃t,u=Value.float y t from rx);cases q;exact PySem.W.kia_one PySem.W.kitx_float I.kIn True.intro e (λ z=>nomatch z) h
 | @lst a xs ea=>
  cases (show u=Value.ref a from rx)
  obtain ⟨_,_,n,_,h1⟩:=(show qP X.prog X.w H s.heap a (.lst xs) from I.hok a _ ea)
  exact PySem.W.kia_one PySem.W.kitx_list I.kIn ⟨_,h1,rfl⟩ e (λ z=>nomatch z) h
 | @frz a ob xs ea=>
  cases (show u=Value.ref a from rx)
  obtain ⟨_,_,_,n,_,h1⟩:=(show qP X.prog X.w H s.heap a (.frz ob (.lst xs)) from I.hok a _ ea)
  exact PySem.W.kia_one PySem.W.kitx_list I.kIn ⟨_,h1,rfl⟩ e (λ z=>nomatch z) h
 | @tup a xs ea=>
  cases (show u=Value.ref a from rx)
  obtain ⟨_,_,_,p⟩:=(show qP X.prog X.w H s.heap a (.tup xs) from I.hok a _ ea)
  obtain ⟨o,h1,h2,_⟩:=p
  exact PySem.W.kia_one PySem.W.kitx_tuple I.kIn ⟨o,h1,h2.1⟩ e (λ z=>nomatch z) h
 | @dK a kvs ea=>
  cases (show u=Value.ref a from rx)
  obtain ⟨_,_,vs,_,p⟩:=(show qP X.prog X.w H s.heap a (.dK kvs) from I.hok a _ ea)
  obtain ⟨o,es,ep,h1,h2,_⟩:=p
  exact PySem.W.kia_one PySem.W.kitx_dict I.kIn ⟨o,h1,h2.1⟩ e (λ z=>nomatch z) h
 | @dT a kvs ea=>
  cases (show u=Value.ref a from rx)
  obtain ⟨_,_,xs,_,o,es,ep,h1,h2,_⟩:=(show qP X.prog X.w H s.heap a (.dT kvs) from I.hok a _ ea)
  exact PySem.W.kia_one PySem.W.kitx_dict I.kIn ⟨o,h1,h2.1⟩ e (λ z=>nomatch z) h
 | @ins a C dx fs ea cl ha hn htk hm=>
  cases (show u=Value.ref a from rx)
  obtain ⟨mA,O,_⟩:=OY I.hok ea
  obtain ⟨od,J,_⟩:=O.look
  exact PySem.W.kia_one (PySem.W.kitx_own (cl.get _) cl.hd ha hn htk hm) I.kIn J e (λ z=>nomatch z) h
end
structure jo (k:Nat)(A:Around):Prop where
 hd:A.handled=none
 dp:A.depth+3 * k+5<recursionLimit
 un:A.units+16 * k+200<cLine
theorem jo.mono {j k:Nat}{A:Around}(r:jo k A)(h:j<=k):jo j A:=⟨r.hd,by have:=r.dp;omega,by have:=r.un;omega⟩
theorem jo.deeper {k:Nat}{A:Around}(r:jo (k+1) A)(env:Env):jo k (A.deeper env):=
 ⟨r.hd,by have:=r.dp;show A.depth+1+3 * k+5<_;omega,by have:=r.un;show A.units+3+16 * k+200<_;omega⟩
theorem jo.depth {k:Nat}{A:Around}(r:jo k A):A.depth<recursionLimit:=by have:=r.dp;omega
theorem jo.units {k:Nat}{A:Around}(r:jo k A):A.units+64<cLine:=by have:=r.un;omega
noncomputable def UG:TA:=λ _ H Q=>Q [] H
noncomputable def Ui (ta:TE)(tr:TA):TA:=λ σ H Q=>ta σ H λ x H1=>tr σ H1 λ xs H2=>Q (x::xs) H2
section
variable {X:Cx}{e:Expr}{es:List Expr}{te:TE}{t:TA}{pos:Pos}
theorem jL:PA X [] UG:=λ _ _ _ _ H Q I h=>Calls.spliced_nil ⟨[],H,I,.nil,h⟩
theorem qX (ha:PE X e te)(hr:PA X es t)(hs:starEach (e::es) X.env=(false,eval e X.env)::starEach es X.env:=by rfl):PA X (e::es) (Ui te t):=by
 intro pos pins s σ H Q I h
 rw [hs]
 show wpAny _ _ (spliced ((false,eval e X.env)::backTo pos (starEach es X.env))) _ _ s
 refine Calls.spliced_cons (zO (ha pins s σ H _ I h) λ u s1 ⟨x,H1,I1,r1,q1⟩=>?_)
 exact zO (hr pos pins s1 σ H1 _ I1 q1) λ us s2 ⟨xs,H2,I2,r2,q2⟩=>⟨x::xs,H2,I2,.cons r1 r2,q2⟩
noncomputable def He (t:TA):TE:=λ σ H Q=>t σ H λ xs H1=>xs.length<=sizeLine/\∀p,H1 p=none->Q (.ref p) (upd H1 p (.tup xs))
noncomputable def IX (t:TA):TE:=λ σ H Q=>t σ H λ xs H1=>xs.length<=sizeLine/\∀p,H1 p=none->Q (.ref p) (upd H1 p (.lst xs))
theorem V4 {x1}(h:PA X es t):PE X (.Tuple es x1 pos) (He t):=by
 intro pins s σ H Q I hq
 refine wpAny_Tuple_spliced (zO (h pos pins s σ H _ I hq) λ us s1 ⟨xs,H1,I1,r,z,q⟩=>⟨by rw [<- r.length];exact z,?_⟩)
 have hf:H1 s1.heap.objs.size=none:=I1.hok.fresh (Nat.le_refl _)
 refine ⟨.ref s1.heap.objs.size,upd H1 s1.heap.objs.size (.tup xs),I1.laid (t':=s1.toks) (λ b u e=>Heap.get?_push_of_some _ e) (Nat.le_refl _) ?_,rfl,q _ hf⟩
 exact ⟨z,us,r,⟨_,Heap.get?_push_size _ rfl,⟨rfl,rfl⟩,_,rfl⟩⟩
theorem Lw (h:PA X es t):PE X (.List es pos) (IX t):=by
 intro pins s σ H Q I hq
 refine wpAny_List_spliced (zO (h pos pins s σ H _ I hq) λ us s1 ⟨xs,H1,I1,r,z,q⟩=>⟨by rw [<- r.length];exact z,?_⟩)
 have hf:H1 s1.heap.objs.size=none:=I1.hok.fresh (Nat.le_refl _)
 refine ⟨.ref s1.heap.objs.size,upd H1 s1.heap.objs.size (.lst xs),I1.laid (t':=s1.toks) (λ b u e=>Heap.get?_push_of_some _ e) (Nat.le_refl _) ?_,rfl,q _ hf⟩
 exact ⟨z,us,0,r,Heap.get?_push_size _ rfl⟩
end
noncomputable abbrev Sp:=List V->Hp->VK->XK->Prop
noncomputable abbrev y6:=List Env->Hp->Shared->XK->Value->Shared->Prop
structure JN (P:Program)(w:World)(K:Frag)(mg:Str->Option Value)(base:Heap)(A:Around)(outer:List Env)(s:Shared)(H:Hp):Prop where
 frames:A.frames=some outer
 mod:Mod K mg base
 bs:∀b o,base.get? b=some o->s.heap.get? b=some o/\H b=none
 bsz:base.objs.size<=s.heap.objs.size
 funs:s.heap.FunFrames base outer
 frf:∀b∈kM outer,H b=none
 hok:jb P w H s.heap
 bare:AllBare s.gens
inductive CE (outer:List Env)(P:Program)(w:World)(H:Hp)(s:Shared)(Q:VK)(u:Value)(s':Shared):Prop
 | mk (v:V) (H':Hp) (os:s'.os=s.os) (b:AllBare s'.gens) (un:Un (kM outer) [] H H' s.heap s'.heap) (hk:jb P w H' s'.heap) (r:RelV v u) (q:Q v H')
noncomputable def CR (CX:y6)(outer:List Env)(P:Program)(w:World)(H:Hp)(s:Shared)(Q:VK)(E:XK)(r:Result)(s':Shared):Prop:=
 match r with
 | .ok (.ret u)=>CE outer P w H s Q u s'
 | .ok _=>False
 | .error e=>CX outer H s E e s'
structure yi (P:Program)(w:World)(K:Frag)(mg:Str->Option Value)(base:Heap)(CX:y6)(k:Nat)(f:Addr)(fd:FuncData)(ps:List Str)(sp:Sp):Prop where
 len:∀vs H Q E,sp vs H Q E->vs.length=ps.length
 run:∀(A:Around) (outer:List Env) (s:Shared) (H:Hp) (args:Args) (us:List Value) (vs:List V) (Q:VK) (E:XK),jo k A->JN P w K mg base A outer s H->BindsTo s fd args (ps.zip us)->Vals vs us->sp vs H Q E->
  codeAny (model P w) A (.call (.ref f) args) (CR CX outer P w H s Q E) s
theorem yi.mono {P:Program}{w:World}{K:Frag}{mg:Str->Option Value}{base:Heap}{CX:y6}{j k:Nat}{f:Addr}{fd:FuncData}{ps:List Str}{sp:Sp}(F:yi P w K mg base CX j f fd ps sp)(h:j<=k):
  yi P w K mg base CX k f fd ps sp:=⟨F.len,λ A outer s H args us vs Q E hr=>F.run A outer s H args us vs Q E (hr.mono h)⟩
theorem yi.imp {P:Program}{w:World}{K:Frag}{mg:Str->Option Value}{base:Heap}{CX:y6}{k:Nat}{f:Addr}{fd:FuncData}{ps:List Str}{sp sp':Sp}(F:yi P w K mg base CX k f fd ps sp)
  (h:∀vs H Q E,sp' vs H Q E->sp vs H Q E):yi P w K mg base CX k f fd ps sp':=
 ⟨λ vs H Q E q=>F.len vs H Q E (h _ _ _ _ q),λ A outer s H args us vs Q E hr he hb hv hs=>F.run A outer s H args us vs Q E hr he hb hv (h _ _ _ _ hs)⟩
section
variable {X:Cx}{pins:List (Addr × Obj)}{σ:St}{H:Hp}{s s':Shared}
theorem Inv.env0 (I:Inv X pins σ H s):JN X.prog X.w X.K X.mg X.base X.A X.stack s H:=
 ⟨I.ok.frames,I.ok.mod,I.bs,Nat.le_trans I.ok.bsz I.sz,I.stack,I.stkFree,I.hok,I.bare⟩
theorem Inv.after {Q:VK}{u:Value}(I:Inv X pins σ H s)(h:CE X.stack X.prog X.w H s Q u s'):EP X pins σ Q u s':=by
 obtain ⟨v,H',os,bare,un,hok,r,q⟩:=h
 obtain ⟨hh,g,d,t,os'⟩:=s'
 obtain rfl:os'=s.os:=os
 exact ⟨v,H',I.call (h':=hh) (g':=g) (d':=d) (t':=t) (ch:=[]) un hok bare (λ b z=>absurd z (by simp)),r,q⟩
end
noncomputable def Ib (sp:Sp)(dvs:List V)(E:XK)(t:TA):TE:=λ σ H Q=>t σ H λ vs H1=>sp (vs++dvs) H1 Q E
noncomputable def Binds (K:Frag)(fd:FuncData)(ps:List Str)(ds:List Value):Prop:=
 ∀(s:Shared) (us:List Value),K.In s.heap->(us++ds).length=ps.length->BindsTo s fd ⟨us,[]⟩ (ps.zip (us++ds))
theorem Binds.all {K:Frag}{fd:FuncData}{ps:List Str}(h:∀us:List Value,us.length=ps.length->bindArgs fd ⟨us,[]⟩=pure (ps.zip us)):Binds K fd ps []:=λ s us _ hl=>by
 rw [List.append_nil] at hl ⊢
 exact .of_eq (h us hl)
noncomputable def Passes (CX:y6)(X:Cx)(E:XK):Prop:=∀(pins:List (Addr × Obj)) (σ:St) (H:Hp) (s:Shared) (e:Value) (s':Shared),Inv X pins σ H s->CX X.stack H s E e s'->X.xe e s'
section
variable {X:Cx}{CX:y6}{k:Nat}{f C:Addr}{fd:FuncData}{ps:List Str}{sp:Sp}{dvs:List V}{ds:List Value}{E:XK}{x m:Str}{p pos apos:Pos}{e o:Expr}{es:List Expr}{ta:TE}{t:TA}
theorem LO {pins:List (Addr × Obj)}{σ:St}{H:Hp}{s:Shared}{Q:VK}{us:List Value}{vs:List V}(F:yi X.prog X.w X.K X.mg X.base CX k f fd ps sp)(hr:jo k X.A)(hb:Binds X.K fd ps ds)(hd:Vals dvs ds)(hx:Passes CX X E)
  (I:Inv X pins σ H s)(r:Vals vs us)(h:sp (vs++dvs) H Q E):wpAny (model X.prog X.w) X.A (call (.ref f) us) (EP X pins σ Q) X.xe s:=by
 have r2:Vals (vs++dvs) (us++ds):=r.append hd
 have hl:(us++ds).length=ps.length:=by rw [<- r2.length];exact F.len _ _ _ _ h
 refine wpAny_call (codeAny_mono (F.run X.A X.stack s H ⟨us,[]⟩ (us++ds) (vs++dvs) Q E hr I.env0 (hb s us I.kIn hl) r2 h) λ r s' hq=>?_)
 cases r with
 | error e=>exact hx pins σ H s e s' I hq
 | ok fl=>
  cases fl with
  | ret u=>exact I.after hq
  | next=>exact False.elim hq
  | brk=>exact False.elim hq
  | cont=>exact False.elim hq
theorem Na (F:yi X.prog X.w X.K X.mg X.base CX k f fd ps sp)(hr:jo k X.A)(hg:Gl X x)(hm:X.mg x=some (.ref f))(hk:PySem.W.keepIn X.K (.ref f)=true)(hb:Binds X.K fd ps ds)(hd:Vals dvs ds)(hx:Passes CX X E)
  (ha:PA X (e::es) t)(hdb:(x==("__debug__" : Str))=false:=by decide)(he:starEach (e::es) X.env=(false,eval e X.env)::starEach es X.env:=by rfl)(hpl:(backTo pos (starEach es X.env)).any (·.1)=false:=by rfl):
  PE X (.Call (.Name x p) (e::es) [] pos) (Ib sp dvs E t):=by
 intro pins s σ H Q I h
 refine wpAny_Call_Name_kw (VH I hg hm ?_ hdb)
 refine PySem.W.callWith_K (h₀:=X.base) I.ok.mod.kin hk (zO (ha pos pins s σ H _ I h) λ us s1 ⟨vs,H1,I1,r,q⟩=>⟨I1.kIn,?_⟩) he hpl
 exact LO F hr hb hd hx I1 r q
end
section
variable {X:Cx}{CX:y6}{k:Nat}{f C:Addr}{fd:FuncData}{ps ks:List Str}{sp:Sp}{E:XK}{x m:Str}{p pos apos kpos:Pos}{e o:Expr}{es:List Expr}{kws:List Keyword}{te ta:TE}{t tk:TA}{nm:Option Str}
variable {g:List Value->List Value->List Value}{gV:List V->List V->List V}
end
structure ju (N P:List Str)(sc:Scope):Prop where
 kind:sc.kind=.function
 co:sc.isCoroutine=false
 gen:sc.isGenerator=false
 nd:N.Nodup
 pre:N.take P.length=P
 par:∀x∈P,sc.names.lookup x=some .local∨sc.names.lookup x=some .cell
 nofree:∀y∈sc.names,y.2≠.free
theorem Xu {kindOf:Str->Option NameKind}{x:Str}:∀{binds:List (Str × Value)} {m:Str->Option Value},(∀v,(x,v)∉binds)->bindL kindOf binds m x=m x
 | [],_,_=>rfl
 | (n,v)::r,m,h=>by
  unfold bindL
  rw [Xu λ w hw=>h w (List.mem_cons_of_mem _ hw)]
  split
  ·have:x≠n:=by rintro rfl;exact h v List.mem_cons_self
   simp [this]
  ·rfl
theorem XD {kindOf:Str->Option NameKind}{x:Str}:∀{binds:List (Str × Value)} {m:Str->Option Value},(∀v,(x,v)∉binds)->bindC kindOf binds m x=m x
 | [],_,_=>rfl
 | (n,v)::r,m,h=>by
  unfold bindC
  rw [XD λ w hw=>h w (List.mem_cons_of_mem _ hw)]
  split
  ·rfl
  ·have:x≠n:=by rintro rfl;exact h v List.mem_cons_self
   simp [this]
theorem Xy {kindOf:Str->Option NameKind}{x:Str}{v:Value}:∀{P:List Str} {vs:List Value} {i:Nat} {m:Str->Option Value},P.Nodup->P[i]? =some x->vs[i]? =some v->kindOf x=some .local->
  bindL kindOf (P.zip vs) m x=some v
 | [],_,_,_,_,h,_,_=>by simp at h
 | _::_,[],_,_,_,_,h,_=>by simp at h
 | p::P,w::vs,0,m,nd,h1,h2,hk=>by
  simp at h1 h2;subst h1;subst h2
  show bindL kindOf ((p,w)::P.zip vs) m p=_
  unfold bindL
  rw [Xu λ v hv=>(List.nodup_cons.mp nd).1 (List.of_mem_zip hv).1,if_pos hk]
  simp
 | p::P,w::vs,i+1,m,nd,h1,h2,hk=>by
  show bindL kindOf ((p,w)::P.zip vs) m x=_
  unfold bindL
  exact Xy (i:=i) (List.nodup_cons.mp nd).2 (by simpa using h1) (by simpa using h2) hk
theorem XI {kindOf:Str->Option NameKind}{x:Str}{v:Value}:∀{P:List Str} {vs:List Value} {i:Nat} {m:Str->Option Value},P.Nodup->P[i]? =some x->vs[i]? =some v->kindOf x≠some .local->
  bindC kindOf (P.zip vs) m x=some v
 | [],_,_,_,_,h,_,_=>by simp at h
 | _::_,[],_,_,_,_,h,_=>by simp at h
 | p::P,w::vs,0,m,nd,h1,h2,hk=>by
  simp at h1 h2;subst h1;subst h2
  show bindC kindOf ((p,w)::P.zip vs) m p=_
  unfold bindC
  rw [XD λ v hv=>(List.nodup_cons.mp nd).1 (List.of_mem_zip hv).1,if_neg hk]
  simp
 | p::P,w::vs,i+1,m,nd,h1,h2,hk=>by
  show bindC kindOf ((p,w)::P.zip vs) m x=_
  unfold bindC
  exact XI (i:=i) (List.nodup_cons.mp nd).2 (by simpa using h1) (by simpa using h2) hk
noncomputable def start (N:List Str)(vs:List V):St:=vs.map some++List.replicate (N.length - vs.length) none
noncomputable def gF (CX:y6)(P:Program)(w:World)(K:Frag)(mg:Str->Option Value)(base:Heap)(N:List Str)(qual:Str)(scope:Scope)(f:Addr)(cd:Value)(A:Around)(outer:List Env)(s:Shared)(H:Hp)(E:XK):Cx where
 prog:=P
 w:=w
 K:=K
 mg:=mg
 base:=base
 A:=A.deeper (envOfC qual scope s.heap.objs.size f cd)
 N:=N
 s0:=s
 H0:=H
 env:=envOfC qual scope s.heap.objs.size f cd
 outer:=outer
 stack:=envOfC qual scope s.heap.objs.size f cd::outer
 ex:=[]
 calm:=true
 fn:=λ _=>true
 pn:=[]
 xe:=λ e s'=>wpAny (model P w) (A.deeper (envOfC qual scope s.heap.objs.size f cd)) (leaving (envOfC qual scope s.heap.objs.size f cd) e) (λ _ s''=>CX outer H s E e s'') (λ e' s''=>CX outer H s E e' s'') s'
theorem X0 {sc:Scope}{n:Nat}{x:Str}(h:sc.names.lookup x=some .cell):∃c,(cellsFrom n sc.names []).lookup x=some c:=by
 have q:=PySem.W.cellsFrom_some sc.names n [] (.inl h)
 exact Option.isSome_iff_exists.mp q
theorem Pf {CX:y6}{P:Program}{w:World}{K:Frag}{mg:Str->Option Value}{base:Heap}{N ps:List Str}{qual:Str}{scope:Scope}{f:Addr}{cd:Value}{A:Around}{outer:List Env}{s s1:Shared}{H:Hp}{E:XK}{us:List Value}{vs:List V}
  (S:ju N ps scope)(hd:A.handled=none)(e0:JN P w K mg base A outer s H)(hl:vs.length=ps.length)(r:Vals vs us)
  (x:InCallC s s.heap.objs.size (bindL (envOfC qual scope s.heap.objs.size f cd).kindOf (ps.zip us) λ _=>none) (cellsFrom (s.heap.objs.size+1) scope.names []) (bindC (envOfC qual scope s.heap.objs.size f cd).kindOf (ps.zip us) λ _=>none) s1):
  Inv (gF CX P w K mg base N qual scope f cd A outer s H E) [] (start N vs) H s1:=by
 have hpl:ps.length<=N.length:=by have:=congrArg List.length S.pre;rw [List.length_take] at this;omega
 obtain ⟨h1,tk,rfl,hk⟩:=x.done
 have noA:∀b:Addr,b∉(gF CX P w K mg base N qual scope f cd A outer s H E).ex:=λ b z=>absurd (show b∈([]:List Addr) from z) (by simp)
 refine ⟨⟨e0.mod,S.kind,rfl,rfl,Nat.le_refl _,λ y z c h1 h2=>?_,λ y hy=>?_,λ y c _ h=>?_,λ _=>hd,Around.frames_deeper e0.frames,.inr ⟨rfl,rfl⟩,λ b z=>absurd z (noA b),e0.bs,e0.bsz,λ b _ _=>noA b,λ b z=>absurd z (noA b),e0.funs,e0.frf⟩,
  rfl,e0.bare,Un.kept hk,⟨_,x.toInCall.ns,λ i y v h1 h2 h3=>?_⟩,λ y c h=>⟨_,x.cell y c h⟩,e0.hok.fresh (Nat.le_refl _),λ y c h=>?_,λ p hp=>absurd (show p∈([]:List (Addr × Obj)) from hp) (by simp),e0.hok.kept hk,?_⟩
 ·exact name_of_addr x.apart (PySem.mem_of_lookup h1) (PySem.mem_of_lookup h2)
 ·have hy:scope.names.lookup y=some .cell∨scope.names.lookup y=some .free:=hy
  rcases hy with hy | hy
  ·exact X0 hy
  ·exact absurd rfl (S.nofree _ (PySem.mem_of_lookup hy))
 ·exact Nat.le_of_lt (x.above y c (PySem.mem_of_lookup h))
 ·have hi:i<vs.length:=by
   unfold start at h2
   by_cases hi:i<vs.length
   ·exact hi
   ·rw [List.getElem?_append_right (by simpa using hi)] at h2
    rw [List.getElem?_replicate] at h2
    split at h2<;>cases h2
  have ha:vs[i]? =some v:=by
   unfold start at h2
   rw [List.getElem?_append_left (by simpa using hi),List.getElem?_map] at h2
   cases e:vs[i]? with
   | none=>rw [e] at h2;cases h2
   | some a=>rw [e] at h2;cases h2;rfl
  obtain ⟨u,hu,rv⟩:=r.get ha
  have hp:ps[i]? =some y:=by
   rw [<- S.pre,List.getElem?_take_of_lt (by omega)];exact h1
  have ndP:ps.Nodup:=by rw [<- S.pre];exact S.nd.sublist (List.take_sublist _ _)
  refine ⟨u,rv,?_⟩
  rcases S.par y (List.mem_of_getElem? hp) with k | k
  ·exact .inl ⟨k,Xy ndP hp hu k⟩
  ·obtain ⟨c,e⟩:=X0 (n:=s.heap.objs.size+1) k
   refine .inr ⟨.inl k,c,e,?_⟩
   have q:=x.cell y c e
   rw [XI ndP hp hu (by show scope.names.lookup y≠_;rw [k];decide)] at q
   exact q
 ·exact e0.hok.fresh (Nat.le_of_lt (x.above y c (PySem.mem_of_lookup h)))
 ·unfold start
  show _=N.length
  rw [List.length_append,List.length_map,List.length_replicate]
  omega
theorem Iu {CX:y6}{P:Program}{w:World}{K:Frag}{mg:Str->Option Value}{base:Heap}{k:Nat}{f:Addr}{name qual:Str}{params:Arguments}{body:List Stmt}{scope:Scope}{dV kV doc pm cdv ct oc:Value}{an od:Option Addr}
  {osl:Array (Option Value)}{N ps:List Str}{sp:Sp}(lk:K.lookup f=some ⟨oc,od,.func (PySem.W.fnOf name qual params body scope dV kV doc pm an cdv ct),osl⟩)(hcd:PySem.W.codeIn K cdv qual=true)(S:ju N ps scope)
  (len:∀vs H Q E,sp vs H Q E->vs.length=ps.length)
  (hbody:∀(A:Around) (outer:List Env) (s:Shared) (H:Hp) (vs:List V) (Q:VK) (E:XK),jo k (A.deeper (envOfC qual scope s.heap.objs.size f cdv))->sp vs H Q E->
   ∃t,yj (gF CX P w K mg base N qual scope f cdv A outer s H E) body t/\t { nx:=λ _ H'=>Q .non H',rt:=Q } (start N vs) H):
  yi P w K mg base CX (k+1) f (PySem.W.fnOf name qual params body scope dV kV doc pm an cdv ct) ps sp:=by
 refine ⟨len,λ A outer s H args us vs Q E hr e0 hb r hsp=>?_⟩
 have hl:=len _ _ _ _ hsp
 have KX:K.In s.heap:=e0.mod.kin.keeps λ b o e=>(e0.bs b o e).1
 have lim:s.heap.NoLimit:=e0.mod.nolimit.keeps λ b o e=>(e0.bs b o e).1
 have hkind:∀y∈ps.zip us,scope.names.lookup y.1=some .local∨(scope.names.lookup y.1=some .cell/\((cellsFrom (s.heap.objs.size+1) scope.names []).lookup y.1).isSome=true):=λ ⟨n,v⟩ hy=>by
  rcases S.par n (List.of_mem_zip hy).1 with q | q
  ·exact .inl q
  ·exact .inr ⟨q,PySem.W.cellsFrom_some _ _ _ (.inl q)⟩
 refine codeAny_call_function hr.depth (KX _ _ lk) rfl S.co S.gen rfl (PySem.W.codeRec_of KX hcd) (hb _ _ _ _ ?_)
 refine wpAny_newFunctionEnv_cells S.kind hkind λ env he s1 x=>?_
 subst he
 refine ⟨lim.keeps x.toInCall.keep,codeAny_func ?_⟩
 obtain ⟨t,ht,hq⟩:=hbody A outer s H vs Q E (hr.deeper _) hsp
 have I:Inv (gF CX P w K mg base N qual scope f cdv A outer s H E) [] (start N vs) H s1:=Pf S hr.hd e0 hl r x
 refine wpAny_mono (ht [] s1 (start N vs) H _ I hq) (λ fl s' hs=>?_) λ e s' hs=>hs
 have fin:∀{σ':St} {H':Hp} {v:V} {u:Value},Inv (gF CX P w K mg base N qual scope f cdv A outer s H E) [] σ' H' s'->RelV v u->Q v H'->CE outer P w H s Q u s':=
  λ {σ' H' v u} J rv q=>⟨v,H',J.os,J.bare,J.base,J.hok,rv,q⟩
 cases fl with
 | ret u=>
  obtain ⟨v,σ',H',J,rv,q⟩:=hs
  exact fin J rv q
 | next=>
  obtain ⟨σ',H',J,q⟩:=hs
  exact fin (v:=V.non) (u:=Value.none) J rfl q
 | brk=>
  obtain ⟨_,_,_,q⟩:=hs
  exact False.elim q
 | cont=>
  obtain ⟨_,_,_,q⟩:=hs
  exact False.elim q
section
variable {X:Cx}{x:Str}{p pos:Pos}{e:Expr}{es:List Expr}{t:TA}{id T:String}{r:List V->Hp->VK->Prop}
noncomputable def Gs (r:List V->Hp->VK->Prop)(t:TA):TE:=λ σ H Q=>t σ H λ vs H1=>r vs H1 Q
theorem gc (hc:jx X (.builtin id) r)(hg:Gl X x)(hm:X.mg x=none)(hv:bootBuiltins x=some (.builtin id))(ha:PA X (e::es) t)(hn:x ≠ "__name__" := by decide)(hdb:(x==("__debug__" : Str))=false:=by decide)
  (he:starEach (e::es) X.env=(false,eval e X.env)::starEach es X.env:=by rfl)(hpl:(backTo pos (starEach es X.env)).any (·.1)=false:=by rfl):PE X (.Call (.Name x p) (e::es) [] pos) (Gs r t):=by
 intro pins s σ H Q I h
 refine wpAny_Call_Name_kw (gy I hg hm hv ?_ hn hdb)
 exact PyProof.Rows.callWith_builtin1 (zO (ha pos pins s σ H _ I h) λ us s1 ⟨vs,H1,I1,r1,q1⟩=>hc pins s1 σ H1 vs us Q I1 r1 q1) he hpl
theorem ZA (hc:jx X (.type T) r)(hg:Gl X x)(hm:X.mg x=none)(hv:bootBuiltins x=some (.type T))(ha:PA X (e::es) t)(hn:x ≠ "__name__" := by decide)(hdb:(x==("__debug__" : Str))=false:=by decide)
  (he:starEach (e::es) X.env=(false,eval e X.env)::starEach es X.env:=by rfl)(hpl:(backTo pos (starEach es X.env)).any (·.1)=false:=by rfl):PE X (.Call (.Name x p) (e::es) [] pos) (Gs r t):=by
 intro pins s σ H Q I h
 refine wpAny_Call_Name_kw (gy I hg hm hv ?_ hn hdb)
 exact PyProof.Rows.callWith_type1 (zO (ha pos pins s σ H _ I h) λ us s1 ⟨vs,H1,I1,r1,q1⟩=>hc pins s1 σ H1 vs us Q I1 r1 q1) he hpl
end
end L2
namespace HT
open PySem PyProof.Rows
section
open PySem.SeqAt
open PySem.AutoSeq1 (wpAny_loadPart')
open PySem.MeetsSeq PySem.MeetsSeq2 PySem.MeetsSeq3
end
section
variable {prog:Program}{w:World}{A:Around}{E:Value->Shared->Prop}{s:Shared}
theorem NH {t b:Addr}{vs ws:List Value}{Q:Value->Shared->Prop}(ht:IsTup s.heap t vs.toArray)(hb:IsTup s.heap b ws.toArray)(hv:vs≠[])
  (h1:ws=[]->Q (.ref t) s)(h2:ws≠[]->Q (.ref s.heap.objs.size) { s with heap:=s.heap.push { cls:=.type "tuple",data:=.seq (vs++ws).toArray } })
  (hsz:vs.length+ws.length<=sizeLine):wpAny (model prog w) A (binaryOp .Add (.ref t) (.ref b)) Q E s:=by
 obtain ⟨⟨cls,dd,data,sl⟩,ho,hc,n,hd⟩:=id ht
 obtain ⟨⟨cls2,dd2,data2,sl2⟩,ho2,hc2,n2,hd2⟩:=id hb
 simp only at hc hd hc2 hd2
 subst hc hd hc2 hd2
 have e:vs.toArray++ws.toArray=(vs++ws).toArray:=by simp
 by_cases hw:ws=[]
 ·exact concat_meets ⟨_,ho,rfl⟩ ⟨_,ho2,rfl⟩ noFill_tuple_add seq_tuple_add PySem.F.slot_tuple_add PySem.F.entry_tuple_add (PySem.F.args_tuple_add_2 _ _)
   (tuple_addW1 t b vs.toArray ws.toArray n n2 dd dd2 sl sl2 (by simpa using hv) (by simp [hw])) ⟨ho,ho2,h1 hw⟩
 ·refine concat_meets ⟨_,ho,rfl⟩ ⟨_,ho2,rfl⟩ noFill_tuple_add seq_tuple_add PySem.F.slot_tuple_add PySem.F.entry_tuple_add (PySem.F.args_tuple_add_2 _ _)
   (tuple_addW2 t b vs.toArray ws.toArray n n2 dd dd2 sl sl2 (by simpa using hv) (by simpa using hw) (by rw [List.size_toArray,List.size_toArray];exact hsz)) ⟨ho,ho2,?_⟩
  rw [e]
  exact h2 hw
noncomputable def qa (n d:Nat):Option Int->Nat
 | none=>d
 | some v=>if v<0 then (v+(n:Int)).toNat else min v.toNat n
theorem Lr (n d:Nat)(hd:d<=n)(o:Option Int):qa n d o<=n:=by
 cases o with
 | none=>exact hd
 | some v=>
  show (if v<0 then (v+(n:Int)).toNat else min v.toNat n)<=n
  by_cases hv:v<0
  ·rw [if_pos hv];omega
  ·rw [if_neg hv];exact Nat.min_le_right _ _
theorem VJ (v:Int)(n d:Nat):(if v<0 then max (v+(n:Int)) 0 else min v (n:Int))=((qa n d (some v):Nat):Int):=by
 show (if v<0 then max (v+(n:Int)) 0 else min v (n:Int))=(((if v<0 then (v+(n:Int)).toNat else min v.toNat n):Nat):Int)
 by_cases hv:v<0
 ·simp only [if_pos hv];omega
 ·simp only [if_neg hv];omega
theorem Rf (lo hi:Option Int)(n:Nat):Builtin.Slice.sliceAdjust lo hi 1 (n:Int)=(((qa n 0 lo:Nat):Int),((qa n n hi:Nat):Int)):=by
 have h1:¬((1:Int)<0):=by omega
 unfold Builtin.Slice.sliceAdjust
 simp only [h1,if_false]
 refine Prod.ext ?_ ?_
 ·cases lo with
  | none=>rfl
  | some v=>exact VJ v n 0
 ·cases hi with
  | none=>rfl
  | some v=>exact VJ v n n
theorem S8 (i j:Nat):Builtin.Slice.slicePlaces (i:Int) (j:Int) 1=j - i:=by
 unfold Builtin.Slice.slicePlaces
 have h1:(1:Int) > 0:=by omega
 simp only [h1,if_true,Int.ediv_one]
 split<;>omega
theorem Z9 {v:Value}{o:Option Int}{Q:Option Int->Shared->Prop}(p:IsPart v o)(h:Q o s):wpAny (model prog w) A (Builtin.Slice.slicePartIndex v) Q E s:=by
 cases p with
 | none=>exact slicePart_none h
 | int i t=>exact slicePart_int h
theorem GS {sl:Addr}{vl vu:Value}{lo hi:Option Int}{n:Nat}{Q:Int × Int × Nat->Shared->Prop}(hs:s.heap.IsSliceOf sl vl vu .none)(pl:IsPart vl lo)(pu:IsPart vu hi)
  (h:Q (((qa n 0 lo:Nat):Int),1,qa n n hi - qa n 0 lo) s):wpAny (model prog w) A (Builtin.Slice.sliceApplied (.ref sl) (pure (n:Int))) Q E s:=by
 obtain ⟨os,hos,hcs,hds⟩:=id hs
 unfold Builtin.Slice.sliceApplied Builtin.Slice.sliceFields
 refine wpAny_bind (wpAny_bind (wpAny_field hos hds (x:=vl) rfl (wpAny_bind (wpAny_field hos hds (x:=vu) rfl (wpAny_bind (wpAny_field hos hds (x:=.none) rfl (wpAny_pure ?_)))))))
 refine wpAny_bind (slicePart_none ?_)
 show wpAny _ _ (if ((1:Int)==0)=true then _ else _) _ _ s
 rw [if_neg (by decide)]
 refine wpAny_bind (Z9 pl (wpAny_bind (Z9 pu (wpAny_bind (wpAny_pure ?_)))))
 show wpAny _ _ (match Builtin.Slice.sliceAdjust lo hi 1 (n:Int) with | (lo,hi)=>pure (lo,(1:Int),Builtin.Slice.slicePlaces lo hi 1)) _ _ s
 rw [Rf lo hi n]
 show wpAny _ _ (pure (((qa n 0 lo:Nat):Int),(1:Int),Builtin.Slice.slicePlaces ((qa n 0 lo:Nat):Int) ((qa n n hi:Nat):Int) 1)) _ _ s
 rw [S8]
 exact wpAny_pure h
theorem P4 (xs:Array Value)(i k:Nat):((List.range k).filterMap λ (m:Nat)=>xs[((i:Int)+(m:Int) * 1).toNat]?).toArray=((xs.toList.drop i).take k).toArray:=by
 have e:(λ (m:Nat)=>xs[((i:Int)+(m:Int) * 1).toNat]?)=λ m=>xs[i+m]?:=by
  funext m
  have:((i:Int)+(m:Int) * 1).toNat=i+m:=by omega
  rw [this]
 rw [e]
 have:=pick_run xs i k
 rw [List.filterMap_map] at this
 have e2:((λ x=>xs[x]?) ∘ λ x=>i+x)=λ m=>xs[i+m]?:=rfl
 rw [e2] at this
 rw [this]
theorem Tc {t sl:Addr}{items:Array Value}{vl vu:Value}{lo hi:Option Int}{Q:Value->Shared->Prop}(ht:IsTup s.heap t items)(hs:s.heap.IsSliceOf sl vl vu .none)(pl:IsPart vl lo)(pu:IsPart vu hi)
  (hw:¬(qa items.size 0 lo=0/\qa items.size items.size hi=items.size))
  (h:Q (.ref s.heap.objs.size) { s with heap:=s.heap.push { cls:=.type "tuple",data:=.seq ((items.toList.drop (qa items.size 0 lo)).take (qa items.size items.size hi - qa items.size 0 lo)).toArray } })
  (hsz:items.size<=sizeLine):wpAny (model prog w) A (getItem (.ref t) (.ref sl)) Q E s:=by
 have htake:sizeOk (.seq ((items.toList.drop (qa items.size 0 lo)).take (qa items.size items.size hi - qa items.size 0 lo)).toArray):=by
  show ((items.toList.drop (qa items.size 0 lo)).take (qa items.size items.size hi - qa items.size 0 lo)).toArray.size<=sizeLine
  rw [List.size_toArray,List.length_take,List.length_drop,Array.length_toList]
  omega
 have hj:qa items.size items.size hi<=items.size:=Lr _ _ (Nat.le_refl _) hi
 obtain ⟨os,hos,hcs,hds⟩:=id hs
 have hTs:s.TypeIs (.ref sl) "slice" := ⟨os,hos,hcs⟩
 unfold getItem
 try with_reducible refine wpAny_holding ?_
 first | refine wpAny_bind (wpAny_pure ?_) | skip
 refine wpAny_bind (wpAny_sequenceKey ht.typeIs (by decide) ?_)
 refine wpAny_bind (wpAny_callSpecial?_slot (name:=Str.ofString "__getitem__") ht.typeIs PyProof.Rows.slot_tuple_getitem
  (wpAny_call_entry PyProof.Rows.slot_tuple_getitem ht.typeIs entry_tuple_getitem ?_ (args_tuple_getitem _ _)))
 show wpAny _ _ (Builtin.Tuple.tupleItemsOf (.ref t) >>= _) _ _ s
 refine wpAny_bind (tupleItemsOf_ ht ?_)
 refine wpAny_bind (wpAny_typeOf hTs ?_)
 rw [if_pos (by decide)]
 refine wpAny_bind (GS hs pl pu ?_)
 have hno:¬((((qa items.size 0 lo:Nat):Int)==0&&(1:Int)==1&&(qa items.size items.size hi - qa items.size 0 lo)==items.size)=true):=by
  intro q
  rw [Bool.and_eq_true,Bool.and_eq_true] at q
  have q1:((qa items.size 0 lo:Nat):Int)=0:=eq_of_beq q.1.1
  have q2:qa items.size items.size hi - qa items.size 0 lo=items.size:=eq_of_beq q.2
  exact hw ⟨by omega,by omega⟩
 show wpAny _ _ (if (((qa items.size 0 lo:Nat):Int)==0&&(1:Int)==1&&(qa items.size items.size hi - qa items.size 0 lo)==items.size)=true then _ else _) _ _ s
 rw [if_neg hno,P4]
 first
  | exact wpAny_bind (m:=Builtin.Tuple.tupleExact _) (wpAny_newObj_type (wpAny_pure ⟨_,rfl,wpAny_pure h⟩) htake)
  | exact wpAny_bind (m:=Builtin.Tuple.tupleExact _) (wpAny_newObj_type (wpAny_bind (wpAny_pure (wpAny_pure ⟨_,rfl,wpAny_pure h⟩))) htake)
  | exact wpAny_bind (wpAny_bind (m:=Builtin.Tuple.tupleExact _) (wpAny_newObj_type (wpAny_pure (wpAny_pure ⟨_,rfl,wpAny_pure h⟩)) htake))
  | exact wpAny_bind (wpAny_bind (m:=Builtin.Tuple.tupleExact _) (wpAny_newObj_type (wpAny_pure ⟨_,rfl,wpAny_pure h⟩) htake))
end
end HT
namespace L2
open PySem PySem.Spec PyProof.Rows
noncomputable abbrev TO:=St->Hp->(Option Int->Hp->Prop)->Prop
noncomputable def PO (X:Cx)(e:Option Expr)(t:TO):Prop:=
 ∀(pins:List (Addr × Obj)) (s:Shared) (σ:St) (H:Hp) (Q:Option Int->Hp->Prop),Inv X pins σ H s->t σ H Q->
  wpAny (model X.prog X.w) X.A (evalPart e X.env) (λ u s'=>∃o H',Inv X pins σ H' s'/\IsPart u o/\Q o H') X.xe s
noncomputable def NN:TO:=λ _ H Q=>Q none H
noncomputable def L4 (t:TE):TO:=λ σ H Q=>t σ H λ x H1=>∃i,x=.int i/\Q (some i) H1
section
variable {X:Cx}{e:Expr}{te:TE}{lo hi:Option Expr}{tl th:TO}{pos p2:Pos}
theorem Nu:PO X none NN:=by
 intro pins s σ H Q I h
 rw [evalPart_none]
 exact wpAny_pure ⟨none,H,I,.none,h⟩
theorem NT (h:PE X e te):PO X (some e) (L4 te):=by
 intro pins s σ H Q I hw
 rw [evalPart_some]
 refine zO (h pins s σ H _ I hw) λ u s1 ⟨x,H1,I1,r1,q1⟩=>?_
 obtain ⟨i,rfl,q⟩:=q1
 obtain ⟨t,rfl⟩:=r1
 exact ⟨some i,H1,I1,.int i t,q⟩
noncomputable def Gq (X:Cx)(r:V->Option Int->Option Int->Hp->VK->Prop):Prop:=
 ∀(pins:List (Addr × Obj)) (s:Shared) (σ:St) (H:Hp) (x:V) (v vl vu:Value) (lo hi:Option Int) (sl:Addr) (Q:VK),Inv X pins σ H s->RelV x v->s.heap.IsSliceOf sl vl vu .none->IsPart vl lo->IsPart vu hi->r x lo hi H Q->
  ∃T id,typeLookup (.type T) "__getitem__" = pure (some (.builtin id))/\s.TypeIs v T/\wpAny (model X.prog X.w) X.A (getItem v (.ref sl)) (EP X pins σ Q) X.xe s
noncomputable def HH (r:V->Option Int->Option Int->Hp->VK->Prop)(te:TE)(tl th:TO):TE:=λ σ H Q=>te σ H λ x H1=>tl σ H1 λ l H2=>th σ H2 λ u H3=>r x l u H3 Q
theorem Ou {r:V->Option Int->Option Int->Hp->VK->Prop}(hr:Gq X r)(he:PE X e te)(hl:PO X lo tl)(hu:PO X hi th):PE X (.Subscript e (.Slice lo hi none p2) pos) (HH r te tl th):=by
 intro pins s σ H Q I h
 refine Subscript_ (zO (he pins s σ H _ I h) λ v s1 ⟨x,H1,I1,r1,q1⟩=>?_)
 refine wpAny_Slice (zO (hl pins s1 σ H1 _ I1 q1) λ vl s2 ⟨l,H2,I2,pl,q2⟩=>zO (hu pins s2 σ H2 _ I2 q2) λ vu s3 ⟨u,H3,I3,pu,q3⟩=>?_)
 rw [evalPart_none]
 refine wpAny_pure ?_
 have I4:Inv X pins σ H3 { s3 with heap:=s3.heap.push { cls:=.type "slice",data:=.fields #[vl,vu,.none] } }:=I3.kept (t':=s3.toks) λ b ob q=>Heap.get?_push_of_some _ q
 obtain ⟨T,id,hT,ht,hg⟩:=hr pins { s3 with heap:=s3.heap.push { cls:=.type "slice",data:=.fields #[vl,vu,.none] } } σ H3 x v vl vu l u s3.heap.objs.size Q I4 r1 (Heap.IsSliceOf.new ..) pl pu q3
 show wpAny (model X.prog X.w) X.A (subscriptTail e (.Slice lo hi none p2) v (.ref s3.heap.objs.size)) (EP X pins σ Q) X.xe { s3 with heap:=s3.heap.push { cls:=.type "slice",data:=.fields #[vl,vu,.none] } }
 exact tail_any (ops:=[.ref s3.heap.objs.size,v]) ht hT hg (by with_unfolding_all rfl)
noncomputable def Zn (xs:List V)(lo hi:Option Int):List V:=(xs.drop (HT.qa xs.length 0 lo)).take (HT.qa xs.length xs.length hi - HT.qa xs.length 0 lo)
theorem SH (xs:List V)(lo hi:Option Int):(Zn xs lo hi).length<=xs.length:=by
 unfold Zn
 rw [List.length_take,List.length_drop]
 omega
noncomputable def Ht (K:Frag):V->Option Int->Option Int->Hp->VK->Prop:=λ x lo hi H Q=>∃a xs,x=.ref a/\qd K H a xs/\
 ¬(HT.qa xs.length 0 lo=0/\HT.qa xs.length xs.length hi=xs.length)/\∀p,H p=none->Q (.ref p) (upd H p (.tup (Zn xs lo hi)))
theorem LH:Gq X (Ht X.K):=by
 intro pins s σ H x v vl vu lo hi sl Q I rx hs pl pu h
 obtain ⟨a,xs,rfl,hx,hw,q⟩:=h
 cases rx
 obtain ⟨its,r,ht,hz⟩:=I.tuple hx
 have hlen:its.toArray.size=xs.length:=by rw [List.size_toArray];exact r.length.symm
 refine ⟨"tuple",_,PyProof.Rows.slot_tuple_getitem.lookup,ht.typeIs,?_⟩
 refine HT.Tc ht hs pl pu (by rw [hlen];exact hw) ?_ (by rw [hlen];exact hz)
 rw [hlen]
 refine ⟨.ref s.heap.objs.size,_,I.laid (t':=s.toks) (o:=.tup (Zn xs lo hi)) (λ b ob q=>Heap.get?_push_of_some _ q) (Nat.le_refl _) ?_,rfl,q _ (I.hok.fresh (Nat.le_refl _))⟩
 exact ⟨Nat.le_trans (SH xs lo hi) hz,_,(r.drop (HT.qa xs.length 0 lo)).take (HT.qa xs.length xs.length hi - HT.qa xs.length 0 lo),wI.new _ _⟩
noncomputable def Uo (K:Frag):R2:=λ x y H Q=>∃a b xs ys,x=.ref a/\y=.ref b/\qd K H a xs/\qd K H b ys/\xs≠[]/\xs.length+ys.length<=sizeLine/\
 (ys=[]->Q (.ref a) H)/\(ys≠[]->∀p,H p=none->Q (.ref p) (upd H p (.tup (xs++ys))))
theorem Vals.nil_iff {xs:List V}{us:List Value}(r:Vals xs us):us=[]↔xs=[]:=by
 cases r with
 | nil=>simp
 | cons _ _=>simp
theorem OM:qj X (binaryOp .Add) (Uo X.K):=by
 intro pins s σ H x y v u Q I rx ry h
 obtain ⟨a,b,xs,ys,rfl,rfl,ha,hb,hx,hz,q1,q2⟩:=h
 cases rx
 cases ry
 obtain ⟨its,r1,p1,_⟩:=I.tuple ha
 obtain ⟨its2,r2,p2,_⟩:=I.tuple hb
 refine HT.NH p1 p2 (λ z=>hx (r1.nil_iff.mp z)) (λ z=>⟨.ref a,H,I,rfl,q1 (r2.nil_iff.mp z)⟩) (λ z=>?_) (by rw [<- r1.length,<- r2.length];exact hz)
 refine ⟨.ref s.heap.objs.size,_,I.laid (t':=s.toks) (o:=.tup (xs++ys)) (λ b ob q=>Heap.get?_push_of_some _ q) (Nat.le_refl _) ?_,rfl,q2 (λ w=>z (r2.nil_iff.mpr w)) _ (I.hok.fresh (Nat.le_refl _))⟩
 exact ⟨by rw [List.length_append];exact hz,_,r1.append r2,wI.new _ _⟩
end
noncomputable def kz (n:Nat)(i:Int):Option Nat:=if 0<=i then (if i<n then some i.toNat else none) else if -(n:Int)<=i then some (i+n).toNat else none
noncomputable def yO {α:Type}(xs:List α)(i:Int):Option α:=(kz xs.length i).bind λ j=>xs[j]?
theorem Vx {n:Nat}{i:Int}{j:Nat}(h:kz n i=some j):seqIndex? i n=some j/\j<n/\-(n:Int)<=i/\i<n:=by
 unfold kz at h
 by_cases h0:0<=i
 ·rw [if_pos h0] at h
  by_cases h1:i<n
  ·rw [if_pos h1] at h
   have e:i.toNat=j:=Option.some.inj h
   exact ⟨by rw [seqIndex_of h0 h1,e],by omega,by omega,h1⟩
  ·rw [if_neg h1] at h;cases h
 ·rw [if_neg h0] at h
  by_cases h1:-(n:Int)<=i
  ·rw [if_pos h1] at h
   have e:(i+n).toNat=j:=Option.some.inj h
   exact ⟨by rw [seqIndex_neg (by omega) h1,e],by omega,h1,by omega⟩
  ·rw [if_neg h1] at h;cases h
theorem KU {α:Type}{xs:List α}{i:Int}{v:α}(h:yO xs i=some v):∃j,seqIndex? i xs.length=some j/\xs[j]? =some v/\j<xs.length/\-(xs.length:Int)<=i/\i<xs.length:=by
 unfold yO at h
 cases e:kz xs.length i with
 | none=>rw [e] at h;cases h
 | some j=>
  rw [e] at h
  obtain ⟨h1,h2,h3,h4⟩:=Vx e
  exact ⟨j,h1,h,h2,h3,h4⟩
theorem Ji {α:Type}{xs:List α}{j:Nat}{v:α}(h:xs[j]? =some v):yO xs (j:Int)=some v:=by
 have hj:j<xs.length:=(List.getElem?_eq_some_iff.mp h).1
 have e:kz xs.length (j:Int)=some j:=by
  unfold kz
  rw [if_pos (by omega),if_pos (by omega)];simp
 unfold yO;rw [e];exact h
noncomputable def Vs (b:Expr):Prop:=∀o i,subscripted b false o i=operate [o,i] (getItem o i)
noncomputable def w6 (X:Cx)(r:R2):Prop:=
 ∀(value slice:Expr) (pins:List (Addr × Obj)) (s:Shared) (σ:St) (H:Hp) (x y:V) (v u:Value) (Q:VK),Inv X pins σ H s->RelV x v->RelV y u->r x y H Q->
  subscripted slice false v u=operate [v,u] (getItem v u)->wpAny (model X.prog X.w) X.A (subscriptTail value slice v u) (EP X pins σ Q) X.xe s
noncomputable def UT (X:Cx)(id:String)(r:V->List V->Hp->VK->Prop):Prop:=
 ∀(pins:List (Addr × Obj)) (s:Shared) (σ:St) (H:Hp) (x:V) (xs:List V) (v:Value) (us:List Value) (Q:VK),Inv X pins σ H s->RelV x v->Vals xs us->r x xs H Q->
  wpAny (model X.prog X.w) X.A (call (.builtin id) (v::us)) (EP X pins σ Q) X.xe s
section
variable {X:Cx}{a b:Expr}{ta tb:TE}{pos:Pos}
theorem w6.or {r r':R2}(h:w6 X r)(h':w6 X r'):w6 X (λ x y H Q=>r x y H Q∨r' x y H Q):=by
 intro value slice pins s σ H x y v u Q I rx ry q hs
 rcases q with q | q
 ·exact h value slice pins s σ H x y v u Q I rx ry q hs
 ·exact h' value slice pins s σ H x y v u Q I rx ry q hs
theorem L6 {r:R2}(hr:w6 X r)(ha:PE X a ta)(hb:PE X b tb)(hs:Vs b):PE X (.Subscript a b pos) (QF r ta tb):=by
 intro pins s σ H Q I h
 exact Subscript_ (Gg ha hb I h λ v u s2 x y H2 I2 rx ry q=>hr a b pins s2 σ H2 x y v u Q I2 rx ry q (hs _ _))
noncomputable def UE (K:Frag):R2:=λ x y H Q=>∃p xs i v,x=.ref p/\y=.int i/\qx K H p xs/\yO xs i=some v/\Q v H
noncomputable def UI (K:Frag):R2:=λ x y H Q=>∃p xs i v,x=.ref p/\y=.int i/\qd K H p xs/\yO xs i=some v/\Q v H
noncomputable def Us:R2:=λ x y H Q=>∃z i c,x=.str z/\y=.int i/\z.length<=sizeLine/\yO z.cps.toList i=some c/\Q (.str ⟨#[c]⟩) H
theorem Nq:w6 X (UE X.K):=by
 intro value slice pins s σ H x y v u Q I rx ry h hs
 obtain ⟨p,xs,i,z,rfl,rfl,hq,he,q⟩:=h
 cases rx
 obtain ⟨t,rfl⟩:=ry
 obtain ⟨its,r,pl,hz⟩:=I.list hq
 obtain ⟨j,h1,h2,h3,h4,h5⟩:=KU he
 obtain ⟨w,ew,rw'⟩:=r.get h2
 have hl:=r.length
 have hn:=ZP
 have fin:EP X pins σ Q w s:=⟨z,H,I,rw',q⟩
 by_cases h0:0<=i
 ·have hj:i.toNat=j:=by
   rw [seqIndex_of h0 h5] at h1
   exact Option.some.inj h1
  exact item_listR pl.isList h0 (by omega) (by rw [hj];simpa using ew) fin hs
 ·have hj:(i+(its.toArray.size:Int)).toNat=j:=by
   rw [seqIndex_neg (by omega) h4] at h1
   rw [List.size_toArray,<- hl]
   exact Option.some.inj h1
  exact subscriptTail_builtinR (x:=w) pl.isList.typeIs slot_list_getitem.lookup
   (wpAny_getItem_list_neg (Q:=λ r s'=>r=w/\EP X pins σ Q r s') pl.isList (by omega) (by rw [List.size_toArray]<;>omega) (by omega) (by rw [hj];simpa using ew) ⟨rfl,fin⟩) hs
theorem Ls:w6 X (UI X.K):=by
 intro value slice pins s σ H x y v u Q I rx ry h hs
 obtain ⟨p,xs,i,z,rfl,rfl,hq,he,q⟩:=h
 cases rx
 obtain ⟨t,rfl⟩:=ry
 obtain ⟨its,r,pl,hz⟩:=I.tuple hq
 obtain ⟨j,h1,h2,h3,h4,h5⟩:=KU he
 obtain ⟨w,ew,rw'⟩:=r.get h2
 have hl:=r.length
 have hn:=ZP
 have fin:EP X pins σ Q w s:=⟨z,H,I,rw',q⟩
 exact subscriptTail_builtinR (x:=w) pl.typeIs slot_tuple_getitem.lookup
  (getItem_tuple (j:=j) (Q:=λ r s'=>r=w/\EP X pins σ Q r s') pl (by omega) (by omega) (by rw [List.size_toArray,<- hl];exact h1) (by simpa using ew) ⟨rfl,fin⟩) hs
theorem MR:w6 X Us:=by
 intro value slice pins s σ H x y v u Q I rx ry h hs
 obtain ⟨z,i,c,rfl,rfl,hz,he,q⟩:=h
 obtain ⟨t,rfl⟩:=rx
 obtain ⟨t',rfl⟩:=ry
 obtain ⟨j,h1,h2,h3,h4,h5⟩:=KU he
 have hl:z.cps.toList.length=z.length:=by simp [Str.length]
 rw [hl] at h1 h4 h5
 have hn:=ZP
 exact tail_any (typeIs_str s z t) slot_str_getitem.lookup (getItem_str (c:=c) (by
  have e1:decide (i < -(2 ^ 63:Int))=false:=decide_eq_false (by omega)
  have e2:decide (i ≥ 2 ^ 63)=false:=decide_eq_false (by omega)
  rw [e1,e2,Bool.or_false]) (by rw [h1];simpa using h2) ⟨.str ⟨#[c]⟩,H,I.tok _,⟨_,rfl⟩,q⟩) hs
noncomputable def UJ (K:Frag):R2:=λ x y H Q=>UE K x y H Q∨UI K x y H Q∨Us x y H Q
theorem MK:w6 X (UJ X.K):=Nq.or (Ls.or MR)
theorem SY (its:List Value)(n j:Nat)(u:Value):Obj.mapSeq (·.setIfInBounds j u) { cls:=.type "list",data:=.seq its.toArray n }={ cls:=.type "list",data:=.seq (its.set j u).toArray n }:=by
 simp [Obj.mapSeq]
theorem Inv.lst {pins:List (Addr × Obj)}{σ:St}{H:Hp}{s:Shared}{p:Addr}{xs:List V}(I:Inv X pins σ H s)(h:H p=some (.lst xs)):
  ∃(its:List Value) (n:Nat),Vals xs its/\s.heap.get? p=some { cls:=.type "list",data:=.seq its.toArray n }/\xs.length<=sizeLine:=by
 obtain ⟨z,its,n,r,e⟩:=I.hok p _ h
 exact ⟨its,n,r,e,z⟩
theorem Inv.lstUpd {pins:List (Addr × Obj)}{σ:St}{H:Hp}{s:Shared}{p:Addr}{xs ys:List V}{its its':List Value}{n n':Nat}{f:Obj->Obj}(I:Inv X pins σ H s)(h:H p=some (.lst xs))
  (ho:s.heap.get? p=some { cls:=.type "list",data:=.seq its.toArray n })(hf:f { cls:=.type "list",data:=.seq its.toArray n }={ cls:=.type "list",data:=.seq its'.toArray n' })(r:Vals ys its')(hz:ys.length<=sizeLine)(t:Nat):
  Inv X pins σ (upd H p (.lst ys)) { s with heap:=s.heap.update p f,toks:=t }:=by
 have e:(s.heap.update p f).get? p=some { cls:=.type "list",data:=.seq its'.toArray n' }:=by
  rw [Heap.get?_update_self f ho (by rw [hf]<;>rfl),hf]
 refine I.write (x:=p) (e:=p) (by rw [h];trivial) (.inl rfl) (λ b u hb q=>(Heap.get?_update_other _ _ (Ne.symm hb)).trans q) ⟨_,e⟩ ?_
 exact ⟨hz,its',n',r,e⟩
noncomputable def Ub:V->V->V->Hp->(Hp->Prop)->Prop:=λ o i v H Q=>∃p xs k j,o=.ref p/\i=.int k/\H p=some (.lst xs)/\kz xs.length k=some j/\Q (upd H p (.lst (xs.set j v)))
theorem set_list:JJ X Ub:=by
 intro pins s σ H o i v ov iv u Q I ro ri rv h
 obtain ⟨p,xs,k,j,rfl,rfl,hp,hj,q⟩:=h
 cases ro
 obtain ⟨t,rfl⟩:=ri
 obtain ⟨its,n,r,ho,hz⟩:=I.lst hp
 obtain ⟨h1,h2,h3,h4⟩:=Vx hj
 have hl:=r.length
 have hn:=ZP
 have I':Inv X pins σ (upd H p (.lst (xs.set j v))) { s with heap:=s.heap.update p (Obj.mapSeq (·.setIfInBounds j u)) }:=
  I.lstUpd hp ho (SY its n j u) (r.set rv j) (by rw [List.length_set];exact hz) s.toks
 by_cases h0:0<=k
 ·have hk:k.toNat=j:=by
   rw [seqIndex_of h0 h4] at h1
   exact Option.some.inj h1
  exact PySem.W.ki_setAt ho h0 (by omega) (by rw [List.size_toArray,<- hl];exact h4) (by rw [hk];exact ⟨_,I',q⟩)
 ·have hk:(k+(its.toArray.size:Int)).toNat=j:=by
   rw [seqIndex_neg (by omega) h3] at h1
   rw [List.size_toArray,<- hl]
   exact Option.some.inj h1
  exact PySem.W.ki_setBack ho (by omega) (by rw [List.size_toArray,<- hl];exact h3) (by omega) (by rw [hk];exact ⟨_,I',q⟩)
noncomputable def wc:V->Bool
 | .non=>true
 | .bl _=>true
 | .int _=>true
 | .str _=>true
 | _=>false
noncomputable def wY:V->V->Bool
 | .non,.non=>true
 | .bl a,.bl b=>a==b
 | .bl a,.int b=>(if a then 1 else 0)==b
 | .int a,.bl b=>a==(if b then 1 else 0)
 | .int a,.int b=>a==b
 | .str a,.str b=>a==b
 | _,_=>false
theorem MH {A:Around}{s:Shared}{y x:V}{u v:Value}(ry:RelV y u)(rx:RelV x v)(fy:wc y=true)(fx:wc x=true):SeqAt.EqAt A s u v (wY y x):=by
 cases y with
 | non=>
  cases ry
  cases x with
  | non=>cases rx;exact SeqAt.EqAt.same _
  | bl b=>cases rx;exact SeqAt.EqAt.none_bool b
  | int b=>obtain ⟨t,rfl⟩:=rx;exact SeqAt.EqAt.none_int b t
  | str b=>obtain ⟨t,rfl⟩:=rx;exact SeqAt.EqAt.none_str b t
  | _=>exact absurd (show false=true from fx) Bool.false_ne_true
 | bl a=>
  cases ry
  cases x with
  | non=>cases rx;exact SeqAt.EqAt.bool_none a
  | bl b=>cases rx;exact SeqAt.EqAt.bool_bool a b
  | int b=>obtain ⟨t,rfl⟩:=rx;exact SeqAt.EqAt.bool_int a b t
  | str b=>obtain ⟨t,rfl⟩:=rx;exact SeqAt.EqAt.bool_str a b t
  | _=>exact absurd (show false=true from fx) Bool.false_ne_true
 | int a=>
  obtain ⟨t',rfl⟩:=ry
  cases x with
  | non=>cases rx;exact SeqAt.EqAt.int_none a t'
  | bl b=>cases rx;exact SeqAt.EqAt.int_bool a t' b
  | int b=>obtain ⟨t,rfl⟩:=rx;exact SeqAt.EqAt.int_int a t' b t
  | str b=>obtain ⟨t,rfl⟩:=rx;exact SeqAt.EqAt.int_str a t' b t
  | _=>exact absurd (show false=true from fx) Bool.false_ne_true
 | str a=>
  obtain ⟨t',rfl⟩:=ry
  cases x with
  | non=>cases rx;exact SeqAt.EqAt.str_none a t'
  | bl b=>cases rx;exact SeqAt.EqAt.str_bool a t' b
  | int b=>obtain ⟨t,rfl⟩:=rx;exact SeqAt.EqAt.str_int a t' b t
  | str b=>obtain ⟨t,rfl⟩:=rx;exact SeqAt.EqAt.str_str a t' b t
  | _=>exact absurd (show false=true from fx) Bool.false_ne_true
 | _=>exact absurd (show false=true from fy) Bool.false_ne_true
noncomputable def w5 (x:V)(u:Value):Bool:=match u with
 | .none=>wY .non x
 | .bool b=>wY (.bl b) x
 | .int i _=>wY (.int i) x
 | .str z _=>wY (.str z) x
 | _=>false
theorem VR {x y:V}{u:Value}(r:RelV y u)(f:wc y=true):w5 x u=wY y x:=by
 cases y with
 | non=>cases r;rfl
 | bl b=>cases r;rfl
 | int i=>obtain ⟨t,rfl⟩:=r;rfl
 | str z=>obtain ⟨t,rfl⟩:=r;rfl
 | _=>exact absurd (show false=true from f) Bool.false_ne_true
theorem Wa {x:V}:∀{xs:List V} {us:List Value},Vals xs us->xs.all wc=true->us.any (w5 x)=xs.any λ y=>wY y x
 | _,_,.nil,_=>rfl
 | y::xs,u::us,.cons r t,f=>by
  rw [List.all_cons,Bool.and_eq_true] at f
  rw [List.any_cons,List.any_cons,VR r f.1,Wa t f.2]
theorem KJ {A:Around}{s:Shared}{x:V}{v:Value}(rx:RelV x v)(fx:wc x=true):∀{xs:List V} {us:List Value},Vals xs us->xs.all wc=true->∀u∈us,SeqAt.EqAt A s u v (w5 x u)
 | _,_,.nil,_=>λ u hu=>by cases hu
 | y::xs,u::us,.cons r t,f=>λ u' hu=>by
  rw [List.all_cons,Bool.and_eq_true] at f
  rcases List.mem_cons.mp hu with rfl | hu
  ·rw [VR r f.1];exact MH r rx f.1 fx
  ·exact KJ rx fx t f.2 u' hu
noncomputable def JY (x:V)(xs:List V):Bool:=xs.any λ y=>wY y x
noncomputable def UM (K:Frag)(neg:Bool):R2:=λ x y H Q=>∃p xs,y=.ref p/\(qx K H p xs∨qd K H p xs)/\wc x=true/\xs.all wc=true/\Q (.bl (if neg then !JY x xs else JY x xs)) H
theorem Rw:qj X (compareOp .In) (UM X.K false):=by
 intro pins s σ H x y v u Q I rx ry h
 obtain ⟨p,xs,rfl,hq,fx,fs,q⟩:=h
 cases ry
 rcases hq with hq | hq
 ·obtain ⟨its,r,pl,hz⟩:=I.list hq
  refine SeqAt.in_listAt (w5 x) pl.isList (λ w hw=>KJ rx fx r fs w (by simpa using hw)) ⟨.bl _,H,I,rfl,?_⟩
  rw [show its.toArray.any (w5 x)=its.any (w5 x) by simp,Wa r fs]
  exact q
 ·obtain ⟨its,r,pl,hz⟩:=I.tuple hq
  refine SeqAt.in_tupleAt (w5 x) pl (λ w hw=>KJ rx fx r fs w (by simpa using hw)) ⟨.bl _,H,I,rfl,?_⟩
  rw [show its.toArray.any (w5 x)=its.any (w5 x) by simp,Wa r fs]
  exact q
theorem T8:jx X (.builtin "len") (λ xs H Q=>∃p ys,xs=[.ref p]/\(qx X.K H p ys∨qd X.K H p ys)/\Q (.int ys.length) H):=by
 intro pins s σ H xs us Q I r h
 obtain ⟨p,ys,rfl,hq,q⟩:=h
 obtain ⟨u,rfl,rx⟩:=vals1 r
 cases rx
 have hn:=ZP
 rcases hq with hq | hq
 ·obtain ⟨its,r',pl,hz⟩:=I.list hq
  have hlen:=r'.length
  exact Calls.call_len_list pl.isList (by simp only [List.size_toArray]<;>omega) ⟨.int ys.length,H,I.tok _,⟨s.toks+1,by rw [List.size_toArray,hlen]⟩,q⟩
 ·obtain ⟨its,r',pl,hz⟩:=I.tuple hq
  have hlen:=r'.length
  exact len_tuple pl (by simp only [List.size_toArray]<;>omega) ⟨.int ys.length,H,I.tok _,⟨s.toks+1,by rw [List.size_toArray,hlen]⟩,q⟩
theorem T5:jx X (.type "list") (λ xs H Q=>∃p ys,xs=[.ref p]/\(qx X.K H p ys∨qd X.K H p ys)/\∀l,H l=none->Q (.ref l) (upd H l (.lst ys))):=by
 intro pins s σ H xs us Q I r h
 obtain ⟨p,ys,rfl,hq,q⟩:=h
 obtain ⟨u,rfl,rx⟩:=vals1 r
 cases rx
 have fin:∀(its:List Value),Vals ys its->ys.length<=sizeLine->∀(h':Heap) (c':Nat),(∀b o',s.heap.get? b=some o'->h'.get? b=some o')->
   h'.get? s.heap.objs.size=some { cls:=.type "list",dict:=none,data:=.seq its.toArray c',slots:=#[] }->EP X pins σ Q (.ref s.heap.objs.size) { s with heap:=h' }:=λ its r' hz h' c' kp e=>
  ⟨.ref s.heap.objs.size,_,I.laid (t':=s.toks) kp (Nat.le_refl _) (show qP X.prog X.w _ h' _ (.lst ys) from ⟨hz,its,c',r',e⟩),rfl,q _ (I.hok.fresh (Nat.le_refl _))⟩
 rcases hq with hq | hq
 ·obtain ⟨its,r',pl,hz⟩:=I.list hq
  have hlen:=r'.length
  obtain ⟨o,ho,hc,n,hd⟩:=pl.isList
  exact call_list_seq p (.inl rfl) ho hc hd (λ h' c' kp e=>fin its r' hz h' c' kp e) (by simp only [List.size_toArray]<;>omega)
 ·obtain ⟨its,r',pl,hz⟩:=I.tuple hq
  have hlen:=r'.length
  obtain ⟨o,ho,hc,n,hd⟩:=pl
  exact call_list_seq p (.inr rfl) ho hc hd (λ h' c' kp e=>fin its r' hz h' c' kp e) (by simp only [List.size_toArray]<;>omega)
theorem Tz:jx X (.type "tuple") (λ xs H Q=>∃p ys,xs=[.ref p]/\((qx X.K H p ys/\∀l,H l=none->Q (.ref l) (upd H l (.tup ys)))∨(qd X.K H p ys/\Q (.ref p) H))):=by
 intro pins s σ H xs us Q I r h
 obtain ⟨p,ys,rfl,h⟩:=h
 obtain ⟨u,rfl,rx⟩:=vals1 r
 cases rx
 rcases h with ⟨hq,q⟩ | ⟨hq,q⟩
 ·obtain ⟨its,r',pl,hz⟩:=I.list hq
  have hlen:=r'.length
  refine call_tuple_list pl.isList (λ h' kp=>?_) (by simp only [List.size_toArray]<;>omega)
  have I1:Inv X pins σ H { s with heap:=h' }:=I.kept (t':=s.toks) kp
  have I2:Inv X pins σ (upd H h'.objs.size (.tup ys)) { s with heap:=h'.push { cls:=.type "tuple",data:=.seq its.toArray } }:=
   I1.laid (t':=s.toks) (λ b o e=>Heap.get?_push_of_some _ e) (Nat.le_refl _) (show qP X.prog X.w _ _ _ (.tup ys) from ⟨hz,its,r',wI.new _ _⟩)
  exact ⟨.ref h'.objs.size,_,I2,rfl,q _ (I1.hok.fresh (Nat.le_refl _))⟩
 ·obtain ⟨its,r',pl,hz⟩:=I.tuple hq
  exact call_tuple_same pl ⟨.ref p,H,I,rfl,q⟩
noncomputable def GD (K:Frag)(T:String)(x:V)(H:Hp):Prop:=match x with
 | .str _=>T = "str"
 | .int _=>T = "int"
 | .ref p=>(T = "list" /\ ∃xs,qx K H p xs)∨(T = "tuple" /\ ∃o,K.lookup p=some o/\o.cls=.type "tuple" /\ o.dict=none)∨
   (T = "dict" /\ ((∃kvs,H p=some (.dK kvs))∨∃kvs,H p=some (.dT kvs)))∨(T = "set" /\ ∃S n,H p=some (.set S n))
 | _=>False
theorem Mm {pins:List (Addr × Obj)}{σ:St}{H:Hp}{s:Shared}{T:String}{x:V}{v:Value}(I:Inv X pins σ H s)(r:RelV x v)(ty:GD X.K T x H):
  s.TypeIs v T/\∀a,v=.ref a->∃ob,s.heap.get? a=some ob/\ob.dict=none:=by
 cases x with
 | str z=>
  obtain ⟨t,rfl⟩:=r
  cases (show T = "str" from ty)
  exact ⟨typeIs_str s z t,λ _ e=>nomatch e⟩
 | int i=>
  obtain ⟨t,rfl⟩:=r
  cases (show T = "int" from ty)
  exact ⟨typeIs_int s i t,λ _ e=>nomatch e⟩
 | ref p=>
  cases r
  rcases ty with ⟨rfl,xs,hq⟩ | ⟨rfl,o,hk,hc,hd⟩ | ⟨rfl,hk⟩ | ⟨rfl,S,n,hk⟩
  ·obtain ⟨its,_,pl,_⟩:=I.list hq
   refine ⟨pl.isList.typeIs,λ a e=>?_⟩
   cases e
   obtain ⟨o,n,e,c,hd,_⟩:=pl
   exact ⟨o,e,hd⟩
  ·refine ⟨⟨o,I.kIn p o hk,hc⟩,λ a e=>?_⟩
   cases e
   exact ⟨o,I.kIn _ o hk,hd⟩
  ·have z:∃o,s.heap.get? p=some o/\o.ExactDict:=by
    rcases hk with ⟨kvs,hk⟩ | ⟨kvs,hk⟩
    ·obtain ⟨_,_,_,_,o,_,_,e,ex,_⟩:=I.hok p _ hk
     exact ⟨o,e,ex⟩
    ·obtain ⟨_,_,_,_,o,_,_,e,ex,_⟩:=I.hok p _ hk
     exact ⟨o,e,ex⟩
   obtain ⟨o,e,ex⟩:=z
   refine ⟨⟨o,e,ex.1⟩,λ a e2=>?_⟩
   cases e2
   exact ⟨o,e,ex.2.1⟩
  ·obtain ⟨o,_,_,_,e,ex,_⟩:=I.hok p _ hk
   refine ⟨⟨o,e,ex.1⟩,λ a e2=>?_⟩
   cases e2
   exact ⟨o,e,ex.2.1⟩
 | _=>exact False.elim ty
noncomputable def HB (K:Frag)(T:String)(r:V->List V->Hp->VK->Prop)(to:TE)(t:TA):TE:=λ σ H Q=>to σ H λ x H1=>GD K T x H1/\t σ H1 λ xs H2=>r x xs H2 Q
variable {o e:Expr}{es:List Expr}{to:TE}{t:TA}{name:Str}{apos cpos:Pos}{T id:String}{r:V->List V->Hp->VK->Prop}
theorem Ie (pa:PlainAttrs T)(slot:Slot T name id)(hty:typeOf (.builtin id)=pure (.type "method_descriptor"))(hm:UT X id r)(ho:PE X o to)(ha:PA X (e::es) t)
  (hbase:attributeBase o name X.env (eval o X.env)=eval o X.env:=by rfl)
  (hfew:((backTo cpos (starEach (e::es) X.env)).all (λ x=>!x.1)&&(backToKw cpos (keywordEach [] X.env)).all (λ x=>x.1.isSome)
   && decide ((e::es).length+([]:List Keyword).length+(if ([]:List Keyword).isEmpty then 0 else 1)<30))=true:=by rfl)
  (hline:(apos.endLine==cpos.line)=true:=by rfl)(hs:starEach (e::es) X.env=(false,eval e X.env)::starEach es X.env:=by rfl)(hplain:(backTo cpos (starEach es X.env)).any (·.1)=false:=by rfl):
  PE X (.Call (.Attribute o name apos) (e::es) [] cpos) (HB X.K T r to t):=by
 intro pins s σ H Q I h
 refine wpAny_Call_method_late hbase hfew hline rfl (zO (ho pins s σ H _ I h) λ v s1 ⟨x,H1,I1,r1,ty,q1⟩=>?_)
 obtain ⟨h1,h2⟩:=Mm I1 r1 ty
 refine ⟨T,id,pa,slot,hty,h1,h2,?_⟩
 have hA:=ha cpos pins s1 σ H1 _ I1 q1
 rw [hs] at hA ⊢
 refine Calls.callWith_builtin (by show (false || (backTo cpos (starEach es X.env)).any (·.1))=false;rw [hplain]<;>rfl) (Calls.evalArgs_plain ?_)
 exact zO hA λ us s2 ⟨vs,H2,I2,r2,q2⟩=>hm pins s2 σ H2 x vs v us Q I2 r1 r2 q2
end
noncomputable def Gw (X:Cx)(id:String)(r:V->List V->Hp->VK->Prop):Prop:=
 ∀(pins:List (Addr × Obj)) (s:Shared) (σ:St) (H:Hp) (x:V) (xs:List V) (v:Value) (us:List Value) (Q:VK),Inv X pins σ H s->RelV x v->Vals xs us->r x xs H Q->
  wpAny (model X.prog X.w) X.A (call (.builtin id) (v::us)) (EP X pins σ Q) X.xe s
theorem Vals.one {x:V}{us:List Value}(h:Vals [x] us):∃u,us=[u]/\RelV x u:=by
 cases h with
 | cons r t=>cases t;exact ⟨_,rfl,r⟩
theorem Vals.two {x y:V}{us:List Value}(h:Vals [x,y] us):∃u v,us=[u,v]/\RelV x u/\RelV y v:=by
 cases h with
 | cons r t=>exact (Vals.one t).elim λ v e=>⟨_,v,by rw [e.1],r,e.2⟩
theorem Vals.eraseIdx:∀{xs:List V} {us:List Value} (i:Nat),Vals xs us->Vals (xs.eraseIdx i) (us.eraseIdx i)
 | _,_,_,.nil=>.nil
 | _,_,0,.cons _ t=>t
 | _,_,i+1,.cons r t=>.cons r (Vals.eraseIdx i t)
theorem Vals.rep {xs:List V}{us:List Value}(h:Vals xs us):∀k:Nat,Vals (List.replicate k xs).flatten (List.replicate k us).flatten
 | 0=>.nil
 | k+1=>by
  rw [List.replicate_succ,List.replicate_succ,List.flatten_cons,List.flatten_cons]
  exact Vals.append h (Vals.rep h k)
theorem Xx {α:Type}:∀(l:List α) (i:Nat),(l.eraseIdx i).length<=l.length
 | [],_=>Nat.le_refl _
 | _::_,0=>Nat.le_succ _
 | _::r,i+1=>Nat.succ_le_succ (Xx r i)
theorem foldl_rep (its:List Value):∀(k:Nat) (acc:List Value),
  List.foldl (λ x1 x2=>x1++x2) acc.toArray (List.replicate k its.toArray)=(acc++(List.replicate k its).flatten).toArray
 | 0,acc=>by simp
 | k+1,acc=>by
  have e:acc.toArray++its.toArray=(acc++its).toArray:=by simp
  have e2:(acc++its)++(List.replicate k its).flatten=acc++(List.replicate (k+1) its).flatten:=by
   rw [List.replicate_succ,List.flatten_cons,List.append_assoc]
  rw [<- e2,<- foldl_rep its k (acc++its),<- e,List.replicate_succ,List.foldl_cons]
section
variable {X:Cx}{pins:List (Addr × Obj)}{σ:St}{H:Hp}{s:Shared}{l b:Addr}{xs ys zs:List V}
theorem Inv.lset {its its':List Value}{n:Nat}{f:Array Value->Array Value}{t':Nat}(I:Inv X pins σ H s)(hH:H l=some (.lst xs))
  (e:s.heap.get? l=some { cls:=.type "list",data:=.seq its.toArray n })(hf:f its.toArray=its'.toArray)(hv:Vals ys its')(hz:ys.length<=sizeLine):
  Inv X pins σ (upd H l (.lst ys)) { s with heap:=s.heap.update l (Obj.mapSeq f),toks:=t' }:=by
 have q:=PySem.IsL.update e f
 rw [hf] at q
 refine I.write (x:=l) (e:=l) (by rw [hH];exact trivial) (.inl rfl) (λ b' u hb hu=>(Heap.get?_update_other s.heap (Obj.mapSeq f) (Ne.symm hb)).trans hu) ⟨_,q⟩ ?_
 exact ⟨hz,its',_,hv,q⟩
theorem Inv.lnew {its:List Value}{t':Nat}(I:Inv X pins σ H s)(hv:Vals ys its)(hz:ys.length<=sizeLine):
  Inv X pins σ (upd H s.heap.objs.size (.lst ys)) { s with heap:=s.heap.push { cls:=.type "list",data:=.seq its.toArray },toks:=t' }:=
 I.laid (λ _ _ q=>Heap.get?_push_of_some _ q) (Nat.le_refl _) ⟨hz,its,0,hv,Heap.get?_push_size _ rfl⟩
theorem Inv.fresh (I:Inv X pins σ H s):H s.heap.objs.size=none:=I.hok.fresh (Nat.le_refl _)
theorem Inv.lstM (I:Inv X pins σ H s)(hH:H l=some (.lst xs)):xs.length<=sizeLine/\∃(its:List Value) (n:Nat),Vals xs its/\xs.length=its.length/\s.heap.get? l=some { cls:=.type "list",data:=.seq its.toArray n }:=by
 obtain ⟨z,its,n,r,e⟩:=I.hok l _ hH
 exact ⟨z,its,n,r,r.length,e⟩
theorem P6 {n:Nat}(h:n<=sizeLine):Builtin.List.listTooLong n=false:=by
 unfold Builtin.List.listTooLong
 exact decide_eq_false (by omega)
end
section
variable {X:Cx}
noncomputable def Nm:V->List V->Hp->VK->Prop:=λ x vs H Q=>∃l xs y,x=.ref l/\vs=[y]/\H l=some (.lst xs)/\xs.length<sizeLine/\Q .non (upd H l (.lst (xs++[y])))
theorem XB:Gw X "list.append" Nm:=by
 intro pins s σ H x vs v us Q I rx rv h
 obtain ⟨l,xs,y,rfl,rfl,hH,hz,q⟩:=h
 cases rx
 obtain ⟨u,rfl,ru⟩:=rv.one
 obtain ⟨z,its,n,r,hl,e⟩:=I.lstM hH
 refine call_meets F.slot_list_append ⟨_,e,rfl⟩ F.entry_list_append (F.args_list_append_2 _ _) (PySem.list_append l its.toArray n u (by rw [List.size_toArray];omega)) ⟨e,?_⟩
 refine ⟨.non,_,I.lset (its':=its++[u]) hH e (by simp) (r.append (.cons ru .nil)) ?_,rfl,q⟩
 rw [List.length_append,List.length_singleton]
 omega
noncomputable def Lp:V->List V->Hp->VK->Prop:=λ x vs H Q=>∃l xs i k y,x=.ref l/\vs=[.int i]/\H l=some (.lst xs)/\-(2 ^ 63)<=i/\i<2 ^ 63/\seqIndex? i xs.length=some k/\xs[k]? =some y/\Q y (upd H l (.lst (xs.eraseIdx k)))
theorem PC:Gw X "list.pop" Lp:=by
 intro pins s σ H x vs v us Q I rx rv h
 obtain ⟨l,xs,i,k,y,rfl,rfl,hH,h1,h2,hk,hy,q⟩:=h
 cases rx
 obtain ⟨u,rfl,ru⟩:=rv.one
 obtain ⟨t,rfl⟩:=ru
 obtain ⟨z,its,n,r,hl,e⟩:=I.lstM hH
 obtain ⟨w,hw,rw'⟩:=r.get hy
 refine call_meets F.slot_list_pop ⟨_,e,rfl⟩ F.entry_list_pop (F.args_list_pop_2 _ _)
  (MeetsSeq.list_pop_at l its.toArray n i t k w (fitsIndex_both h1 h2) (by rw [List.size_toArray,<- hl];exact hk) (by rw [<- Array.getElem?_toList];exact hw) (by rw [List.size_toArray];omega)) ⟨e,?_⟩
 refine ⟨y,_,I.lset (its':=its.eraseIdx k) hH e ?_ (r.eraseIdx k) ?_,rw',q⟩
 ·show its.toArray.eraseIdxIfInBounds k=(its.eraseIdx k).toArray
  rw [List.eraseIdxIfInBounds_toArray]
 ·have:=Xx xs k
  omega
noncomputable def UB:R2:=λ x y H Q=>∃l b xs zs,x=.ref l/\y=.ref b/\H l=some (.lst xs)/\H b=some (.lst zs)/\xs.length+zs.length<=sizeLine/\∀p,H p=none->Q (.ref p) (upd H p (.lst (xs++zs)))
theorem LC:qj X (binaryOp .Add) UB:=by
 intro pins s σ H x y v u Q I rx ry h
 obtain ⟨l,b,xs,zs,rfl,rfl,hH,hB,hz,q⟩:=h
 cases rx
 cases ry
 obtain ⟨z,its,n,r,hl,e⟩:=I.lstM hH
 obtain ⟨z2,its2,n2,r2,hl2,e2⟩:=I.lstM hB
 refine PySem.P.add_list e e2 ?_ (by rw [List.size_toArray,List.size_toArray];omega)
 have ea:its.toArray++its2.toArray=(its++its2).toArray:=by simp
 rw [ea]
 exact ⟨.ref _,_,I.lnew (t':=s.toks) (r.append r2) (by rw [List.length_append];omega),rfl,q _ I.fresh⟩
noncomputable def Uv:R2:=λ x y H Q=>∃l k xs,x=.ref l/\y=.int k/\H l=some (.lst xs)/\-(2 ^ 63)<=k/\k<2 ^ 63/\xs.length * k.toNat<=sizeLine/\
 ∀p,H p=none->Q (.ref p) (upd H p (.lst (List.replicate k.toNat xs).flatten))
theorem len_rep {α:Type}(xs:List α)(k:Nat):(List.replicate k xs).flatten.length=k * xs.length:=by
 induction k with
 | zero=>simp
 | succ k ih=>rw [List.replicate_succ,List.flatten_cons,List.length_append,ih,Nat.succ_mul,Nat.add_comm]
theorem Ld:qj X (binaryOp .Mult) Uv:=by
 intro pins s σ H x y v u Q I rx ry h
 obtain ⟨l,k,xs,rfl,rfl,hH,h1,h2,hz,q⟩:=h
 cases rx
 obtain ⟨t,rfl⟩:=ry
 obtain ⟨z,its,n,r,hl,e⟩:=I.lstM hH
 have hlen:its.toArray.size * k.toNat<=sizeLine:=by rw [List.size_toArray,<- hl];exact hz
 have hcap:¬its.toArray.size * k.toNat > (2 ^ 63 - 1) / 8:=by
  have:(sizeLine:Nat)<=(2 ^ 63 - 1) / 8:=by decide
  omega
 have hfit:¬(!Builtin.List.listFitsIndex k)=true:=by
  rw [fitsIndex_both h1 h2]
  exact Bool.false_ne_true
 have hlong:¬Builtin.List.listTooLong (its.toArray.size * k.toNat)=true:=by
  rw [P6 hlen]
  exact Bool.false_ne_true
 have hnew:List.foldl (λ x1 x2=>x1++x2) #[] (List.replicate (if its.toArray.isEmpty=true then 0 else k.toNat) its.toArray)=(List.replicate k.toNat its).flatten.toArray:=by
  have f0:∀m:Nat,List.foldl (λ x1 x2=>x1++x2) #[] (List.replicate m its.toArray)=(List.replicate m its).flatten.toArray:=λ m=>by
   have:=foldl_rep its m []
   rw [List.nil_append] at this
   exact this
  rw [f0]
  cases its with
  | nil=>simp
  | cons a r'=>rw [if_neg (by simp)]
 refine wpAny_binaryOp_repeat_ref (T := "list") (U := "int") (by decide) ⟨_,e,rfl⟩ (λ s'=>typeIs_int s' k t) noFill_list_mul F.fills_int_mul F.slot_int_rmul repeat_list F.slot_int_index.lookup
  (call_meets F.slot_int_rmul (typeIs_int s k t) F.entry_int_rmul (F.args_int_rmul_2 _ _) (int___rmul___int_list k t l its.toArray n)
   ⟨e,rfl,⟨_,e,rfl⟩,call_meets F.slot_list_mul ⟨_,e,rfl⟩ F.entry_list_mul (F.args_list_mul_2 _ _) (AutoListH.list___mul___list_int_3 l its.toArray n k t hfit hcap hlong) ⟨e,?_⟩⟩)
 rw [hnew]
 exact ⟨.ref _,_,I.lnew (t':=s.toks) (r.rep k.toNat) (by rw [len_rep,Nat.mul_comm];exact hz),rfl,q _ I.fresh⟩
end
section
variable {prog:Program}{w:World}{A:Around}{E:Value->Shared->Prop}{s:Shared}
set_option maxRecDepth 100000 in
end
section
variable {X:Cx}
end
end L2
namespace Att
open PySem PySem.W PySem.Calls PyProof.Rows
theorem Tn {P:Params}{h:Heap}:∀(ns:List Int) (vs:List Value),WellAll P h vs (ns.map WData.int)->IntsAre vs ns:=by
 intro ns
 induction ns with
 | nil=>
  intro vs w
  rw [List.map_nil] at w
  cases w
  exact .nil
 | cons n ns ih=>
  intro vs w
  rw [List.map_cons] at w
  cases w with
  | cons a b=>
   cases a
   exact .cons _ _ (ih _ b)
theorem R0 {l:OpenLaw}{n:Nat}(hn:l.most=some n){P:Params}{h:Heap}{args:List WData}{vals:List Value}
  (hpre:l.row.toRowW.claim.pre args=true)(hwl:WellAll P h vals args):
  ∃a vs ns,vals=[Value.ref a]/\args=[WData.list (ns.map WData.int)]/\h.get? a=some { cls:=.type "list",data:=.seq vs.toArray }/\IntsAre vs ns/\ns.length<=n:=by
 have hsh:WShape.hasAll [] args [.list .int]=true:=(pre_splitW hpre).1
 have hc:l.pre.holds [] { args:=args }=true:=(pre_splitW hpre).2
 obtain ⟨d,r,rfl,h1,h2⟩:=hasAllW_cons hsh
 obtain rfl:=hasAllW_nil h2
 obtain ⟨xs,rfl,h3⟩:=hasW_list h1
 obtain ⟨ns,rfl⟩:=items_int h3
 have hlen:ns.length<=n:=by
  unfold OpenLaw.pre at hc
  have h4:(WTm.not (.lt (.lit (.int (n:Int))) (.len (.arg 0)))).holds [] { args:=[.list (ns.map .int)] }=true:=by
   have h4:=(holds_andW hc).1
   rw [hn] at h4
   exact h4
  have h5:=condW_of h4 (w_not (w_lt w_lit (w_len_list (w_arg rfl))))
  rw [List.length_map] at h5
  refine Nat.le_of_not_lt λ q=>?_
  have q':(n:Int)<((ns.length:Nat):Int):=by omega
  first
   | (rw [decide_eq_true q'] at h5;exact absurd h5 (by decide))
   | (simp at h5;omega)
 cases hwl with
 | cons w1 w2=>
  cases w2
  cases w1 with
  | list ho hall=>exact ⟨_,_,ns,rfl,rfl,ho,Tn ns _ hall,hlen⟩
theorem RX (l:OpenLaw)(args:List WData):l.row.toRowW.claim.post args (.bool true) args=true:=
 postW_of (r:=l.row.toRowW) (X:=(true==true))
  (show WShape.has [] (.bool true) .bool=true by first | rfl | decide | simp [WShape.has,WShape.arms,WShape.armsAll])
  (show (WTm.eq .res (.lit (.bool true))).value [] { args:=args,res:=some (.bool true),after:=args }=some (.bool (true==true)) from w_eq_bool (w_res rfl) w_lit) rfl
theorem Sx {l:OpenLaw}{n:Nat}{q:Program}{loose:List Str}{XP:(Str->Option Value)->Heap->Prop}{YP:World->Heap->Prop}{d:DefRec}
  (hn:l.most=some n)(hdf:d.params.defaults=[])
  (call:∀(w:World) (s₀ s₁:Shared) (mg mb:Str->Option Value) (fa:Addr) (o:Obj) (pm cd doc:Value) (a:Addr) (vs:List Value) (ns:List Int),
   Ground q loose [] XP w s₀ mg mb s₁.heap->YP w s₁.heap->
   s₁.heap.get? fa=some o->o.data=.func (docDef d.name d.params d.body d.scope pm cd doc)->s₁.heap.CodeRec cd d.name->mg d.name=some (.ref fa)->
   s₁.heap.get? a=some { cls:=.type "list",data:=.seq vs.toArray }->IntsAre vs ns->ns.length<=n->s₁.gens=#[]->
   codeAny (model l.prog w) callerA (.call (.ref fa) ⟨[.ref a],[]⟩) (λ r s'=>r=.ok (.ret (.bool true))/\OldK s₁.heap s'.heap/\s'.os=s₁.os/\AllBare s'.gens) s₁):
  WalkO q loose XP YP l.row.toRowW d [] (λ f vs=>PySem.call f vs):=by
 intro w s₀ s₁ mg mb G Y fa o pm cd doc dV kV ho hd hcd hD hmg hg args vals as hpre hlay hrd hwl hlo
 obtain rfl:dV=.none:=Dflts.none hD hdf
 obtain rfl:kV=.none:=Dflts.noKw hD
 obtain ⟨a,vs,ns,rfl,rfl,hobj,hints,hlen⟩:=R0 hn hpre hwl
 refine enter_call (codeAny_mono (call w s₀ s₁ mg mb fa o pm cd doc a vs ns G Y ho (fd_plain hd) hcd hmg hobj hints hlen hg) λ r s' hq=>?_)
 obtain ⟨rfl,h2,h3,h4⟩:=hq
 exact ⟨.inl ⟨.bool true,.bool true,[],rfl,λ _=>rfl,.bool true,RX l _,λ _=>⟨List.Pairwise.nil,λ _ hm=>(nomatch hm)⟩⟩,h2,h3,h4⟩
section
variable {prog:Program}{w:World}{A:Around}{E:Value->Shared->Prop}{s:Shared}{K:Frag}
end
end Att
namespace L2
open PySem PySem.Spec PyProof.Rows
theorem ZD:∀{vs:List Value} {ns:List Int},IntsAre vs ns->Vals (ns.map V.int) vs
 | _,_,.nil=>.nil
 | _,_,.cons n t h=>.cons ⟨t,rfl⟩ (ZD h)
noncomputable def JI (H:Hp):Prop:=∀b,H b=none∨∃o xs,H b=some (.frz o (.lst xs))
theorem PQ {P:Program}{w:World}{K:Frag}{mg mb:Str->Option Value}{CX:y6}{k:Nat}{fa a:Addr}{fd:FuncData}{x:Str}{sp:Sp}{s₁:Shared}{vs:List Value}{ns:List Int}
  (KX:K.In s₁.heap)(hns:s₁.heap.Ns mainGlobals mg)(hb:s₁.heap.Ns builtinsNs mb)(hbb:∀x:Str,x ≠ "__name__" -> mb x=bootBuiltins x)(hlim:s₁.heap.NoLimit)(hg:s₁.gens=#[])
  (ha:s₁.heap.get? a=some { cls:=.type "list",data:=.seq vs.toArray })(hi:IntsAre vs ns)(hl:ns.length<=sizeLine)(hr:jo k callerA)
  (F:∀base:Heap,K.In base->base.Ns mainGlobals mg->yi P w K mg base CX k fa fd [x] sp)(hbind:∀(s:Shared) (u:Value),BindsTo s fd ⟨[u],[]⟩ [(x,u)])
  (hsp:∀H:Hp,JI H->qx K H a (ns.map V.int)->sp [.ref a] H (λ v _=>v=.bl true) λ _ _ _=>False)
  (hCX:∀H e s',CX [] H s₁ (λ _ _ _=>False) e s'->False):
  codeAny (model P w) callerA (.call (.ref fa) ⟨[.ref a],[]⟩) (λ r s'=>r=.ok (.ret (.bool true))/\OldK s₁.heap s'.heap/\s'.os=s₁.os/\AllBare s'.gens) s₁:=by
 have rv:=ZD hi
 have lenV:=hi.length
 have core:∀H:Hp,JI H->qx K H a (ns.map V.int)->jb P w H s₁.heap->(∀b,H b≠none->b=a)->(H a≠none->K.lookup a=none)->
   codeAny (model P w) callerA (.call (.ref fa) ⟨[.ref a],[]⟩) (λ r s'=>r=.ok (.ret (.bool true))/\OldK s₁.heap s'.heap/\s'.os=s₁.os/\AllBare s'.gens) s₁:=by
  intro H hO hS hok hA hK
  have base_of:∀{b:Addr} {o:Obj},s₁.heap.get? b=some o->H b=none->(wV s₁.heap H).get? b=some o:=λ e n=>Px e n
  have noA:∀{b:Addr} {o:Obj} {es:Array DictEntry} {ep:Nat},s₁.heap.get? b=some o->o.data=.dict es ep->H b=none:=λ {b o es ep} e d=>by
   cases q:H b with
   | none=>rfl
   | some u=>
    have e':b=a:=hA b (by rw [q];simp)
    subst e'
    rw [ha] at e;cases e
    have d':Data.seq vs.toArray _=Data.dict es ep:=d
    cases d'
  have nsK:∀{b:Addr} {m:Str->Option Value},s₁.heap.Ns b m->(wV s₁.heap H).Ns b m:=λ {b m} ⟨o,es,ep,e,d,r⟩=>⟨o,es,ep,base_of e (noA e d),d,r⟩
  have hKb:K.In (wV s₁.heap H):=λ b o e=>base_of (KX b o e) (by
   cases q:H b with
   | none=>rfl
   | some u=>
    have e':b=a:=hA b (by rw [q];simp)
    subst e'
    rw [hK (by rw [q];simp)] at e;cases e)
  have hM:Mod K mg (wV s₁.heap H):=⟨hKb,nsK hns,⟨mb,nsK hb,hbb⟩,let ⟨mc,h1,h2⟩:=hlim;⟨mc,nsK h1,h2⟩⟩
  have e0:JN P w K mg (wV s₁.heap H) callerA [] s₁ H:=⟨rfl,hM,λ b o e=>Nn e,Nat.le_of_eq (Pd _ _),trivial,λ b hb=>absurd (show b∈([]:List Addr) from hb) (by simp),hok,.of_eq hg⟩
  refine codeAny_mono ((F _ hKb (nsK hns)).run callerA [] s₁ H ⟨[.ref a],[]⟩ [.ref a] [.ref a] _ _ hr e0 (hbind s₁ (.ref a)) (.cons rfl .nil) (hsp H hO hS)) λ r s' h=>?_
  cases r with
  | error e=>exact (hCX H e s' h).elim
  | ok fl=>
   cases fl with
   | next=>exact False.elim h
   | brk=>exact False.elim h
   | cont=>exact False.elim h
   | ret u=>
    obtain ⟨v,H',os,bare,un,hok',r',q⟩:=h
    have q':v=.bl true:=q
    subst q'
    obtain rfl:u=Value.bool true:=r'
    refine ⟨rfl,OldK.of_keep λ b o e=>?_,os,bare⟩
    cases q:H b with
    | none=>exact un.keep b o e q (by intro z;exact absurd (show b∈([]:List Addr) from z) (by simp)) (by simp)
    | some u=>
     rcases hO b with z | ⟨ob,xs,z⟩
     ·rw [q] at z;cases z
     ·have z2:=un.frzs b ob _ z
      obtain ⟨e1,_⟩:=hok b _ z
      obtain ⟨e2,_⟩:=hok' b _ z2
      rw [e] at e1;cases e1
      exact e2
 cases hk:K.lookup a with
 | some o=>
  have e:=KX a o hk
  rw [ha] at e
  cases e
  refine core (λ _=>none) (λ _=>.inl rfl) (.inr ⟨_,vs.toArray,_,hk,rfl,rfl,rfl,by rw [List.size_toArray,lenV];exact hl,by simpa using rv⟩) (λ b u z=>by have z':(none:Option HO)=some u:=z;cases z') (λ b z=>absurd rfl z) λ z=>absurd rfl z
 | none=>
  refine core (λ b=>if b=a then some (.frz { cls:=.type "list",data:=.seq vs.toArray } (.lst (ns.map V.int))) else none) (λ b=>?_) (.inl (.inr ⟨{ cls:=.type "list",data:=.seq vs.toArray },if_pos rfl⟩)) (λ b u z=>?_) (λ b z=>?_) λ _=>hk
  ·by_cases hb:b=a
   ·exact .inr ⟨_,_,if_pos hb⟩
   ·exact .inl (if_neg hb)
  ·by_cases hb:b=a
   ·have z':=(if_pos hb).symm.trans z
    cases z'
    subst hb
    exact ⟨ha,by rw [List.length_map];exact hl,vs,_,rv,ha⟩
   ·have z':=(if_neg hb).symm.trans z
    cases z'
  ·by_cases hb:b=a
   ·exact hb
   ·exact absurd (if_neg hb) z
noncomputable abbrev UX {K:Frag}{h:Heap}(_:K.In h):Frag:=K
theorem Nb {l:PySem.W.OpenLaw}{n k:Nat}{q:Program}{loose:List Str}{XP:(Str->Option Value)->Heap->Prop}{YP:World->Heap->Prop}{d:DefRec}{K:Params->Frag}{CX:World->y6}{sp:World->Sp}{x:Str}
  (hn:l.most=some n)(hn2:n<=sizeLine)(hdf:d.params.defaults=[])(hr:jo k callerA)
  (hY:∀(w:World) (h:Heap),YP w h->(K w.params).In h)
  (F:∀(w:World) (mg:Str->Option Value) (fa:Addr) (h:Heap),(K w.params).In h->h.Ns mainGlobals mg->mg d.name=some (.ref fa)->
   ∃fd:FuncData,(∀(s:Shared) (u:Value),BindsTo s fd ⟨[u],[]⟩ [(x,u)])/\
    ∀base:Heap,(K w.params).In base->base.Ns mainGlobals mg->yi l.prog w (K w.params) mg base (CX w) k fa fd [x] (sp w))
  (hsp:∀(w:World) (H:Hp) (a:Addr) (ns:List Int),ns.length<=n->JI H->qx (K w.params) H a (ns.map V.int)->sp w [.ref a] H (λ v _=>v=.bl true) λ _ _ _=>False)
  (hCX:∀(w:World) (H:Hp) (s:Shared) (e:Value) (s':Shared),CX w [] H s (λ _ _ _=>False) e s'->False):
  PySem.W.WalkO q loose XP YP l.row.toRowW d [] (λ f vs=>PySem.call f vs):=by
 refine Att.Sx hn hdf λ w s₀ s₁ mg mb fa o pm cd doc a vs ns G Y ho hd hcd hmg hobj hints hlen hg=>?_
 have KX:=hY w _ Y
 obtain ⟨fd,hb,hF⟩:=F w mg fa _ KX G.T.g hmg
 exact PQ KX G.T.g G.T.b G.T.builtins G.T.nolimit hg hobj hints (Nat.le_trans hlen hn2) hr hF hb (λ H hO hS=>hsp w H a ns hlen hO hS) λ H e s'=>hCX w H s₁ e s'
noncomputable def gQ (s:Stmt):Arguments:=match s with
 | .FunctionDef _ a _ _ _ _ _ _ _ _=>a
 | _=>{ posonlyargs:=[],args:=[],vararg:=none,kwonlyargs:=[],kw_defaults:=[],kwarg:=none,defaults:=[] }
noncomputable def kX (s:Stmt):List Stmt:=match s with
 | .FunctionDef _ _ b _ _ _ _ _ _ _=>b
 | _=>[]
noncomputable def qH (s:Stmt):Scope:=match s with
 | .FunctionDef _ _ _ _ _ _ sc _ _ _=>sc
 | _=>{ kind:=.function,names:=[],isGenerator:=false,isCoroutine:=false }
noncomputable abbrev ku:y6:=λ _ _ _ _ _ _=>False
noncomputable abbrev E0:XK:=λ _ _ _=>False
theorem LX {X:Cx}:Passes ku X E0:=λ _ _ _ _ _ _ _ h=>h.elim
structure jd (K:Frag)(x qual:Str)(st:Stmt)(f:Addr)(fd:FuncData):Prop where
 ex:∃(oc:Value) (od:Option Addr) (kV doc pm:Value) (an:Option Addr) (cdv ct:Value) (osl:Array (Option Value)),
  fd=PySem.W.fnOf x qual (gQ st) (kX st) (qH st) .none kV doc pm an cdv ct/\K.lookup f=some ⟨oc,od,.func fd,osl⟩/\PySem.W.codeIn K cdv qual=true
 kp:PySem.W.keepIn K (.ref f)=true
section
variable {P:Program}{w:World}{K:Frag}{mg:Str->Option Value}{base:Heap}
theorem jd.ok {x qual:Str}{st:Stmt}{f:Addr}{fd:FuncData}{N ps:List Str}{k:Nat}{sp:Sp}(F:jd K x qual st f fd)(S:ju N ps (qH st))(len:∀vs H Q E,sp vs H Q E->vs.length=ps.length)
  (hbody:∀(cdv:Value) (A:Around) (outer:List Env) (s:Shared) (H:Hp) (vs:List V) (Q:VK) (E:XK),jo k (A.deeper (envOfC qual (qH st) s.heap.objs.size f cdv))->sp vs H Q E->
   ∃t,yj (gF ku P w K mg base N qual (qH st) f cdv A outer s H E).nox (kX st) t/\t { nx:=λ _ H'=>Q .non H',rt:=Q } (start N vs) H):yi P w K mg base ku (k+1) f fd ps sp:=by
 obtain ⟨oc,od,kV,doc,pm,an,cdv,ct,osl,rfl,lk,hcd⟩:=F.ex
 refine Iu lk hcd S len λ A outer s H vs Q E hr hsp=>?_
 obtain ⟨t,h,q⟩:=hbody cdv A outer s H vs Q E hr hsp
 exact ⟨t,h.nox,q⟩
theorem jd.binds {x qual:Str}{st:Stmt}{f:Addr}{fd:FuncData}{ps:List Str}(F:jd K x qual st f fd)
  (h:∀(kV doc pm:Value) (an:Option Addr) (cdv ct:Value) (us:List Value),us.length=ps.length->bindArgs (PySem.W.fnOf x qual (gQ st) (kX st) (qH st) .none kV doc pm an cdv ct) ⟨us,[]⟩=pure (ps.zip us)):Binds K fd ps []:=by
 obtain ⟨oc,od,kV,doc,pm,an,cdv,ct,osl,rfl,lk,hcd⟩:=F.ex
 exact .all (h kV doc pm an cdv ct)
theorem Ll {x qual:Str}{st:Stmt}{f:Addr}{oc:Value}{od an:Option Addr}{osl:Array (Option Value)}{kV doc pm cdv ct:Value}(l:K.lookup f=some ⟨oc,od,.func (PySem.W.fnOf x qual (gQ st) (kX st) (qH st) .none kV doc pm an cdv ct),osl⟩)
  (c:PySem.W.codeIn K cdv qual=true)(k:PySem.W.keepIn K (.ref f)=true):jd K x qual st f (PySem.W.fnOf x qual (gQ st) (kX st) (qH st) .none kV doc pm an cdv ct):=⟨⟨oc,od,kV,doc,pm,an,cdv,ct,osl,rfl,l,c⟩,k⟩
end
theorem Ic {A:Around}{k:Nat}(hr:jo k A):A.units+1<cLine:=Nat.lt_of_le_of_lt (Nat.add_le_add_left (by decide:1<=64) _) hr.units
section
variable {X:Cx}
end
section
variable {κ:Type} [DecidableEq κ]
noncomputable def Zk (kvs:List (κ × V))(k:κ):Option V:=(kvs.find? λ kv=>decide (kv.1=k)).map (·.2)
noncomputable def putK (kvs:List (κ × V))(k:κ)(v:V):List (κ × V):=
 if (kvs.any λ kv=>decide (kv.1=k))=true then kvs.map (λ kv=>if kv.1=k then (kv.1,v) else kv) else kvs++[(k,v)]
theorem XZ {p:κ × V}{r:List (κ × V)}{k:κ}(e:p.1=k):Zk (p::r) k=some p.2:=by simp [Zk,List.find?_cons,e]
theorem XU {p:κ × V}{r:List (κ × V)}{k:κ}(e:¬p.1=k):Zk (p::r) k=Zk r k:=by simp [Zk,List.find?_cons,e]
theorem X2 (k:κ):∀kvs:List (κ × V),(kvs.any λ kv=>decide (kv.1=k))=(Zk kvs k).isSome
 | []=>rfl
 | p::r=>by
  rw [List.any_cons]
  by_cases e:p.1=k
  ·simp only [XZ e,decide_eq_true e,Bool.true_or,Option.isSome_some]
  ·rw [XU e,decide_eq_false e,Bool.false_or];exact X2 k r
theorem Xc (kvs:List (κ × V))(k:κ)(v:V):(putK kvs k v).length<=kvs.length+1:=by
 unfold putK
 split
 ·rw [List.length_map];omega
 ·rw [List.length_append,List.length_cons,List.length_nil];omega
theorem ZV.isSome_eq {o:Option V}{u:Option Value}(r:ZV o u):o.isSome=u.isSome:=by
 cases o with
 | none=>cases u with
  | none=>rfl
  | some _=>exact (show False from r).elim
 | some _=>cases u with
  | none=>exact (show False from r).elim
  | some _=>rfl
theorem KV.any {kvs:List (κ × V)}{vs:List (κ × Value)}(r:KV kvs vs)(k:κ):(kvs.any λ kv=>decide (kv.1=k))=vs.any λ kv=>decide (kv.1=k):=by
 unfold KV at r
 induction r with
 | nil=>rfl
 | cons h t ih=>rw [List.any_cons,List.any_cons,ih,h.1]
theorem KV.repl {kvs:List (κ × V)}{vs:List (κ × Value)}(r:KV kvs vs)(k:κ){y:V}{u:Value}(ry:RelV y u):
  KV (kvs.map λ kv=>if kv.1=k then (kv.1,y) else kv) (vs.map λ kv=>if kv.1=k then (kv.1,u) else kv):=by
 unfold KV at r ⊢
 induction r with
 | nil=>exact .nil
 | @cons p q ps qs h t ih=>
  rw [List.map_cons,List.map_cons]
  refine .cons ?_ ih
  obtain ⟨h1,h2⟩:=h
  by_cases e:p.1=k
  ·rw [if_pos e,if_pos (h1.symm.trans e)];exact ⟨h1,ry⟩
  ·rw [if_neg e,if_neg (λ z=>e (h1.trans z))];exact ⟨h1,h2⟩
theorem KV.put {kvs:List (κ × V)}{vs:List (κ × Value)}(r:KV kvs vs)(k:κ){y:V}{u:Value}(ry:RelV y u):KV (putK kvs k y) (stored vs k u):=by
 unfold putK stored
 rw [r.any k]
 by_cases e:(vs.any λ kv=>decide (kv.1=k))=true
 ·rw [if_pos e,if_pos e];exact r.repl k ry
 ·rw [if_neg e,if_neg e];exact Paired.snoc r ⟨rfl,ry⟩
theorem KV.keys {kvs:List (κ × V)}{vs:List (κ × Value)}(r:KV kvs vs):kvs.map (·.1)=vs.map (·.1):=by
 unfold KV at r
 induction r with
 | nil=>rfl
 | cons h t ih=>rw [List.map_cons,List.map_cons,ih,h.1]
theorem KV.length {kvs:List (κ × V)}{vs:List (κ × Value)}(r:KV kvs vs):kvs.length=vs.length:=Paired.length r
end
theorem Up {P:Program}{w:World}{k:Key}{u:Value}(r:RelV (kV k) u):(yr P w).is k u=true:=by
 cases k with
 | inl i=>obtain ⟨t,e⟩:=(show ∃t,u=Value.int i t from r);subst e;exact Sj P w i t
 | inr x=>obtain ⟨t,e⟩:=(show ∃t,u=Value.str x t from r);subst e;exact SD P w x t
theorem XH {P:Program}{w:World}:∀{ks:List Key} {us:List Value},Vals (ks.map kV) us->ItemsAre (yr P w) ks us
 | [],_,r=>by rw [List.map_nil] at r;cases r;exact .nil
 | k::ks,_,r=>by
  rw [List.map_cons] at r
  cases r with
  | cons h t=>exact .cons (Up h) (XH t)
noncomputable abbrev KT (H:Hp):List (List Key × V)->List (List Key × Addr × Value)->Prop:=Paired λ p q=>p.1=q.1/\H q.2.1=some (.tup (p.1.map kV))/\RelV p.2 q.2.2
theorem KT.val {H:Hp}{kvs:List (List Key × V)}{xs:List (List Key × Addr × Value)}(r:KT H kvs xs)(k:List Key):ZV (Zk kvs k) ((atKey xs k).map (·.2)):=by
 induction r with
 | nil=>exact True.intro
 | @cons p q ps qs h t ih=>
  obtain ⟨h1,_,h2⟩:=h
  by_cases e:p.1=k
  ·have e':q.1=k:=h1.symm.trans e
   have b:atKey (q::qs) k=some q.2:=by simp [atKey,List.find?_cons,e']
   rw [XZ e,b];exact h2
  ·have e':¬q.1=k:=λ z=>e (h1.trans z)
   have b:atKey (q::qs) k=atKey qs k:=by simp [atKey,List.find?_cons,e']
   rw [XU e,b];exact ih
theorem KT.repl {H:Hp}{kvs:List (List Key × V)}{xs:List (List Key × Addr × Value)}(r:KT H kvs xs)(k:List Key){y:V}{u:Value}(ry:RelV y u):
  KT H (kvs.map λ kv=>if kv.1=k then (kv.1,y) else kv) (xs.map (putAt k u)):=by
 induction r with
 | nil=>exact .nil
 | @cons p q ps qs h t ih=>
  rw [List.map_cons,List.map_cons]
  refine .cons ?_ ih
  obtain ⟨h1,h2,h3⟩:=h
  unfold putAt
  by_cases e:p.1=k
  ·rw [if_pos e,if_pos (h1.symm.trans e)];exact ⟨h1,h2,ry⟩
  ·rw [if_neg e,if_neg (λ z=>e (h1.trans z))];exact ⟨h1,h2,h3⟩
theorem KT.put {H:Hp}{kvs:List (List Key × V)}{xs:List (List Key × Addr × Value)}(r:KT H kvs xs)(k:List Key){b:Addr}{y:V}{u:Value}(hb:H b=some (.tup (k.map kV)))(ry:RelV y u):
  KT H (putK kvs k y) (storedH xs k b u):=by
 have e:(kvs.any λ kv=>decide (kv.1=k))=(atKey xs k).isSome:=by
  rw [X2,(r.val k).isSome_eq,Option.isSome_map]
 unfold putK storedH
 rw [e]
 by_cases q:(atKey xs k).isSome=true
 ·rw [if_pos q,if_pos q];exact r.repl k ry
 ·rw [if_neg q,if_neg q];exact Paired.snoc r ⟨rfl,hb,ry⟩
theorem KT.keeps {H H':Hp}{kvs:List (List Key × V)}{xs:List (List Key × Addr × Value)}(r:KT H kvs xs)(ht:∀b ys,H b=some (.tup ys)->H' b=some (.tup ys)):KT H' kvs xs:=
 Paired.mapP r λ _ _ z=>⟨z.1,ht _ _ z.2.1,z.2.2⟩
section
variable {P:Program}{w:World}{H:Hp}{h:Heap}{a:Addr}
theorem Uh {u:HO}(ok:jb P w H h)(e:Rd H a u):qP P w H h a u:=e.ok ok
theorem IB {kvs:List (Key × V)}(ok:jb P w H h)(e:Rd H a (.dK kvs)):kvs.length<=sizeLine/\(a==sysModules)=false/\∃vs,KV kvs vs/\h.DictOf (yr P w) a vs:=
 show qP P w H h a (.dK kvs) from Uh ok e
theorem WU {kvs:List (Key × V)}(ok:jb P w H h)(e:H a=some (.dK kvs)):kvs.length<=sizeLine/\(a==sysModules)=false/\∃vs,KV kvs vs/\h.DictOf (yr P w) a vs:=IB ok (.inl e)
theorem V1 {ks:List Key}(ok:jb P w H h)(e:H a=some (.tup (ks.map kV))):(tupleKind (yr P w)).is h ks a:=by
 obtain ⟨_,its,r,o,h1,h2,n,h3⟩:=(show qP P w H h a (.tup (ks.map kV)) from ok a _ e)
 exact ⟨o,its.toArray,n,h1,h2.1,h3,by simpa using XH r⟩
theorem IK {kvs:List (List Key × V)}(ok:jb P w H h)(e:Rd H a (.dT kvs)):kvs.length<=sizeLine/\(a==sysModules)=false/\
  ∃xs,KT H kvs xs/\h.DictOfH (tupleKind (yr P w)) a xs:=by
 obtain ⟨z,y,xs,r,o,es,ep,h1,h2,h3,h4,h5⟩:=(show qP P w H h a (.dT kvs) from Uh ok e)
 refine ⟨z,y,xs,r,o,es,ep,h1,h2,h3,h4,λ x hx=>?_,h5⟩
 have all:∀{l:List (List Key × V)} {m:List (List Key × Addr × Value)},KT H l m->∀x∈m,(tupleKind (yr P w)).is h x.1 x.2.1:=by
  intro l m q
  induction q with
  | nil=>intro x hx;exact nomatch hx
  | @cons p q ps qs hq t ih=>
   intro x hx
   rcases List.mem_cons.mp hx with e | hx
   ·subst e
    exact V1 ok (by rw [<- hq.1];exact hq.2.1)
   ·exact ih x hx
 exact all r x hx
theorem IP {kvs:List (List Key × V)}(ok:jb P w H h)(e:H a=some (.dT kvs)):kvs.length<=sizeLine/\(a==sysModules)=false/\
  ∃xs,KT H kvs xs/\h.DictOfH (tupleKind (yr P w)) a xs:=IK ok (.inl e)
end
noncomputable def JS (H:Hp)(a:Addr)(y v:V)(H':Hp):Prop:=
 (∃kvs k,H a=some (.dK kvs)/\y=kV k/\kvs.length<sizeLine/\H'=upd H a (.dK (putK kvs k v)))∨
 ∃kvs k b,H a=some (.dT kvs)/\y=.ref b/\H b=some (.tup (k.map kV))/\kvs.length<sizeLine/\H'=upd H a (.dT (putK kvs k v))
theorem JS.k {H:Hp}{a:Addr}{kvs:List (Key × V)}{k:Key}{v:V}(e:H a=some (.dK kvs))(hl:kvs.length<sizeLine):JS H a (kV k) v (upd H a (.dK (putK kvs k v))):=.inl ⟨kvs,k,e,rfl,hl,rfl⟩
section
variable {X:Cx}{pins:List (Addr × Obj)}{σ:St}{H:Hp}{s:Shared}{a:Addr}{y v:V}{u r:Value}{o:Option V}{A:Around}{E:Value->Shared->Prop}
theorem Inv.big (I:Inv X pins σ H s):sysModules<s.heap.objs.size:=by
 have h:mainGlobals<s.heap.objs.size:=(I.mod.glob.keeps I.bk).lt
 exact Nat.lt_trans (by decide) h
theorem VB {h':Heap}{t':Nat}{ob:HO}(I:Inv X pins σ H s)(mu:QG (H a))(hs:Heap.SameBut a s.heap h')(he:∃q,h'.get? a=some q)(new:qP X.prog X.w (upd H a ob) h' a ob):
  Inv X pins σ (upd H a ob) { s with heap:=h',toks:=t' }:=
 I.write (x:=a) (e:=a) mu (.inl rfl) (λ b q hb z=>(hs.2 b hb).trans z) he new
theorem Mr {P:Program}{w:World}{H':Hp}{h':Heap}{kvs:List (Key × V)}{vs:List (Key × Value)}(z:kvs.length<=sizeLine)(hd:(a==sysModules)=false)(rel:KV kvs vs)(dd:h'.DictOf (yr P w) a vs):
  qP P w H' h' a (.dK kvs):=⟨z,hd,vs,rel,dd⟩
theorem RU {H':Hp}{Q:Unit->Shared->Prop}(hu:A.units+1<cLine)(I:Inv X pins σ H s)(g:JS H a y v H')(ry:RelV y u)(rv:RelV v r)(h:∀s',Inv X pins σ H' s'->Q () s'):
  wpAny (model X.prog X.w) A (setItem (.ref a) u r) Q E s:=by
 rcases g with ⟨kvs,k,e,ey,l,eH⟩ | ⟨kvs,k,b,e,ey,eb,l,eH⟩
 ·subst ey eH
  obtain ⟨z,hd,vs,rel,dd⟩:=WU I.hok e
  have hz:vs.length<=sizeLine:=by rw [<- rel.length];exact z
  have hl:(putK kvs k v).length<=sizeLine:=by have:=Xc kvs k v;omega
  refine wpAny_setItem_pairs (hsz:=hz) (Up ry) dd λ h' dd' hs=>h _ ?_
  have he:∃q,h'.get? a=some q:=let ⟨q,_,_,hq,_⟩:=dd';⟨q,hq⟩
  exact VB I (by rw [e];exact True.intro) hs he (Mr hl hd (rel.put k rv) dd')
 ·subst ey eH
  cases (show u=Value.ref b from ry)
  obtain ⟨z,hd,xs,rel,dd⟩:=IP I.hok e
  have hz:xs.length<=sizeLine:=by rw [<- Paired.length rel];exact z
  have hl:(putK kvs k v).length<=sizeLine:=by have:=Xc kvs k v;omega
  refine wpAny_setItem_heap (hsz:=hz) (tupleKind_room_in1 hu) (V1 I.hok eb) dd λ h' dd' hs=>h _ ?_
  obtain ⟨q,es,ep,hq,h2,h3,h4,_,h5⟩:=dd'
  refine VB I (by rw [e];exact True.intro) hs ⟨q,hq⟩ ⟨hl,hd,_,(rel.put k eb rv).keeps λ c ys ec=>?_,q,es,ep,hq,h2,h3,h4,h5⟩
  rw [qf (IH ec e (λ z=>nomatch z))]
  exact ec
end
section
variable {X:Cx}{pins:List (Addr × Obj)}{σ:St}{H:Hp}{s:Shared}{a:Addr}{kvs:List (Key × V)}{k:Key}{u:Value}{A:Around}{E:Value->Shared->Prop}
end
section
variable {X:Cx}{o i e value:Expr}{pos pos' tpos:Pos}{td ty tv:TE}
end
theorem OF {P:Program}{w:World}{H:Hp}(h:Heap)(hb:sysModules<h.objs.size):qP P w H (h.push { cls:=.type "dict",data:=.dict #[] }) h.objs.size (.dK []):=
 ⟨Nat.zero_le _,beq_eq_false_iff_ne.mpr (Ne.symm (Nat.ne_of_lt hb)),[],.nil,Heap.DictOf.new h⟩
noncomputable def M6:TE:=λ _ H Q=>∀p,H p=none->Q (.ref p) (upd H p (.dK []))
section
variable {X:Cx}{pos:Pos}
theorem P2:PE X (.Dict [] [] pos) M6:=λ pins s σ H Q I h=>
 wpAny_Dict_empty ⟨.ref s.heap.objs.size,_,I.laid (a:=s.heap.objs.size) (o:=.dK []) (t':=s.toks) (λ _ _ q=>Heap.get?_push_of_some _ q) (Nat.le_refl _) (OF s.heap I.big),rfl,h _ (I.hok.fresh (Nat.le_refl _))⟩
end
section
variable {X:Cx}{pins:List (Addr × Obj)}{σ:St}{H:Hp}{s:Shared}{a:Addr}{y d:V}{u r:Value}{o:Option V}{A:Around}{E:Value->Shared->Prop}
end
section
variable {X:Cx}{o e f:Expr}{apos cpos:Pos}{td ty tx:TE}
end
section
variable {X:Cx}{pins:List (Addr × Obj)}{σ:St}{H:Hp}{s:Shared}{a:Addr}{kvs:List (Key × V)}{A:Around}{E:Value->Shared->Prop}
end
section
variable {X:Cx}{pins:List (Addr × Obj)}{σ:St}{H:Hp}{s:Shared}{a:Addr}{y:V}{u:Value}{A:Around}{E:Value->Shared->Prop}
end
noncomputable def kF (env:Env):List (Str × NameKind)->List (Str × Addr)->List (Str × Addr)
 | [],acc=>acc
 | (n,k)::r,acc=>kF env r (if k==.free then (n,(env.cells.lookup n).getD 0)::acc else acc)
theorem Ob {env:Env}(f:Str × NameKind->List (Str × Addr)->Sem (ForInStep (List (Str × Addr))))
  (hf:∀n k r,f (n,k) r=if (k==NameKind.free)=true then (do let c <- cellOf env n;pure (ForInStep.yield ((n,c)::r))) else pure (ForInStep.yield r)):
  ∀(names:List (Str × NameKind)) (acc:List (Str × Addr)),(∀y∈names,y.2=.free->∃c,env.cells.lookup y.1=some c)->(forIn names acc f:Sem (List (Str × Addr)))=pure (kF env names acc):=by
 intro names
 induction names with
 | nil=>intro acc _;rfl
 | cons y r ih=>
  intro acc hh
  obtain ⟨n,k⟩:=y
  rw [List.forIn_cons,hf]
  unfold kF
  have hr:=ih (if k==.free then (n,(env.cells.lookup n).getD 0)::acc else acc) (λ y hy=>hh y (List.mem_cons_of_mem _ hy))
  by_cases hk:k=.free
  ·subst hk
   obtain ⟨c,hc⟩:=hh (n,.free) List.mem_cons_self rfl
   have e:cellOf env n=pure c:=by unfold cellOf;rw [hc]
   have hc':List.lookup n env.cells=some c:=hc
   simp only [e,hc',Option.getD_some,beq_self_eq_true,if_true] at hr ⊢
   exact hr
  ·have hb:(k==NameKind.free)=false:=by simpa using hk
   simp only [hb,Bool.false_eq_true,if_false] at hr ⊢
   exact hr
theorem SR {scope:Scope}{env:Env}(h:∀y∈scope.names,y.2=.free->∃c,env.cells.lookup y.1=some c):closureFor scope env=pure (kF env scope.names []):=by
 unfold closureFor
 dsimp only
 rw [Ob _ (λ n k r=>rfl) scope.names [] h]
 rfl
theorem Zy {env:Env}{n:Str}{c:Addr}:∀(names:List (Str × NameKind)) (acc:List (Str × Addr)),(n,c)∈kF env names acc->(n,c)∈acc∨((n,NameKind.free)∈names/\c=(env.cells.lookup n).getD 0)
 | [],acc,h=>.inl h
 | (x,k)::r,acc,h=>by
  unfold kF at h
  rcases Zy r _ h with h | ⟨h1,h2⟩
  ·by_cases hk:k=.free
   ·subst hk
    simp only [beq_self_eq_true,if_true] at h
    rcases List.mem_cons.mp h with e | h
    ·cases e;exact .inr ⟨List.mem_cons_self,rfl⟩
    ·exact .inl h
   ·have hb:(k==NameKind.free)=false:=by simpa using hk
    simp only [hb,Bool.false_eq_true,if_false] at h
    exact .inl h
  ·exact .inr ⟨List.mem_cons_of_mem _ h1,h2⟩
theorem Xk {env:Env}{n:Str}:∀(names:List (Str × NameKind)) (acc:List (Str × Addr)),((n,NameKind.free)∈names∨(acc.lookup n).isSome=true)->((kF env names acc).lookup n).isSome=true
 | [],acc,h=>by
  rcases h with h | h
  ·cases h
  ·exact h
 | (x,k)::r,acc,h=>by
  unfold kF
  refine Xk r _ ?_
  rcases h with h | h
  ·rcases List.mem_cons.mp h with e | h
   ·cases e
    right
    simp
   ·exact .inl h
  ·right
   by_cases hk:(k==NameKind.free)=true
   ·rw [if_pos hk,List.lookup_cons]
    cases hx:n==x
    ·exact h
    ·rfl
   ·rw [if_neg hk];exact h
theorem Yu {n:Str}{c:Addr}:∀(names:List (Str × NameKind)) (k:Nat) (acc:List (Str × Addr)),(n,c)∈cellsFrom k names acc->(n,c)∈acc∨(k<=c/\(n,NameKind.cell)∈names)
 | [],_,_,h=>.inl h
 | (x,q)::r,k,acc,h=>by
  unfold cellsFrom at h
  by_cases hq:(q==NameKind.cell)=true
  ·rw [if_pos hq] at h
   have hq':q=.cell:=by simpa using hq
   rcases Yu r _ _ h with h | ⟨h1,h2⟩
   ·rcases List.mem_cons.mp h with e | h
    ·cases e;subst hq';exact .inr ⟨Nat.le_refl _,List.mem_cons_self⟩
    ·exact .inl h
   ·exact .inr ⟨by omega,List.mem_cons_of_mem _ h2⟩
  ·rw [if_neg hq] at h
   rcases Yu r _ _ h with h | ⟨h1,h2⟩
   ·exact .inl h
   ·exact .inr ⟨h1,List.mem_cons_of_mem _ h2⟩
theorem Yv:∀(names:List (Str × NameKind)) (k:Nat) (acc:List (Str × Addr)),(∀n c,(n,c)∈acc->c<k)->(∀n n' c,(n,c)∈acc->(n',c)∈acc->n=n')->∀n n' c,(n,c)∈cellsFrom k names acc->(n',c)∈cellsFrom k names acc->n=n'
 | [],_,_,_,hi,n,n',c,h,h'=>hi n n' c h h'
 | (x,q)::r,k,acc,hl,hi,n,n',c,h,h'=>by
  unfold cellsFrom at h h'
  by_cases hq:(q==NameKind.cell)=true
  ·rw [if_pos hq] at h h'
   refine Yv r (k+1) ((x,k)::acc) (λ m d hm=>?_) (λ m m' d hm hm'=>?_) n n' c h h'
   ·rcases List.mem_cons.mp hm with e | hm
    ·cases e;exact Nat.lt_succ_self _
    ·exact Nat.lt_succ_of_lt (hl m d hm)
   ·rcases List.mem_cons.mp hm with e | hm
    ·rcases List.mem_cons.mp hm' with e' | hm'
     ·cases e;cases e';rfl
     ·cases e;exact absurd (hl m' _ hm') (Nat.lt_irrefl _)
    ·rcases List.mem_cons.mp hm' with e' | hm'
     ·cases e';exact absurd (hl m _ hm) (Nat.lt_irrefl _)
     ·exact hi m m' d hm hm'
  ·rw [if_neg hq] at h h'
   exact Yv r k acc hl hi n n' c h h'
theorem Ys {n:Str}{c:Addr}:∀(names:List (Str × NameKind)) (h:Heap) (acc:List (Str × Addr)),(n,c)∈cellsFrom h.objs.size names acc->(n,c)∈acc∨(pushCells h names).IsCell c none
 | [],_,_,q=>.inl q
 | (x,k)::r,h,acc,q=>by
  unfold cellsFrom at q
  unfold pushCells
  by_cases hk:(k==NameKind.cell)=true
  ·rw [if_pos hk] at q ⊢
   have:=Ys r (h.push { cls:=.type "cell",data:=.cell none }) ((x,h.objs.size)::acc) (by rw [Heap.size_push];exact q)
   rcases this with z | z
   ·rcases List.mem_cons.mp z with e | z
    ·cases e
     exact .inr ⟨_,pushCells_keeps r _ _ _ (Heap.get?_push_size _ rfl),rfl⟩
    ·exact .inl z
   ·exact .inr z
  ·rw [if_neg hk] at q ⊢
   exact Ys r h acc q
theorem U8 {M:Model}{A:Around}{E:Value->Shared->Prop}{s:Shared}{scope:Scope}{globals:Addr}{cl:List (Str × Addr)}{qual:Str}{env:Env}{Q:Env->Shared->Prop}
  (h:Q { scope,locals:=s.heap.objs.size,globals,cells:=cellsFrom (s.heap.objs.size+1) scope.names cl,qual,func:=none,code:=env.code,frame:=env.frame,builtins:=env.builtins }
   { s with heap:=pushCells (s.heap.push { cls:=.type "dict",data:=.dict #[] }) scope.names }):
  wpAny M A (newFunctionEnv scope globals cl [] qual none .none (some env)) Q E s:=by
 simp only [newFunctionEnv,Option.isSome_some,if_true]
 refine wpAny_bind (wpAny_alloc ?_)
 refine wpAny_bind (wpAny_layCells _ (λ name kind cells=>by cases hkc:kind==NameKind.cell<;>simp [hkc]) _ _ _ _ ?_)
 rw [show ({ s with heap:=s.heap.push { cls:=.type "dict",data:=.dict #[] } }:Shared).heap.objs.size=s.heap.objs.size+1 from Heap.size_push ..]
 rw [List.forIn_nil]
 exact wpAny_bind (wpAny_pure (wpAny_pure h))
noncomputable def jG (X:Cx)(N:List Str)(scope:Scope)(s:Shared)(H:Hp)(fp:List Addr)(xe:Value->Shared->Prop):Cx where
 prog:=X.prog
 w:=X.w
 K:=X.K
 mg:=X.mg
 base:=X.base
 A:=X.A
 N:=N
 s0:=s
 H0:=H
 env:={ scope:=relabel scope X.env,locals:=s.heap.objs.size,globals:=X.env.globals,cells:=cellsFrom (s.heap.objs.size+1) scope.names (kF X.env scope.names []),qual:=X.env.qual,func:=none,code:=X.env.code,frame:=X.env.frame,builtins:=X.env.builtins }
 outer:=X.stack
 stack:=X.stack
 ex:=fp
 fn:=λ x=>scope.names.lookup x==some .local || scope.names.lookup x==some .cell
 calm:=X.calm
 pn:=[]
 xe:=xe
structure wF (X:Cx)(scope:Scope):Prop where
 kind:scope.kind=.function
 nd:(scope.names.map (·.1)).Nodup
 free:∀y∈scope.names,y.2=.free->X.env.kindOf y.1=some .cell∨X.env.kindOf y.1=some .free
theorem Zu {α:Type}{x:Str}{k:α}:∀{l:List (Str × α)},(l.map (·.1)).Nodup->(x,k)∈l->l.lookup x=some k
 | (y,q)::r,nd,h=>by
  rw [List.map_cons,List.nodup_cons] at nd
  rw [List.lookup_cons]
  rcases List.mem_cons.mp h with e | h
  ·cases e;simp
  ·have ne:(x==y)=false:=by
    rw [beq_eq_false_iff_ne]
    intro e
    apply nd.1
    rw [<- e]
    exact List.mem_map_of_mem (f:=(·.1)) h
   rw [ne]
   exact Zu nd.2 h
theorem Yt {scope:Scope}{env:Env}{x:Str}{k:NameKind}(h:(relabel scope env).names.lookup x=some k):scope.names.lookup x=some k∨(k=.cell/\scope.names.lookup x=some .free/\env.kindOf x=some .cell):=by
 unfold relabel at h
 dsimp only at h
 generalize scope.names=names at h ⊢
 induction names with
 | nil=>cases h
 | cons y r ih=>
  obtain ⟨n,q⟩:=y
  rw [List.map_cons] at h
  have split:(if (q==NameKind.free&&env.scope.kind==.function&&env.kindOf n==some .cell)=true then (n,NameKind.cell) else (n,q)).1=n:=by split<;>rfl
  rw [List.lookup_cons] at h ⊢
  dsimp only at h
  rw [split] at h
  cases hx:x==n with
  | false=>rw [hx] at h;exact ih h
  | true=>
   rw [hx] at h
   have e:x=n:=beq_iff_eq.mp hx
   subst e
   by_cases hc:(q==NameKind.free&&env.scope.kind==.function&&env.kindOf x==some .cell)=true
   ·rw [if_pos hc] at h
    simp only [Bool.and_eq_true,beq_iff_eq] at hc
    cases h
    right
    exact ⟨rfl,by rw [hc.1.1],hc.2⟩
   ·rw [if_neg hc] at h
    left
    exact h
section
variable {X:Cx}{pins:List (Addr × Obj)}{σ:St}{H:Hp}{s:Shared}{scope:Scope}
theorem Inv.capt (I:Inv X pins σ H s)(S:wF X scope){x:Str}(h:(x,NameKind.free)∈scope.names):∃c,X.env.cells.lookup x=some c:=I.ok.has x (S.free _ h rfl)
theorem Qh (I:Inv X pins σ H s)(S:wF X scope){x:Str}{c:Addr}(h:(x,c)∈cellsFrom (s.heap.objs.size+1) scope.names (kF X.env scope.names [])):
  ((x,NameKind.free)∈scope.names/\X.env.cells.lookup x=some c/\c<s.heap.objs.size)∨((x,NameKind.cell)∈scope.names/\s.heap.objs.size<c/\∀h0:Heap,h0.objs.size=s.heap.objs.size+1->(pushCells h0 scope.names).IsCell c none):=by
 rcases Yu _ _ _ h with h1 | ⟨h1,h2⟩
 ·left
  rcases Zy _ _ h1 with z | ⟨z,e⟩
  ·cases z
  ·obtain ⟨c',hc⟩:=I.capt S z
   rw [hc] at e
   have e':c=c':=e
   subst e'
   obtain ⟨v,q⟩:=I.cell x c hc
   exact ⟨z,hc,q.lt⟩
 ·right
  refine ⟨h2,h1,λ h0 e0=>?_⟩
  have h':=h
  rw [<- e0] at h'
  rcases Ys _ h0 _ h' with z | z
  ·exfalso
   rcases Zy _ _ z with z | ⟨z,e⟩
   ·cases z
   ·obtain ⟨c',hc⟩:=I.capt S z
    rw [hc] at e
    have e':c=c':=e
    subst e'
    obtain ⟨v,q⟩:=I.cell x c hc
    exact Nat.lt_irrefl _ (Nat.lt_of_lt_of_le (Nat.lt_succ_of_lt q.lt) h1)
  ·exact z
theorem Pp {N:List Str}{fp:List Addr}{xe:Value->Shared->Prop}{σ':St}(I:Inv X pins σ H s)(S:wF X scope)(hf:∀b∈fp,yG X pins H b)(hfl:∀b∈fp,b<s.heap.objs.size)(hl:σ'.length=N.length)
  (hs:∀(j:Nat) (x:Str) (v:V),N[j]? =some x->σ'[j]? =some (some v)->(x,NameKind.free)∈scope.names/\∃i:Nat,X.N[i]? =some x/\σ[i]? =some (some v)):
  Inv (jG X N scope s H fp xe) [] σ' H { s with heap:=pushCells (s.heap.push { cls:=.type "dict",data:=.dict #[] }) scope.names }:=by
 have hk:∀b o,s.heap.get? b=some o->(pushCells (s.heap.push { cls:=.type "dict",data:=.dict #[] }) scope.names).get? b=some o:=λ b o e=>pushCells_keeps _ _ _ _ (Heap.get?_push_of_some _ e)
 have hsz:(s.heap.push { cls:=.type "dict",data:=.dict #[] }).objs.size=s.heap.objs.size+1:=Heap.size_push ..
 have lkm:∀{x:Str} {c:Addr},(jG X N scope s H fp xe).env.cells.lookup x=some c->(x,c)∈cellsFrom (s.heap.objs.size+1) scope.names (kF X.env scope.names []):=λ h=>PySem.mem_of_lookup h
 have lkc:∀{x:Str},((jG X N scope s H fp xe).env.kindOf x=some .cell∨(jG X N scope s H fp xe).env.kindOf x=some .free)->∃c,(jG X N scope s H fp xe).env.cells.lookup x=some c:=λ {x} h=>by
  refine Option.isSome_iff_exists.mp (PySem.W.cellsFrom_some _ _ _ ?_)
  have two:scope.names.lookup x=some .cell∨scope.names.lookup x=some .free:=by
   rcases h with h | h
   ·rcases Yt h with z | ⟨_,z,_⟩
    ·exact .inl z
    ·exact .inr z
   ·rcases Yt h with z | ⟨z,_⟩
    ·exact .inr z
    ·cases z
  rcases two with z | z
  ·exact .inl z
  ·exact .inr (Xk _ _ (.inl (PySem.mem_of_lookup z)))
 have exP:∀b∈fp,∀x c,(jG X N scope s H fp xe).env.cells.lookup x=some c->c≠b:=λ b hb x c e=>by
  rcases Qh I S (lkm e) with ⟨_,q,_⟩ | ⟨_,q,_⟩
  ·exact (hf b hb).2.2.2.2.1 x c q
  ·intro z;subst z;exact Nat.lt_irrefl _ (Nat.lt_trans q (hfl _ hb))
 refine ⟨⟨I.ok.mod,S.kind,I.ok.glob,I.ok.blt,Nat.le_refl _,λ x y c h1 h2=>?_,λ x h=>lkc h,λ x c hx h=>?_,I.ok.hd,I.ok.frames,.inl rfl,λ b hb=>⟨?_,exP b hb⟩,I.bs,Nat.le_trans I.ok.bsz I.sz,λ b o e hb=>?_,λ b hb z=>?_,I.stack,I.stkFree⟩,
  rfl,I.bare,Un.kept hk,⟨λ _=>none,?_,λ j x v h1 h2 h3=>?_⟩,λ x c e=>?_,I.fresh,λ x c e=>?_,λ p hp=>?_,I.hok.kept hk,hl⟩
 ·refine Yv _ _ _ (λ n c h=>?_) (λ n n' c h h'=>?_) x y c (lkm h1) (lkm h2)
  ·rcases Zy _ _ h with z | ⟨z,e⟩
   ·cases z
   ·obtain ⟨c',hc⟩:=I.capt S z
    rw [hc] at e
    have e':c=c':=e
    subst e'
    obtain ⟨v,q⟩:=I.cell n c hc
    exact Nat.lt_succ_of_lt q.lt
  ·rcases Zy _ _ h with z | ⟨z,e⟩
   ·cases z
   ·rcases Zy _ _ h' with z' | ⟨z',e'⟩
    ·cases z'
    ·obtain ⟨d,hd⟩:=I.capt S z
     obtain ⟨d',hd'⟩:=I.capt S z'
     rw [hd] at e
     rw [hd'] at e'
     have e1:c=d:=e
     have e2:c=d':=e'
     subst e1
     subst e2
     exact I.ok.inj _ _ _ hd hd'
 ·rcases Qh I S (lkm h) with ⟨z,_,_⟩ | ⟨_,z,_⟩
  ·exfalso
   have e1:=Zu S.nd z
   have hx':(scope.names.lookup x==some .local || scope.names.lookup x==some .cell)=true:=hx
   rw [e1] at hx'
   cases hx'
  ·exact Nat.le_of_lt z
 ·exact Nat.ne_of_lt (hfl b hb)
 ·obtain ⟨_,_,_,h4,_⟩:=hf b hb
  rcases h4 with h4 | h4
  ·exact I.ok.noex b o e h4
  ·exact absurd (Nat.lt_of_lt_of_le (Heap.lt_size e) (Nat.le_trans I.ok.bsz h4)) (Nat.lt_irrefl _)
 ·obtain ⟨_,h2,h3,_⟩:=hf b hb
  rcases List.mem_cons.mp (I.stkSub b z) with e | e
  ·exact h2 e
  ·exact h3 e
 ·exact (Heap.Ns.new s.heap (.type "dict")).keeps (pushCells_keeps _ _)
 ·obtain ⟨hx,i,e1,e2⟩:=hs j x v h1 h2
  obtain ⟨m,hn,hl'⟩:=I.loc
  have vis:J3 X.env.scope x:=.inr (S.free _ hx rfl)
  obtain ⟨u,r,lk⟩:=hl' i x v e1 e2 vis
  refine ⟨u,r,.inr ?_⟩
  have hkf:(jG X N scope s H fp xe).env.kindOf x=some .cell∨(jG X N scope s H fp xe).env.kindOf x=some .free:=by
   rcases h3 with z | z | z
   ·exfalso
    rcases Yt z with z' | ⟨z',_⟩
    ·rw [Zu S.nd hx] at z';cases z'
    ·cases z'
   ·exact .inl z
   ·exact .inr z
  refine ⟨hkf,?_⟩
  obtain ⟨c,hc⟩:=lkc hkf
  refine ⟨c,hc,?_⟩
  rcases Qh I S (lkm hc) with ⟨_,q,_⟩ | ⟨q,_,_⟩
  ·rcases lk with ⟨z,_⟩ | ⟨_,c',hc',cell⟩
   ·exfalso
    rcases S.free _ hx rfl with k | k<;>(rw [k] at z;cases z)
   ·rw [q] at hc';cases hc'
    exact cell.keeps hk
  ·exfalso
   have a1:=Zu S.nd hx
   have a2:=Zu S.nd q
   rw [a1] at a2;cases a2
 ·rcases Qh I S (lkm e) with ⟨_,q,_⟩ | ⟨_,_,q⟩
  ·obtain ⟨v,z⟩:=I.cell x c q
   exact ⟨v,z.keeps hk⟩
  ·exact ⟨_,q _ hsz⟩
 ·rcases Qh I S (lkm e) with ⟨_,q,_⟩ | ⟨_,q,_⟩
  ·exact I.freeC x c q
  ·exact I.hok.fresh (Nat.le_of_lt q)
 ·have hp':p∈([]:List (Addr × Obj)):=hp
  cases hp'
end
noncomputable abbrev yZ:=Addr->St->Hp->(St->Hp->Prop)->Prop
noncomputable def Qy (elt:Expr)(gens:List Comprehension)(sc:Scope)(pos:Pos)(d:Nat)(acc:Value)(env:Env)(k:Sem Fin):Sem Fin:=
 match gens[d+1]? with
 | some g'=>do
  let x <- eval g'.iter env
  standAt g'.iter.pos
  let x <- foldedSetIterable g'.iter env x
  let _ <- runOwn (.compStart (.ListComp elt gens sc pos) (d+1) (<- holding [x] (pyIter x)) acc env) env
  k
 | none=>do
  (do let _ <- call (.builtin "list.append") [acc,<- eval elt env])
  k
theorem Nt {elt tg iter:Expr}{ifs:List Expr}{gens:List Comprehension}{sc:Scope}{pos:Pos}{d:Nat}{it acc:Value}{env:Env}(hg:gens[d]? =some ⟨tg,iter,ifs,0⟩)(ha:∀g',gens[d+1]? =some g'->g'.is_async=0):
  compTurn (.ListComp elt gens sc pos) d it acc env=(do
   standAt iter.pos
   match <- pyNext it with
   | none=>pure (.done .next)
   | some v=>
    letOwnedTupleGo tg it v
    assign tg env v
    let mut ok:=true
    for c in ifs do
     if ok then ok <- isTrue c env (eval c env)
    if ok then Qy elt gens sc pos d acc env (again (.compLoop (.ListComp elt gens sc pos) d it acc env))
    else again (.compLoop (.ListComp elt gens sc pos) d it acc env)):=by
 unfold compTurn Qy
 dsimp only
 rw [hg]
 cases hn:gens[d+1]? with
 | none=>rfl
 | some g'=>
  obtain ⟨t',i',f',a'⟩:=g'
  have e:a'=0:=ha _ hn
  subst e
  rfl
noncomputable def wQ (X:Cx)(ifs:List Expr)(t:TT):Prop:=
 ∀(pins:List (Addr × Obj)) (s:Shared) (σ:St) (H:Hp) (Q:Bool->Hp->Prop),Inv X pins σ H s->t σ H Q->
  wpAny (model X.prog X.w) X.A (forIn ifs true λ c r=>if r=true then do let ok <- isTrue c X.env (eval c X.env);pure (ForInStep.yield ok) else pure (ForInStep.yield r)) (TP X pins σ Q) X.xe s
noncomputable def Ik:TT:=λ _ H Q=>Q true H
theorem Pu {X:Cx}:wQ X [] Ik:=λ pins s σ H Q I h=>wpAny_tests_nil ⟨H,I,h⟩
theorem P1 {X:Cx}{c:Expr}{t:TT}(h:PT X c t):wQ X [c] t:=λ pins s σ H Q I hw=>wpAny_tests_one (h pins s σ H Q I hw)
noncomputable def yP (X:Cx)(elt:Expr)(gens:List Comprehension)(sc:Scope)(pos:Pos)(d:Nat)(t:yZ):Prop:=
 ∀(pins:List (Addr × Obj)) (s:Shared) (σ:St) (H:Hp) (D:Addr) (Q:St->Hp->Prop) (k:Sem Fin) (Q':Fin->Shared->Prop) (E:Value->Shared->Prop),Inv X pins σ H s->t D σ H Q->
  (∀s' σ' H',Inv X pins σ' H' s'->Q σ' H'->wpAny (model X.prog X.w) X.A k Q' E s')->wpAny (model X.prog X.w) X.A (Qy elt gens sc pos d (.ref D) X.env k) Q' E s
noncomputable def Ir (te:TE):yZ:=λ D σ H Q=>te σ H λ y H1=>∃ys,H1 D=some (.lst ys)/\ys.length<sizeLine/\Q σ (upd H1 D (.lst (ys++[y])))
noncomputable def Qt (J:It)(g:TG)(ti:TT)(tm:yZ):yZ:=λ D σ H Q=>∃W:Nat->Nat->St->Hp->Prop,(∃m,W 0 m σ H)/\∀i m σ H,W i m σ H->
 (J.stop i H/\Q σ H)∨(J.go i H/\∃N:St->Hp->Prop,(∀σ' H',N σ' H'->∃m',m'<m/\W (i+1) m' σ' H')/\∀x H',J.yld i H x H'->g x σ H' λ σ1 H1=>ti σ1 H1 λ b Hb=>if b=true then tm D σ1 Hb N else N σ1 Hb)
noncomputable def Iz (wi:TI)(g:TG)(ti:TT)(tm:yZ):yZ:=λ D σ H Q=>wi σ H λ J H1=>Qt J g ti tm D σ H1 Q
section
variable {X:Cx}{elt tg iter:Expr}{ifs:List Expr}{gens:List Comprehension}{sc:Scope}{pos:Pos}{d:Nat}
theorem ZL (hx:∀e s,X.xe e s->False){α:Type}{t:Sem α}{Q':α->Shared->Prop}{E:Value->Shared->Prop}{s':Shared}(hh:wpAny (model X.prog X.w) X.A t Q' X.xe s'):wpAny (model X.prog X.w) X.A t Q' E s':=
 wpAny_mono hh (λ _ _ z=>z) λ e s' z=>(hx e s' z).elim
theorem Of {te:TE}(hx:∀e s,X.xe e s->False)(he:PE X elt te)(hg:gens[d+1]? =none):yP X elt gens sc pos d (Ir te):=by
 intro pins s σ H D Q k Q' E I h hk
 unfold Qy
 rw [hg]
 refine wpAny_bind (wpAny_bind (ZL hx (zO (he pins s σ H _ I h) λ u s1 ⟨y,H1,I1,r1,ys,e1,z1,q1⟩=>?_)))
 refine wpAny_bind (ZL hx (zO (XB pins s1 σ H1 (.ref D) [y] (.ref D) [u] (λ _ H'=>Q σ H') I1 rfl (.cons r1 .nil) ⟨D,ys,y,rfl,rfl,e1,z1,q1⟩) λ _ s2 ⟨_,H2,I2,_,q2⟩=>?_))
 exact wpAny_pure (hk s2 σ H2 I2 q2)
theorem NV {g:TG}{ti:TT}{tm:yZ}(hx:∀e s,X.xe e s->False)(hc:X.calm=true)(hg:gens[d]? =some ⟨tg,iter,ifs,0⟩)(ha:∀g',gens[d+1]? =some g'->g'.is_async=0)(hgt:PG X tg g)(hi:wQ X ifs ti)(hm:yP X elt gens sc pos d tm)
  {pins:List (Addr × Obj)}{σ:St}{H:Hp}{s:Shared}{D:Addr}{Q:St->Hp->Prop}{J:It}{it:Addr}{fp:List Addr}{tn:Nat->Heap->Prop}(T:Turn X.prog X.w X.K tg J fp it tn)(I:Inv X pins σ H s)(st:tn 0 s.heap)(hf:∀b∈fp,yG X pins H b)
  (h:Qt J g ti tm D σ H Q){R:Result->Shared->Prop}(hR:∀s' σ' H',Inv X pins σ' H' s'->Q σ' H'->R (.ok .next) s'):
  codeAny (model X.prog X.w) X.A (.compLoop (.ListComp elt gens sc pos) d (.ref it) (.ref D) X.env) R s:=by
 obtain ⟨W,⟨m0,w0⟩,turn⟩:=h
 have stat:∀{H':Hp},(∀b∈fp,H' b=none)->∀b∈fp,yG X pins H' b:=λ hn b hb=>⟨hn b hb,(hf b hb).2⟩
 refine codeAny_loop rfl (λ n s'=>∃i σ' H',Inv X pins σ' H' s'/\tn i s'.heap/\(∀b∈fp,H' b=none)/\W i n σ' H') (λ n s3 hI=>?_) m0 ⟨0,σ,H,I,st,λ b hb=>(hf b hb).1,w0⟩
 show wpAny _ X.A ((compTurn (.ListComp elt gens sc pos) d (.ref it) (.ref D) X.env).onRaise (λ x=>do noteFrame x X.env;theTreesLotGoes x)) _ _ s3
 refine wpAny_noted ?_
 rw [Nt hg ha]
 refine wpAny_bind (wpAny_standAt ?_)
 obtain ⟨i,σ3,H3,I3,kx,fr3,w3⟩:=hI
 rcases turn i n σ3 H3 w3 with ⟨stop,qn⟩ | ⟨go,N,hN,step⟩
 ·refine wpAny_bind (zO (T.done X rfl rfl rfl hc i pins s3 σ3 H3 _ I3 (stat fr3) kx stop) λ r s4 ⟨hr,I4⟩=>?_)
  subst hr
  exact wpAny_pure (hR s4 σ3 H3 I4 qn)
 ·refine wpAny_bind (zO (T.item X rfl rfl rfl hc i pins s3 σ3 H3 _ I3 (stat fr3) kx go) λ r s4 ⟨u,hr,h4⟩=>?_)
  subst hr
  refine wpAny_bind (zO h4 λ _ s5 ⟨x,H5,I5,r5,y5,st5,fr5⟩=>?_)
  have I5':=I5.pinned (stat fr5) (T.obj _ _ st5)
  have back:∀{σ7:St} {H7:Hp} {s7:Shared},Inv X (pins++Qn fp s5.heap) σ7 H7 s7->N σ7 H7->∃m,m<n/\∃i σ' H',Inv X pins σ' H' s7/\tn i s7.heap/\(∀b∈fp,H' b=none)/\W i m σ' H':=λ {σ7 H7 s7} I7 n7=>by
   obtain ⟨m',hm,w7⟩:=hN σ7 H7 n7
   refine ⟨m',hm,i+1,σ7,H7,I7.unpinned,T.keep _ _ _ st5 λ b hb o e=>(I7.pin (b,o) (List.mem_append_right _ (List.mem_append_right _ (Q7 hb e)))).1,λ b hb=>?_,w7⟩
   obtain ⟨o,e,d⟩:=T.obj _ _ st5 b hb
   exact (I7.pin (b,o) (List.mem_append_right _ (List.mem_append_right _ (Q7 hb e)))).2.1
  refine wpAny_bind (ZL hx (zO (hgt _ s5 σ3 H5 x u _ I5' r5 (step x H5 y5)) λ _ s6 ⟨σ6,H6,I6,q6⟩=>?_))
  refine wpAny_bind (ZL hx (zO (hi _ s6 σ6 H6 _ I6 q6) λ ok s7 ⟨H7,I7,q7⟩=>?_))
  cases ok with
  | false=>exact wpAny_pure ⟨rfl,back I7 q7⟩
  | true=>
   rw [if_pos rfl] at q7
   exact hm _ s7 σ6 H7 D _ _ _ _ I7 q7 λ s8 σ8 H8 I8 q8=>wpAny_pure ⟨rfl,back I8 q8⟩
theorem Uq {g:TG}{ti:TT}{tm:yZ}(hx:∀e s,X.xe e s->False)(hc:X.calm=true)(hg:gens[d]? =some ⟨tg,iter,ifs,0⟩)(ha:∀g',gens[d+1]? =some g'->g'.is_async=0)(hgt:PG X tg g)(hi:wQ X ifs ti)(hm:yP X elt gens sc pos d tm)
  {pins:List (Addr × Obj)}{σ:St}{H:Hp}{s:Shared}{D:Addr}{Q:St->Hp->Prop}{J:It}{it:Addr}{fp:List Addr}{tn:Nat->Heap->Prop}(T:Turn X.prog X.w X.K tg J fp it tn)(I:Inv X pins σ H s)(st:tn 0 s.heap)(hf:∀b∈fp,yG X pins H b)
  (h:Qt J g ti tm D σ H Q){R:Result->Shared->Prop}(hR:∀s' σ' H',Inv X pins σ' H' s'->Q σ' H'->R (.ok .next) s'):
  codeAny (model X.prog X.w) X.A (.compStart (.ListComp elt gens sc pos) d (.ref it) (.ref D) X.env) R s:=by
 have loop:=NV hx hc hg ha hgt hi hm T I st hf h hR
 refine codeAny_of_tree ?_
 show wpAny _ _ ((compStart (.ListComp elt gens sc pos) d (.ref it) (.ref D) X.env).onRaise (λ x=>do noteFrame x X.env;standAt theWindowsPlace)) _ _ s
 refine wpAny_notedAt ?_
 unfold compStart
 have hcl:(clausesOf (.ListComp elt gens sc pos))[d]? =some ⟨tg,iter,ifs,0⟩:=hg
 rw [hcl]
 show wpAny _ _ (ask >>= _) _ _ s
 refine wpAny_bind (wpAny_askSetting (wpAny_ite ?_))
 split
 ·first
   | exact wpAny_bind (wpAny_pure (wpAny_pure (And.intro rfl loop)))
   | exact wpAny_pure (And.intro rfl loop)
 ·first
   | exact wpAny_bind (wpAny_rule (wpAny_bind (wpAny_standAt (wpAny_bind (T.self _ 0 s _ _ st (wpAny_pure (And.intro rfl loop)))))))
   | (refine wpAny_bind (wpAny_rule ?_);show wpAny _ _ (standAt iter.pos >>= _) _ _ s;exact wpAny_bind (wpAny_standAt (wpAny_bind (T.self _ 0 s _ _ st (wpAny_pure (And.intro rfl loop))))))
theorem Pj {wi:TI}{g:TG}{ti:TT}{tm:yZ}(hx:∀e s,X.xe e s->False)(hc:X.calm=true)(hg:gens[d+1]? =some ⟨tg,iter,ifs,0⟩)(ha:∀g',gens[d+2]? =some g'->g'.is_async=0)(hw:PI X tg iter wi)(hgt:PG X tg g)(hi:wQ X ifs ti)(hm:yP X elt gens sc pos (d+1) tm)
  (hs:∀x,foldedSetIterable iter X.env x=pure x:=by intro _;rfl):yP X elt gens sc pos d (Iz wi g ti tm):=by
 intro pins s σ H D Q k Q' E I h hk
 unfold Qy
 rw [hg]
 refine wpAny_bind (ZL hx (zO (hw pins s σ H _ I h) λ v s1 h1=>?_))
 refine wpAny_bind (wpAny_standAt (wpAny_bind (wpAny_of_eq (hs v) ?_)))
 refine wpAny_bind (wpAny_holding (ZL hx (zO h1 λ itv s2 h2=>?_)))
 obtain ⟨it,fp,tn,J,H2,e,I2,T,yX,f2,q2⟩:=h2
 subst e
 refine wpAny_bind (wpAny_runOwn (Uq hx hc hg ha hgt hi hm T I2 yX f2 q2 λ s' σ' H' I' q'=>?_))
 exact hk s' σ' H' I' q'
end
noncomputable def wg (nl:Nat)(cap:List Nat)(σ:St):St:=List.replicate nl none++cap.map λ i=>(σ[i]?).join
noncomputable def Zc (M N:List Str)(scope:Scope)(nl:Nat)(cap:List Nat):Bool:=
 N.length==nl+cap.length&&(List.range cap.length).all λ k=>match N[nl+k]?,M[cap.getD k 0]? with
  | some x,some y=>x==y&&scope.names.any λ z=>z.1==x&&z.2==NameKind.free
  | _,_=>false
theorem P9 {M N:List Str}{scope:Scope}{nl:Nat}{cap:List Nat}(h:Zc M N scope nl cap=true){σ:St}:(wg nl cap σ).length=N.length/\
  ∀(j:Nat) (x:Str) (v:V),N[j]? =some x->(wg nl cap σ)[j]? =some (some v)->(x,NameKind.free)∈scope.names/\∃i:Nat,M[i]? =some x/\σ[i]? =some (some v):=by
 unfold Zc at h
 rw [Bool.and_eq_true,beq_iff_eq] at h
 obtain ⟨h1,h2⟩:=h
 refine ⟨by unfold wg;simp [h1],λ j x v e1 e2=>?_⟩
 unfold wg at e2
 by_cases hj:j<nl
 ·rw [List.getElem?_append_left (by simpa using hj),List.getElem?_replicate] at e2
  split at e2<;>cases e2
 ·rw [List.getElem?_append_right (by simpa using hj),List.length_replicate,List.getElem?_map] at e2
  cases hc:cap[j - nl]? with
  | none=>rw [hc] at e2;cases e2
  | some i=>
   rw [hc] at e2
   have e2':(σ[i]?).join=some v:=Option.some.inj e2
   have hk:j - nl<cap.length:=(List.getElem?_eq_some_iff.mp hc).1
   have h3:=List.all_eq_true.mp h2 (j - nl) (List.mem_range.mpr hk)
   have ej:nl+(j - nl)=j:=by omega
   rw [ej,e1] at h3
   have ec:cap.getD (j - nl) 0=i:=by rw [List.getD_eq_getElem?_getD,hc];rfl
   rw [ec] at h3
   cases hm:M[i]? with
   | none=>rw [hm] at h3;cases h3
   | some y=>
    rw [hm] at h3
    rw [Bool.and_eq_true,beq_iff_eq] at h3
    obtain ⟨h4,h5⟩:=h3
    subst h4
    obtain ⟨z,hz,hz2⟩:=List.any_eq_true.mp h5
    rw [Bool.and_eq_true,beq_iff_eq,beq_iff_eq] at hz2
    refine ⟨?_,i,hm,?_⟩
    ·obtain ⟨z1,z2⟩:=z
     obtain ⟨a1,a2⟩:=hz2
     cases a1;cases a2
     exact hz
    ·cases hs:σ[i]? with
     | none=>rw [hs] at e2';cases e2'
     | some o=>rw [hs] at e2';cases o with
      | none=>cases e2'
      | some w=>cases e2';rfl
noncomputable abbrev yn:Value->Shared->Prop:=λ _ _=>False
noncomputable def JB (K:Frag)(wi:TI)(g:TG)(ti:TT)(tm:yZ)(nl:Nat)(cap:List Nat):TE:=λ σ H Q=>wi σ H λ J H2=>∀D,H2 D=none->K.lookup D=none->Qt J g ti tm D (wg nl cap σ) (upd H2 D (.lst [])) λ _ H'=>Q (.ref D) H'
section
variable {X:Cx}{elt tg iter:Expr}{ifs:List Expr}{gs:List Comprehension}{sc:Scope}{pos p:Pos}{wi:TI}{g:TG}{ti:TT}{tm:yZ}{N:List Str}{nl:Nat}{cap:List Nat}
theorem VC (hc:X.calm=true)(S:wF X sc)(hcap:Zc X.N N sc nl cap=true)(ha:∀g',gs[0]? =some g'->g'.is_async=0)(hw:PI X tg iter wi)
  {pins:List (Addr × Obj)}{σ:St}
  (hin:∀s H fp,Inv X pins σ H s->(∀b∈fp,yG X pins H b)->PG (jG X N sc s H fp yn) tg g/\wQ (jG X N sc s H fp yn) ifs ti/\yP (jG X N sc s H fp yn) elt (⟨tg,iter,ifs,0⟩::gs) sc pos 0 tm)
  {H:Hp}{s:Shared}{Q:VK}(I:Inv X pins σ H s)(h:JB X.K wi g ti tm nl cap σ H Q)
  {use:Option (Value->Sem Unit)}{Q':Value->Shared->Prop}
  (hend:∀(D C:Addr) (s':Shared) (H':Hp) (m:Str->Option Value),Inv X pins σ H' s'->Q (.ref D) H'->s'.heap.Ns C m->H' C=none->C≠X.env.locals->X.s0.heap.objs.size<=C->(∀x c,X.env.cells.lookup x=some c->c≠C)->(∀q∈X.pn++pins,q.1≠C)->
   compPost (model X.prog X.w) X.A X.xe use Q' (.ref D) C (.ok .next) s')
  (hs:∀x,foldedSetIterable iter X.env x=pure x:=by intro _;rfl):
  wpAny (model X.prog X.w) X.A (comprehension (.ListComp elt (⟨tg,iter,ifs,0⟩::gs) sc pos) sc X.env p (newList []) false (eval iter X.env) use) Q' X.xe s:=by
 have hfree:∀y∈sc.names,y.2=.free->∃c,X.env.cells.lookup y.1=some c:=λ y hy e=>I.ok.has _ (S.free y hy e)
 refine wpAny_comprehension_free (use:=use) rfl hs (SR hfree) S.kind (λ y hy e=>by
  obtain ⟨y1,y2⟩:=y
  have e':y2=.local:=e
  subst e'
  exact Zu S.nd hy) ?_
 refine zO (hw pins s σ H _ I h) λ v s1 h1=>zO h1 λ itv s2 h2=>?_
 obtain ⟨it,fp,tn,J,H2,e,I2,T,yX,f2,q2⟩:=h2
 subst e
 refine wpAny_newObj_type ?_
 have hD:H2 s2.heap.objs.size=none:=I2.fresh
 have hKD:X.K.lookup s2.heap.objs.size=none:=by
  cases ek:X.K.lookup s2.heap.objs.size with
  | none=>rfl
  | some o=>exact absurd (Heap.lt_size (I2.kIn _ _ ek)) (Nat.lt_irrefl _)
 have q3:=q2 _ hD hKD
 generalize hs3:({ s2 with heap:=s2.heap.push { cls:=.type "list",data:=.seq ([]:List Value).toArray } }:Shared)=s3
 have hs3':s3={ s2 with heap:=s2.heap.push { cls:=.type "list",data:=.seq ([]:List Value).toArray } }:=hs3.symm
 have I3:Inv X pins σ (upd H2 s2.heap.objs.size (.lst [])) s3:=by
  rw [hs3']
  exact I2.laid (t':=s2.toks) (λ b u e=>Heap.get?_push_of_some _ e) (Nat.le_refl _) ⟨by simp,[],0,.nil,Heap.get?_push_size _ rfl⟩
 have fpo:∀b∈fp,∃o,s2.heap.get? b=some o:=λ b hb=>let ⟨o,e,_⟩:=T.obj 0 _ yX b hb;⟨o,e⟩
 have sz3:s3.heap.objs.size=s2.heap.objs.size+1:=by rw [hs3'];exact Heap.size_push ..
 have kx:tn 0 s3.heap:=T.keep _ _ _ yX λ b hb o e=>by rw [hs3'];exact Heap.get?_push_of_some _ e
 have fl3:∀b∈fp,b<s3.heap.objs.size:=λ b hb=>by
  obtain ⟨o,e⟩:=fpo b hb
  rw [sz3];exact Nat.lt_succ_of_lt (Heap.lt_size e)
 have f3:∀b∈fp,yG X pins (upd H2 s2.heap.objs.size (.lst [])) b:=λ b hb=>by
  obtain ⟨o,e⟩:=fpo b hb
  refine ⟨?_,(f2 b hb).2⟩
  rw [qf (Nat.ne_of_lt (Heap.lt_size e))]
  exact (f2 b hb).1
 generalize upd H2 s2.heap.objs.size (.lst [])=H3 at I3 f3 q3
 generalize s2.heap.objs.size=D at q3 ⊢
 refine U8 ?_
 obtain ⟨cl,cs⟩:=P9 hcap (σ:=σ)
 have I4:=Pp (xe:=yn) I3 S f3 fl3 cl cs
 obtain ⟨hgt,hi,hm⟩:=hin s3 H3 fp I3 f3
 refine Uq (X:=jG X N sc s3 H3 fp yn) (gens:=⟨tg,iter,ifs,0⟩::gs) (d:=0) (λ _ _ z=>z) hc rfl ha hgt hi hm T I4 (T.keep _ _ _ kx λ b hb o e=>pushCells_keeps _ _ _ _ (Heap.get?_push_of_some _ e)) (λ b hb=>?_) q3 λ s' σ' H' I' q'=>?_
 ·obtain ⟨g1,g2,g3,g4,g5,g6⟩:=f3 b hb
  refine ⟨g1,Nat.ne_of_lt (fl3 b hb),λ z=>?_,.inl hb,(I4.ok.exf b hb).2,λ p hp=>absurd (show p∈([]:List (Addr × Obj)) from hp) (by simp)⟩
  rcases List.mem_cons.mp (I3.stkSub b z) with e | e
  ·exact g2 e
  ·exact g3 e
 ·have I5:Inv X pins σ H' s':=I3.call' I'.os I'.base I'.hok I'.bare λ b hb=>by
   obtain ⟨g1,g2,g3,g4,g5,g6⟩:=f3 b hb
   exact ⟨g4,g2,g5,g6⟩
  obtain ⟨m,hn,_⟩:=I'.loc
  refine hend D _ s' H' m I5 q' hn I'.free (Nat.ne_of_gt I3.lt) I3.sz (λ x c e z=>?_) λ q hq z=>?_
  ·obtain ⟨v,w⟩:=I3.cell x c e
   exact Nat.lt_irrefl _ (Nat.lt_of_lt_of_le w.lt (by rw [z];exact Nat.le_refl _))
  ·exact Nat.lt_irrefl _ (Nat.lt_of_lt_of_le (Heap.lt_size (I3.pin q hq).1) (by rw [z];exact Nat.le_refl _))
theorem OU (hc:X.calm=true)(S:wF X sc)(hcap:Zc X.N N sc nl cap=true)(ha:∀g',gs[0]? =some g'->g'.is_async=0)(hw:PI X tg iter wi)
  (hin:∀s H fp,PG (jG X N sc s H fp yn) tg g/\wQ (jG X N sc s H fp yn) ifs ti/\yP (jG X N sc s H fp yn) elt (⟨tg,iter,ifs,0⟩::gs) sc pos 0 tm)
  (hs:∀x,foldedSetIterable iter X.env x=pure x:=by intro _;rfl):PE X (.ListComp elt (⟨tg,iter,ifs,0⟩::gs) sc pos) (JB X.K wi g ti tm nl cap):=by
 intro pins s σ H Q I h
 rw [eval_ListComp]
 refine VC (use:=none) hc S hcap ha hw (λ s H fp _ _=>hin s H fp) I h (λ D C s' H' m I' q hn h1 h2 h3 h4 h5=>?_) hs
 exact ⟨m,hn,λ h' sb=>⟨.ref D,H',I'.turned (t':=s'.toks) (λ b o hb e=>(sb.2 b hb).trans e) h1 h2 (.inr h3) h4 h5,rfl,q⟩⟩
theorem Ra {i:Nat}{x:Str}{px:Pos}{spos:Pos}(hN:X.N.Nodup)(hi':X.N[i]? =some x)(hx:X.env.scope.names.lookup x=some .local)
  (hsw:swapsWith (.ListComp elt (⟨tg,iter,ifs,0⟩::gs) sc pos) (some (.Name x px)) spos.line X.env=pure true)
  (hc:X.calm=true)(S:wF X sc)(hcap:Zc X.N N sc nl cap=true)(ha:∀g',gs[0]? =some g'->g'.is_async=0)(hw:PI X tg iter wi)
  (hin:∀s H fp,PG (jG X N sc s H fp yn) tg g/\wQ (jG X N sc s H fp yn) ifs ti/\yP (jG X N sc s H fp yn) elt (⟨tg,iter,ifs,0⟩::gs) sc pos 0 tm)
  (hs:∀x,foldedSetIterable iter X.env x=pure x:=by intro _;rfl):PS X (.Assign [.Name x px] (.ListComp elt (⟨tg,iter,ifs,0⟩::gs) sc pos) spos) (JV (JB X.K wi g ti tm nl cap) (JC i)):=by
 intro pins s σ H D I h
 rw [exec_Assign_Name_used _ _ _ _ hsw]
 refine wpAny_bind (wpAny_standAt (wpAny_bind ?_))
 show wpAny _ X.A (do let _ <- comprehension (.ListComp elt (⟨tg,iter,ifs,0⟩::gs) sc pos) sc X.env _ (newList []) false (eval iter X.env) (some (assign (.Name x px) X.env))) _ _ s
 refine wpAny_bind (wpAny_mono (VC (use:=some (assign (.Name x px) X.env)) (Q':=λ _ s'=>SP X pins D .next s') hc S hcap ha hw (λ s H fp _ _=>hin s H fp) I h (λ D' C s' H' m I' q hn h1 h2 h3 h4 h5=>?_) hs) (λ _ s' hq=>wpAny_pure (wpAny_pure hq)) λ _ _ e=>e)
 show wpAny _ X.A (assign (.Name x px) X.env (.ref D')) _ _ _
 refine wpAny_assign_Name (Xt I' hN hi' (.inl hx) (v:=.ref D') rfl (λ s2 I2 ⟨a,sb,ea⟩=>?_) (.inr hx))
 have hCa:C≠a:=by
  rcases ea with e | e
  ·rw [e];exact h2
  ·exact λ z=>h4 x a e z.symm
 refine ⟨m,hn.sameBut sb hCa,λ h' sb'=>⟨_,H',I2.turned (t':=s2.toks) (λ b o hb e=>(sb'.2 b hb).trans e) h1 h2 (.inr h3) h4 h5,q⟩⟩
end
end L2
namespace Mi
open PySem PySem.Spec PyProof.Rows L2
inductive W where
 | non | bl (b:Bool) | int (i:Int) | str (x:Str) | tup (xs:List W) | ref (n:Nat)
 | clo (k:Nat) (xs:List W) (P:Obj->Addr->Obj->List V->Prop)
 | xc (x:Str)
inductive O where
 | lst (xs:List W) | ro (xs:List W) | dct (kvs:List (Key × W))
 | tab (q:Str) (P:Addr)
noncomputable def O.mut:O->Bool
 | .ro _=>false
 | _=>true
noncomputable abbrev Hx:=List O
noncomputable abbrev En:=List (Option W)
inductive R (α:Type) where
 | ok (a:α) (A:Hx) | exc (x:Str) (A:Hx) | bad
noncomputable def R.bind {α β:Type}(r:R α)(f:α->Hx->R β):R β:=match r with
 | .ok a A=>f a A
 | .exc x A=>.exc x A
 | .bad=>.bad
noncomputable def R.post {α:Type}(r:R α)(P:α->Hx->Prop)(E:Str->Hx->Prop):Prop:=match r with
 | .ok a A=>P a A
 | .exc x A=>E x A
 | .bad=>False
noncomputable def R.nox {α:Type}(r:R α):R α:=match r with
 | .ok a A=>.ok a A
 | .exc _ _=>.bad
 | .bad=>.bad
section
variable {α β:Type}{r:R α}{f:α->Hx->R β}{P Q:α->Hx->Prop}{P':β->Hx->Prop}{E F:Str->Hx->Prop}
theorem zE {a:α}{A:Hx}:(R.ok a A).bind f=f a A:=rfl
theorem zU:(r.bind f).post P' E↔r.post (λ a A=>(f a A).post P' E) E:=by cases r<;>exact Iff.rfl
theorem qe (h:r.post P E)(hP:∀a A,P a A->Q a A)(hE:∀x A,E x A->F x A):r.post Q F:=by
 cases r with
 | ok a A=>exact hP _ _ h
 | exc x A=>exact hE _ _ h
 | bad=>exact h
end
noncomputable abbrev Ev:=En->Hx->R W
inductive Hm (K:Frag)(H:Hp)(R:List V->Prop)(v:V):Prop
 | mk (a:Addr) (vs:List V) (e:v=.ref a) (h:qd K H a vs) (r:R vs)
inductive I0 (H:Hp)(P:Obj->Addr->Obj->List V->Prop)(R:List V->Prop)(v:V):Prop
 | mk (a:Addr) (ob:Obj) (u:HO) (c:Addr) (oc:Obj) (uc:HO) (vs:List V) (e:v=.ref a) (h1:H a=some (.frz ob u)) (h2:H c=some (.frz oc uc)) (p:P ob c oc vs) (r:R vs)
inductive Hf (R:V->Prop)(Rs:List V->Prop)(vs:List V):Prop
 | mk (v:V) (r:List V) (e:vs=v::r) (h:R v) (t:Rs r)
mutual
noncomputable def RV (K:Frag)(φ:List Addr)(H:Hp):W->V->Prop
 | .non,v=>v=.non
 | .bl b,v=>v=.bl b
 | .int i,v=>v=.int i
 | .str x,v=>v=.str x
 | .tup ws,v=>Hm K H (zx K φ H ws) v
 | .ref n,v=>∃a,v=.ref a/\φ[n]? =some a
 | .clo _ ws P,v=>I0 H P (zx K φ H ws) v
 | .xc x,v=>∃a oe u C,v=.ref a/\H a=some (.frz oe u)/\oe.cls=.ref C/\PySem.W.nsIn K mainGlobals x=some (some (.ref C))
noncomputable def zx (K:Frag)(φ:List Addr)(H:Hp):List W->List V->Prop
 | [],vs=>vs=[]
 | w::ws,vs=>Hf (RV K φ H w) (zx K φ H ws) vs
end
structure Le (K:Frag)(φ:List Addr)(H:Hp)(φ':List Addr)(H':Hp):Prop where
 ex:∀(n:Nat) (a:Addr),φ[n]? =some a->φ'[n]? =some a
 tp:∀a vs,qd K H a vs->qd K H' a vs
 fr:∀a o,H a=some o->(∀n:Nat,φ[n]?≠some a)->H' a=some o
 nw:∀(n:Nat) (a:Addr),φ'[n]? =some a->φ[n]? =some a∨H a=none
 st:∀a,H' a=none->H a=none
 fz:∀a o u,H a=some (.frz o u)->H' a=some (.frz o u)
theorem Le.refl {K φ H}:Le K φ H φ H:=⟨λ _ _ h=>h,λ _ _ h=>h,λ _ _ h _=>h,λ _ _ h=>.inl h,λ _ h=>h,λ _ _ _ h=>h⟩
theorem Le.trans {K φ H φ1 H1 φ2 H2}(a:Le K φ H φ1 H1)(b:Le K φ1 H1 φ2 H2):Le K φ H φ2 H2 where
 ex:=λ n x h=>b.ex n x (a.ex n x h)
 tp:=λ n x h=>b.tp n x (a.tp n x h)
 fr:=λ c o h n=>b.fr c o (a.fr c o h n) λ k e=>by
  rcases a.nw k c e with e | e
  ·exact n k e
  ·rw [h] at e;cases e
 nw:=λ n c e=>by
  rcases b.nw n c e with e | e
  ·exact a.nw n c e
  ·exact .inr (a.st c e)
 st:=λ c e=>a.st c (b.st c e)
 fz:=λ c o u h=>b.fz c o u (a.fz c o u h)
theorem Le.off {K φ H φ' H'}(l:Le K φ H φ' H'){D:Addr}{o:HO}(h:H D=some o)(n:∀k:Nat,φ[k]?≠some D):H' D=some o/\∀k:Nat,φ'[k]?≠some D:=
 ⟨l.fr D o h n,λ k e=>by
  rcases l.nw k D e with e | e
  ·exact n k e
  ·rw [h] at e;cases e⟩
section
variable {K:Frag}{φ φ':List Addr}{H H':Hp}
structure wX (K:Frag)(φ:List Addr)(H:Hp)(φ':List Addr)(H':Hp):Prop where
 ex:∀(n:Nat) (a:Addr),φ[n]? =some a->φ'[n]? =some a
 tp:∀a vs,qd K H a vs->qd K H' a vs
 fz:∀a o u,H a=some (.frz o u)->H' a=some (.frz o u)
mutual
theorem RV.monoW (l:wX K φ H φ' H'):∀{w:W} {v:V},RV K φ H w v->RV K φ' H' w v
 | .non,_,h=>h
 | .bl _,_,h=>h
 | .int _,_,h=>h
 | .str _,_,h=>h
 | .tup ws,_,⟨a,vs,e,t,r⟩=>⟨a,vs,e,l.tp _ _ t,zx.monoW l r⟩
 | .ref n,_,⟨a,e,f⟩=>⟨a,e,l.ex _ _ f⟩
 | .clo _ ws P,_,⟨a,ob,u,c,oc,uc,vs,e,h1,h2,h3,r⟩=>⟨a,ob,u,c,oc,uc,vs,e,l.fz _ _ _ h1,l.fz _ _ _ h2,h3,zx.monoW l r⟩
 | .xc x,_,⟨a,oe,u,C,e,h1,h2⟩=>⟨a,oe,u,C,e,l.fz _ _ _ h1,h2⟩
theorem zx.monoW (l:wX K φ H φ' H'):∀{ws:List W} {vs:List V},zx K φ H ws vs->zx K φ' H' ws vs
 | [],_,h=>h
 | w::ws,_,⟨v,r,e,h,t⟩=>⟨v,r,e,RV.monoW l h,zx.monoW l t⟩
end
theorem RV.mono {w:W}{v:V}(h:RV K φ H w v)(l:Le K φ H φ' H'):RV K φ' H' w v:=RV.monoW ⟨l.ex,l.tp,l.fz⟩ h
theorem zx.mono {w:List W}{v:List V}(h:zx K φ H w v)(l:Le K φ H φ' H'):zx K φ' H' w v:=zx.monoW ⟨l.ex,l.tp,l.fz⟩ h
structure j4 (K:Frag)(D:Addr)(φ:List Addr)(H:Hp)(φ':List Addr)(H':Hp):Prop where
 ex:∀(n:Nat) (a:Addr),φ[n]? =some a->φ'[n]? =some a
 tp:∀a vs,qd K H a vs->qd K H' a vs
 fr:∀a o,a≠D->H a=some o->(∀n:Nat,φ[n]?≠some a)->H' a=some o
 nw:∀(n:Nat) (a:Addr),φ'[n]? =some a->φ[n]? =some a∨H a=none
 st:∀a,H' a=none->H a=none
 fz:∀a o u,H a=some (.frz o u)->H' a=some (.frz o u)
theorem j4.refl {D}:j4 K D φ H φ H:=⟨λ _ _ h=>h,λ _ _ h=>h,λ _ _ _ h _=>h,λ _ _ h=>.inl h,λ _ h=>h,λ _ _ _ h=>h⟩
theorem Le.toD {D}(l:Le K φ H φ' H'):j4 K D φ H φ' H':=⟨l.ex,l.tp,λ a o _ h n=>l.fr a o h n,l.nw,l.st,l.fz⟩
theorem j4.trans {D φ1 H1 φ2 H2}(a:j4 K D φ H φ1 H1)(b:j4 K D φ1 H1 φ2 H2):j4 K D φ H φ2 H2 where
 ex:=λ n x h=>b.ex n x (a.ex n x h)
 tp:=λ n x h=>b.tp n x (a.tp n x h)
 fr:=λ c o ne h n=>b.fr c o ne (a.fr c o ne h n) λ k e=>by
  rcases a.nw k c e with e | e
  ·exact n k e
  ·rw [h] at e;cases e
 nw:=λ n c e=>by
  rcases b.nw n c e with e | e
  ·exact a.nw n c e
  ·exact .inr (a.st c e)
 st:=λ c e=>a.st c (b.st c e)
 fz:=λ c o u h=>b.fz c o u (a.fz c o u h)
theorem RV.monoD {D}{w:W}{v:V}(h:RV K φ H w v)(l:j4 K D φ H φ' H'):RV K φ' H' w v:=RV.monoW ⟨l.ex,l.tp,l.fz⟩ h
theorem zx.monoD {D}{w:List W}{v:List V}(h:zx K φ H w v)(l:j4 K D φ H φ' H'):zx K φ' H' w v:=zx.monoW ⟨l.ex,l.tp,l.fz⟩ h
theorem zx.length:∀{ws:List W} {vs:List V},zx K φ H ws vs->ws.length=vs.length
 | [],_,h=>by cases h;rfl
 | w::ws,_,⟨v,r,e,_,t⟩=>by subst e;simp [zx.length t]
theorem zx.get:∀{ws:List W} {vs:List V} {i:Nat} {w:W},zx K φ H ws vs->ws[i]? =some w->∃v,vs[i]? =some v/\RV K φ H w v
 | [],_,_,_,_,e=>by simp at e
 | w::ws,_,0,_,⟨v,r,e,h,t⟩,q=>by subst e;simp at q;subst q;exact ⟨v,by simp,h⟩
 | w::ws,_,i+1,x,⟨v,r,e,h,t⟩,q=>by
  subst e
  obtain ⟨y,h1,h2⟩:=zx.get (i:=i) (w:=x) t (by simpa using q)
  exact ⟨y,by simpa using h1,h2⟩
theorem zx.append:∀{ws us:List W} {vs xs:List V},zx K φ H ws vs->zx K φ H us xs->zx K φ H (ws++us) (vs++xs)
 | [],_,_,_,h,t=>by cases h;exact t
 | w::ws,_,_,_,⟨v,r,e,h,t⟩,t2=>by subst e;exact ⟨v,r++_,rfl,h,zx.append t t2⟩
theorem zx.one {w:W}{v:V}(h:RV K φ H w v):zx K φ H [w] [v]:=⟨v,[],rfl,h,rfl⟩
theorem zx.nil:zx K φ H [] []:=rfl
theorem zx.cons {w:W}{v:V}{ws:List W}{vs:List V}(h:RV K φ H w v)(t:zx K φ H ws vs):zx K φ H (w::ws) (v::vs):=⟨v,vs,rfl,h,t⟩
theorem zx.set {w:W}{v:V}(q:RV K φ H w v):∀{ws:List W} {vs:List V} (i:Nat),zx K φ H ws vs->zx K φ H (ws.set i w) (vs.set i v)
 | [],_,_,h=>by cases h;exact rfl
 | _::_,_,0,⟨v',r,e,h,t⟩=>by subst e;exact ⟨v,r,rfl,q,t⟩
 | _::_,_,i+1,⟨v',r,e,h,t⟩=>by subst e;exact ⟨v',_,rfl,h,zx.set q i t⟩
theorem zx.drop:∀{ws:List W} {vs:List V} (n:Nat),zx K φ H ws vs->zx K φ H (ws.drop n) (vs.drop n)
 | [],_,n,h=>by cases h;rw [List.drop_nil,List.drop_nil];exact zx.nil
 | _::_,_,0,h=>by simpa using h
 | _::_,_,n+1,⟨v',r,e,h,t⟩=>by subst e;simpa using zx.drop n t
theorem zx.take:∀{ws:List W} {vs:List V} (n:Nat),zx K φ H ws vs->zx K φ H (ws.take n) (vs.take n)
 | [],_,n,h=>by cases h;rw [List.take_nil,List.take_nil];exact zx.nil
 | _::_,_,0,h=>by rw [List.take_zero,List.take_zero];exact zx.nil
 | _::_,_,n+1,⟨v',r,e,h,t⟩=>by subst e;exact ⟨v',_,rfl,h,zx.take n t⟩
theorem zx.erase:∀{ws:List W} {vs:List V} (n:Nat),zx K φ H ws vs->zx K φ H (ws.eraseIdx n) (vs.eraseIdx n)
 | [],_,n,h=>by cases h;rw [List.eraseIdx_nil,List.eraseIdx_nil];exact zx.nil
 | _::_,_,0,⟨v',r,e,h,t⟩=>by subst e;simpa using t
 | _::_,_,n+1,⟨v',r,e,h,t⟩=>by subst e;exact ⟨v',_,rfl,h,zx.erase n t⟩
theorem zx.ints:∀{ns:List Int} {vs:List V},zx K φ H (ns.map W.int) vs↔vs=ns.map V.int
 | [],vs=>Iff.rfl
 | n::ns,vs=>by
  constructor
  ·rintro ⟨v,r,e,h,t⟩
   rw [e,(show v=V.int n from h),zx.ints.mp t];rfl
  ·intro e
   exact ⟨V.int n,ns.map V.int,e,rfl,zx.ints.mpr rfl⟩
noncomputable def GA (K:Frag)(H:Hp)(a:Addr)(xs:List V):Prop:=
 (∃ob,H a=some (.frz ob (.lst xs)))∨
  ∃(o:Obj) (its:Array Value) (n:Nat),K.lookup a=some o/\o.cls=.type "list" /\ o.dict=none/\o.data=.seq its n/\its.size<=sizeLine/\Vals xs its.toList
theorem GA.sq {a:Addr}{xs:List V}(h:GA K H a xs):qx K H a xs:=by
 rcases h with h | h
 ·exact .inl (.inr h)
 ·exact .inr h
inductive TabAt (H:Hp)(q:Str)(cv:Value):Prop
 | mk (c:Addr) (oc:Obj) (u:HO) (vs:Array Value) (t:Tok) (e:cv=.ref c) (h:H c=some (.frz oc u)) (d:oc.data=.fields vs/\vs[1]? =some (.str q t))
noncomputable def JF (H:Hp)(q:Str)(ps:Array Value):Prop:=TriplesOk ps.toList/\∀pos cv,codeAmong pos ps.toList=some cv->TabAt H q cv
theorem JF.mono {q:Str}{ps:Array Value}(h:JF H q ps)(l:∀a o u,H a=some (.frz o u)->H' a=some (.frz o u)):JF H' q ps:=
 ⟨h.1,λ pos cv e=>by obtain ⟨c,oc,u,vs,t,h1,h2,h3⟩:=h.2 pos cv e;exact ⟨c,oc,u,vs,t,h1,l _ _ _ h2,h3⟩⟩
noncomputable def OR (K:Frag)(φ:List Addr)(H:Hp)(a:Addr):O->Prop
 | .lst ws=>∃vs,H a=some (.lst vs)/\zx K φ H ws vs
 | .ro ws=>∃vs,GA K H a vs/\zx K φ H ws vs
 | .dct kvs=>∃us,H a=some (.dK us)/\us.map (·.1)=kvs.map (·.1)/\zx K φ H (kvs.map (·.2)) (us.map (·.2))
 | .tab q P=>a=P/\∃ps,H a=some (.tbl ps)/\JF H q ps
structure zF (K:Frag)(φ:List Addr)(A:Hx)(H:Hp):Prop where
 len:φ.length=A.length
 inj:∀(i j:Nat) (a:Addr) (o o':O),φ[i]? =some a->φ[j]? =some a->A[i]? =some o->A[j]? =some o'->o.mut=true->o'.mut=true->i=j
 ob:∀(n:Nat) (o:O),A[n]? =some o->∃a,φ[n]? =some a/\OR K φ H a o
variable {A A':Hx}
theorem OR.there {a:Addr}{o:O}(h:OR K φ H a o)(m:o.mut=true):∃u,H a=some u/\(∀xs,u≠.tup xs)/\(∀ob v,u≠.frz ob v):=by
 cases o with
 | lst ws=>obtain ⟨vs,e,_⟩:=h;exact ⟨_,e,λ _ z=>(by cases z),λ _ _ z=>(by cases z)⟩
 | ro ws=>cases m
 | dct kvs=>obtain ⟨vs,e,_⟩:=h;exact ⟨_,e,λ _ z=>(by cases z),λ _ _ z=>(by cases z)⟩
 | tab q P=>obtain ⟨_,vs,e,_⟩:=h;exact ⟨_,e,λ _ z=>(by cases z),λ _ _ z=>(by cases z)⟩
theorem K5 {a b:Addr}{o:HO}{vs:List V}(h:qd K H a vs)(n:∀xs,H b≠some (.tup xs))(nf:∀ob u,H b≠some (.frz ob u)):qd K (upd H b o) a vs:=by
 rcases h with (h | ⟨ob,h⟩) | h
 ·exact .inl (.inl (by rw [qf];exact h;intro e;subst e;exact n _ h))
 ·exact .inl (.inr ⟨ob,by rw [qf];exact h;intro e;subst e;exact nf _ _ h⟩)
 ·exact .inr h
theorem Le.upd {b:Addr}{o:HO}{k:Nat}(hb:φ[k]? =some b)(n:∀xs,H b≠some (.tup xs))(nf:∀ob u,H b≠some (.frz ob u)):Le K φ H φ (upd H b o) where
 ex:=λ _ _ h=>h
 tp:=λ _ _ h=>K5 h n nf
 fr:=λ a u h z=>by
  rw [qf];exact h
  intro e;subst e;exact z k hb
 nw:=λ _ _ h=>.inl h
 st:=λ a h=>by
  by_cases e:a=b
  ·subst e;rw [jO] at h;cases h
  ·rw [qf e] at h;exact h
 fz:=λ a ob u h=>by
  rw [qf];exact h
  intro e;subst e;exact nf _ _ h
theorem Le.new {p:Addr}{o:HO}(hp:H p=none):Le K φ H φ (L2.upd H p o) where
 ex:=λ _ _ h=>h
 tp:=λ _ _ h=>K5 h (λ xs z=>by rw [hp] at z;cases z) (λ _ _ z=>by rw [hp] at z;cases z)
 fr:=λ a u h z=>by
  rw [qf];exact h
  intro e;subst e;rw [hp] at h;cases h
 nw:=λ _ _ h=>.inl h
 st:=λ a h=>by
  by_cases e:a=p
  ·subst e;rw [jO] at h;cases h
  ·rw [qf e] at h;exact h
 fz:=λ a ob u h=>by
  rw [qf];exact h
  intro e;subst e;rw [hp] at h;cases h
theorem Le.alloc {p:Addr}{o:HO}(hp:H p=none):Le K φ H (φ++[p]) (L2.upd H p o) where
 ex:=λ n a h=>by
  have:=(List.getElem?_eq_some_iff.mp h).1
  rw [List.getElem?_append_left this];exact h
 tp:=(Le.new (φ:=φ) hp).tp
 fr:=(Le.new (K:=K) (φ:=φ) hp).fr
 nw:=λ n a h=>by
  by_cases hn:n < φ.length
  ·rw [List.getElem?_append_left hn] at h;exact .inl h
  ·rw [List.getElem?_append_right (by omega)] at h
   have e:a=p:=by
    have:=List.mem_of_getElem? h
    simpa using this
   subst e;exact .inr hp
 st:=(Le.new (K:=K) (φ:=φ) hp).st
 fz:=(Le.new (K:=K) (φ:=φ) hp).fz
theorem Le.ofD {D:Addr}{o:HO}(hD:H D=none)(l:j4 K D φ (L2.upd H D o) φ' H'):Le K φ H φ' H' where
 ex:=l.ex
 tp:=λ a vs h=>l.tp a vs ((Le.new (K:=K) (φ:=φ) hD).tp a vs h)
 fr:=λ a u h n=>by
  have ne:a≠D:=by rintro rfl;rw [hD] at h;cases h
  exact l.fr a u ne (by rw [qf ne];exact h) n
 nw:=λ n a e=>by
  rcases l.nw n a e with e | e
  ·exact .inl e
  ·by_cases h:a=D
   ·subst h;rw [jO] at e;cases e
   ·rw [qf h] at e;exact .inr e
 st:=λ a e=>by
  have e':=l.st a e
  by_cases h:a=D
  ·subst h;rw [jO] at e';cases e'
  ·rw [qf h] at e';exact e'
 fz:=λ a ob u h=>l.fz a ob u (by rw [qf];exact h;rintro rfl;rw [hD] at h;cases h)
theorem j4.upd {D:Addr}{o:HO}{xs:List V}(hD:H D=some (.lst xs)):j4 K D φ H φ (L2.upd H D o) where
 ex:=λ _ _ h=>h
 tp:=λ a vs h=>K5 h (λ xs z=>by rw [hD] at z;cases z) (λ _ _ z=>by rw [hD] at z;cases z)
 fr:=λ a u ne h n=>by rw [qf ne];exact h
 nw:=λ _ _ h=>.inl h
 st:=λ a e=>by
  by_cases h:a=D
  ·subst h;rw [jO] at e;cases e
  ·rw [qf h] at e;exact e
 fz:=λ a ob u h=>by
  rw [qf];exact h
  intro e;subst e;rw [hD] at h;cases h
theorem OR.keep {a:Addr}{o:O}(h:OR K φ H a o)(l:Le K φ H φ' H')(e:∀u,H a=some u->H' a=some u):OR K φ' H' a o:=by
 cases o with
 | lst ws=>obtain ⟨vs,q,r⟩:=h;exact ⟨vs,e _ q,r.mono l⟩
 | dct kvs=>obtain ⟨vs,q,k,r⟩:=h;exact ⟨vs,e _ q,k,r.mono l⟩
 | tab q P=>obtain ⟨k,ps,q,r⟩:=h;exact ⟨k,ps,e _ q,r.mono l.fz⟩
 | ro ws=>
  obtain ⟨vs,q,r⟩:=h
  refine ⟨vs,?_,r.mono l⟩
  rcases q with ⟨ob,q⟩ | q
  ·exact .inl ⟨ob,e _ q⟩
  ·exact .inr q
theorem zF.alloc {p:Addr}{u:HO}{o:O}(S:zF K φ A H)(hp:H p=none)(new:OR K (φ++[p]) (L2.upd H p u) p o):Le K φ H (φ++[p]) (L2.upd H p u)/\zF K (φ++[p]) (A++[o]) (L2.upd H p u):=by
 have l:Le K φ H (φ++[p]) (L2.upd H p u):=Le.alloc hp
 have old:∀(i:Nat) a,(φ++[p])[i]? =some a->i<A.length->φ[i]? =some a:=λ i a e hi=>by
  rw [List.getElem?_append_left (by rw [S.len];exact hi)] at e;exact e
 refine ⟨l,by simp [S.len],λ i j a o1 o2 h1 h2 h3 h4 m1 m2=>?_,λ n o' e=>?_⟩
 ·by_cases hi:i<A.length
  ·by_cases hj:j<A.length
   ·rw [List.getElem?_append_left hi] at h3
    rw [List.getElem?_append_left hj] at h4
    exact S.inj i j a o1 o2 (old i a h1 hi) (old j a h2 hj) h3 h4 m1 m2
   ·exfalso
    rw [List.getElem?_append_left hi] at h3
    have hj':j=A.length:=by have:=(List.getElem?_eq_some_iff.mp h4).1;simp at this;omega
    subst hj'
    rw [List.getElem?_append_right (by rw [S.len];exact Nat.le_refl _),S.len] at h2
    simp at h2
    obtain ⟨a',e1,q⟩:=S.ob i o1 h3
    rw [old i a h1 hi] at e1;cases e1
    obtain ⟨z,hz,_⟩:=q.there m1
    rw [<- h2,hp] at hz;cases hz
  ·have hi':i=A.length:=by have:=(List.getElem?_eq_some_iff.mp h3).1;simp at this;omega
   by_cases hj:j<A.length
   ·exfalso
    rw [List.getElem?_append_left hj] at h4
    subst hi'
    rw [List.getElem?_append_right (by rw [S.len];exact Nat.le_refl _),S.len] at h1
    simp at h1
    obtain ⟨a',e1,q⟩:=S.ob j o2 h4
    rw [old j a h2 hj] at e1;cases e1
    obtain ⟨z,hz,_⟩:=q.there m2
    rw [<- h1,hp] at hz;cases hz
   ·have:=(List.getElem?_eq_some_iff.mp h4).1;simp at this;omega
 ·by_cases hn:n<A.length
  ·rw [List.getElem?_append_left hn] at e
   obtain ⟨a,e1,q⟩:=S.ob n o' e
   refine ⟨a,l.ex _ _ e1,q.keep l λ z hz=>?_⟩
   rw [qf];exact hz
   intro e2;subst e2;rw [hp] at hz;cases hz
  ·have hn':n=A.length:=by have:=(List.getElem?_eq_some_iff.mp e).1;simp at this;omega
   subst hn'
   rw [List.getElem?_append_right (Nat.le_refl _)] at e
   simp at e
   subst e
   exact ⟨p,by rw [List.getElem?_append_right (by rw [S.len];exact Nat.le_refl _),S.len];simp,new⟩
theorem zF.write {n:Nat}{p:Addr}{u:HO}{o o':O}(S:zF K φ A H)(hn:A[n]? =some o)(m:o.mut=true)(m':o'.mut=true)(hp:φ[n]? =some p)(new:OR K φ (L2.upd H p u) p o'):
  Le K φ H φ (L2.upd H p u)/\zF K φ (A.set n o') (L2.upd H p u):=by
 obtain ⟨p',e,q⟩:=S.ob n o hn
 rw [hp] at e;cases e
 obtain ⟨z,hz,nt,nf⟩:=q.there m
 have l:Le K φ H φ (L2.upd H p u):=Le.upd hp (λ xs e=>by rw [hz] at e;exact nt xs (Option.some.inj e)) λ ob v e=>by rw [hz] at e;exact nf ob v (Option.some.inj e)
 have mt:∀(i:Nat) (w:O),(A.set n o')[i]? =some w->w.mut=true->∃w',A[i]? =some w'/\w'.mut=true:=λ i w e mw=>by
  by_cases hi:i=n
  ·subst hi;exact ⟨o,hn,m⟩
  ·rw [List.getElem?_set_ne (Ne.symm hi)] at e;exact ⟨w,e,mw⟩
 refine ⟨l,by simp [S.len],λ i j a o1 o2 h1 h2 h3 h4 m1 m2=>?_,λ i w e=>?_⟩
 ·obtain ⟨w1,e1,k1⟩:=mt i o1 h3 m1
  obtain ⟨w2,e2,k2⟩:=mt j o2 h4 m2
  exact S.inj i j a w1 w2 h1 h2 e1 e2 k1 k2
 ·by_cases hi:i=n
  ·subst hi
   have:i<A.length:=(List.getElem?_eq_some_iff.mp hn).1
   rw [List.getElem?_set_self this] at e;cases e
   exact ⟨p,hp,new⟩
  ·rw [List.getElem?_set_ne (Ne.symm hi)] at e
   obtain ⟨a,e1,r⟩:=S.ob i w e
   refine ⟨a,e1,?_⟩
   by_cases hm:w.mut=true
   ·have ne:a≠p:=λ z=>hi (S.inj i n a w o e1 (by rw [z];exact hp) e hn hm m)
    exact r.keep l λ z hz=>by rw [qf ne];exact hz
   ·cases w with
    | lst _=>exact absurd rfl hm
    | dct _=>exact absurd rfl hm
    | tab _ _=>exact absurd rfl hm
    | ro ws=>
     obtain ⟨vs,r1,r2⟩:=r
     refine ⟨vs,?_,r2.mono l⟩
     rcases r1 with ⟨ob,r1⟩ | r1
     ·refine .inl ⟨ob,?_⟩
      rw [qf];exact r1
      intro z;subst z;rw [hz] at r1;exact nf _ _ (Option.some.inj r1)
     ·exact .inr r1
theorem zF.lay {p:Addr}{u:HO}(S:zF K φ A H)(hp:H p=none):zF K φ A (L2.upd H p u):=
 ⟨S.len,S.inj,λ n o e=>by
  obtain ⟨a,e1,q⟩:=S.ob n o e
  refine ⟨a,e1,q.keep (Le.new hp) λ z hz=>?_⟩
  rw [qf];exact hz
  intro e2;subst e2;rw [hp] at hz;cases hz⟩
theorem zF.off {D:Addr}{o:HO}{xs:List V}(S:zF K φ A H)(hD:H D=some (.lst xs))(n:∀k:Nat,φ[k]?≠some D):zF K φ A (L2.upd H D o):=
 ⟨S.len,S.inj,λ k u e=>by
  obtain ⟨a,e1,q⟩:=S.ob k u e
  have ne:a≠D:=λ z=>n k (by rw [<- z];exact e1)
  have l:j4 K D φ H φ (L2.upd H D o):=j4.upd hD
  refine ⟨a,e1,?_⟩
  cases u with
  | lst ws=>obtain ⟨vs,q,r⟩:=q;exact ⟨vs,by rw [qf ne];exact q,r.monoD l⟩
  | dct kvs=>obtain ⟨vs,q,k,r⟩:=q;exact ⟨vs,by rw [qf ne];exact q,k,r.monoD l⟩
  | tab _ _=>obtain ⟨k,vs,q,r⟩:=q;exact ⟨k,vs,by rw [qf ne];exact q,r.mono l.fz⟩
  | ro ws=>
   obtain ⟨vs,q,r⟩:=q
   refine ⟨vs,?_,r.monoD l⟩
   rcases q with ⟨ob,q⟩ | q
   ·exact .inl ⟨ob,by rw [qf ne];exact q⟩
   ·exact .inr q⟩
theorem zF.notin {D:Addr}(S:zF K φ A H)(hD:H D=none)(hK:K.lookup D=none):∀k:Nat,φ[k]?≠some D:=λ k e=>by
 have hk:k<A.length:=by rw [<- S.len];exact (List.getElem?_eq_some_iff.mp e).1
 obtain ⟨a,e1,q⟩:=S.ob k A[k] (by simp [hk])
 rw [e] at e1;cases e1
 cases ho:A[k] with
 | lst ws=>rw [ho] at q;obtain ⟨vs,z,_⟩:=q;rw [hD] at z;cases z
 | dct ws=>rw [ho] at q;obtain ⟨vs,z,_⟩:=q;rw [hD] at z;cases z
 | tab _ _=>rw [ho] at q;obtain ⟨_,vs,z,_⟩:=q;rw [hD] at z;cases z
 | ro ws=>
  rw [ho] at q
  obtain ⟨vs,z,_⟩:=q
  rcases z with ⟨ob,z⟩ | ⟨o,its,n,z,_⟩
  ·rw [hD] at z;cases z
  ·rw [hK] at z;cases z
theorem zF.track {D:Addr}{u:HO}{o:O}(S:zF K φ A H)(hD:H D=some u)(n:∀k:Nat,φ[k]?≠some D)(new:OR K (φ++[D]) H D o):zF K (φ++[D]) (A++[o]) H:=by
 have l:wX K φ H (φ++[D]) H:=⟨λ n a h=>by
  have:=(List.getElem?_eq_some_iff.mp h).1
  rw [List.getElem?_append_left this];exact h,λ _ _ h=>h,λ _ _ _ h=>h⟩
 have old:∀(i:Nat) a,(φ++[D])[i]? =some a->i<A.length->φ[i]? =some a:=λ i a e hi=>by
  rw [List.getElem?_append_left (by rw [S.len];exact hi)] at e;exact e
 have last:∀a,(φ++[D])[A.length]? =some a->a=D:=λ a e=>by
  rw [List.getElem?_append_right (by rw [S.len];exact Nat.le_refl _),S.len] at e
  simpa using e.symm
 refine ⟨by simp [S.len],λ i j a o1 o2 h1 h2 h3 h4 m1 m2=>?_,λ k o' e=>?_⟩
 ·by_cases hi:i<A.length
  ·by_cases hj:j<A.length
   ·rw [List.getElem?_append_left hi] at h3
    rw [List.getElem?_append_left hj] at h4
    exact S.inj i j a o1 o2 (old i a h1 hi) (old j a h2 hj) h3 h4 m1 m2
   ·exfalso
    have hj':j=A.length:=by have:=(List.getElem?_eq_some_iff.mp h4).1;simp at this;omega
    subst hj'
    exact n i (by rw [<- last a h2];exact old i a h1 hi)
  ·have hi':i=A.length:=by have:=(List.getElem?_eq_some_iff.mp h3).1;simp at this;omega
   by_cases hj:j<A.length
   ·exfalso
    subst hi'
    exact n j (by rw [<- last a h1];exact old j a h2 hj)
   ·have:=(List.getElem?_eq_some_iff.mp h4).1;simp at this;omega
 ·by_cases hn:k<A.length
  ·rw [List.getElem?_append_left hn] at e
   obtain ⟨a,e1,q⟩:=S.ob k o' e
   refine ⟨a,l.ex _ _ e1,?_⟩
   cases o' with
   | lst ws=>obtain ⟨vs,z,r⟩:=q;exact ⟨vs,z,r.monoW l⟩
   | dct ws=>obtain ⟨vs,z,z2,r⟩:=q;exact ⟨vs,z,z2,r.monoW l⟩
   | tab _ _=>exact q
   | ro ws=>obtain ⟨vs,z,r⟩:=q;exact ⟨vs,z,r.monoW l⟩
  ·have hn':k=A.length:=by have:=(List.getElem?_eq_some_iff.mp e).1;simp at this;omega
   subst hn'
   rw [List.getElem?_append_right (Nat.le_refl _)] at e
   simp at e
   subst e
   exact ⟨D,by rw [List.getElem?_append_right (by rw [S.len];exact Nat.le_refl _),S.len];simp,new⟩
theorem Le.track {D:Addr}{φ0:List Addr}{H0:Hp}(l:Le K φ0 H0 φ H)(h0:H0 D=none):Le K φ0 H0 (φ++[D]) H where
 ex:=λ n a h=>by
  have h':=l.ex n a h
  have:=(List.getElem?_eq_some_iff.mp h').1
  rw [List.getElem?_append_left this];exact h'
 tp:=l.tp
 fr:=l.fr
 nw:=λ n a e=>by
  by_cases hn:n < φ.length
  ·rw [List.getElem?_append_left hn] at e;exact l.nw n a e
  ·rw [List.getElem?_append_right (by omega)] at e
   have e':a=D:=by
    have:=List.mem_of_getElem? e
    simpa using this
   subst e';exact .inr h0
 st:=l.st
 fz:=l.fz
end
noncomputable abbrev St:=L2.St
noncomputable abbrev XR:=Str->Hp->Prop
noncomputable def PB (K:Frag)(φ:List Addr)(H:Hp)(Q:VK):W->Hx->Prop:=λ w A=>∀φ' H' v,Le K φ H φ' H'->zF K φ' A H'->RV K φ' H' w v->Q v H'
noncomputable def HC (K:Frag)(φ:List Addr)(H:Hp)(Q:List V->Hp->Prop):List W->Hx->Prop:=λ w A=>∀φ' H' v,Le K φ H φ' H'->zF K φ' A H'->zx K φ' H' w v->Q v H'
noncomputable def EB (K:Frag)(φ:List Addr)(H:Hp)(xr:XR):Str->Hx->Prop:=λ x A=>∀φ' H',Le K φ H φ' H'->zF K φ' A H'->xr x H'
structure RE (K:Frag)(φ:List Addr)(H:Hp)(ρ:En)(σ:St):Prop where
 len:σ.length=ρ.length
 get:∀(i:Nat) (w:W),ρ[i]? =some (some w)->∃v,σ[i]? =some (some v)/\RV K φ H w v
section
variable {K:Frag}{φ φ1 φ':List Addr}{H H1 H':Hp}{A A1:Hx}{ρ:En}{σ:St}{xr:XR}
theorem RE.mono (r:RE K φ H ρ σ)(l:Le K φ H φ' H'):RE K φ' H' ρ σ:=⟨r.len,λ i w e=>let ⟨v,h1,h2⟩:=r.get i w e;⟨v,h1,h2.mono l⟩⟩
theorem PB.mono {Q:VK}{w:W}(h:PB K φ H Q w A)(l:Le K φ H φ1 H1):PB K φ1 H1 Q w A:=λ φ' H' v l'=>h φ' H' v (l.trans l')
theorem EB.mono {x:Str}(h:EB K φ H xr x A)(l:Le K φ H φ1 H1):EB K φ1 H1 xr x A:=λ φ' H' l'=>h φ' H' (l.trans l')
theorem RE.set {i:Nat}{w:W}{v:V}(r:RE K φ H ρ σ)(q:RV K φ H w v):RE K φ H (ρ.set i (some w)) (σ.set i (some v)):=
 ⟨by simp [r.len],λ j u e=>by
  by_cases h:i=j
  ·subst h
   have hi:i < ρ.length:=by
    have:=(List.getElem?_eq_some_iff.mp e).1
    simpa using this
   rw [List.getElem?_set_self hi] at e
   cases e
   exact ⟨v,by rw [List.getElem?_set_self (by rw [r.len];exact hi)],q⟩
  ·rw [List.getElem?_set_ne h] at e
   obtain ⟨x,h1,h2⟩:=r.get j u e
   exact ⟨x,by rw [List.getElem?_set_ne h];exact h1,h2⟩⟩
end
inductive MM (K:Frag)(xr:XR)(m:Ev)(σ:St)(H:Hp)(Q:VK):Prop
 | mk (φ:List Addr) (A:Hx) (ρ:En) (S:zF K φ A H) (re:RE K φ H ρ σ) (h:(m ρ A).post (PB K φ H Q) (EB K φ H xr))
noncomputable def tM (K:Frag)(xr:XR)(m:Ev):TE:=λ σ H Q=>MM K xr m σ H Q
inductive MT (K:Frag)(xr:XR)(m:Ev)(σ:St)(H:Hp)(Q:Bool->Hp->Prop):Prop
 | mk (φ:List Addr) (A:Hx) (ρ:En) (S:zF K φ A H) (re:RE K φ H ρ σ) (h:(m ρ A).post (λ w A'=>∃b,w=.bl b/\∀φ' H',Le K φ H φ' H'->zF K φ' A' H'->Q b H') (EB K φ H xr))
noncomputable def tT (K:Frag)(xr:XR)(m:Ev):TT:=λ σ H Q=>MT K xr m σ H Q
noncomputable abbrev Ea:=En->Hx->R (List W)
inductive MA (K:Frag)(xr:XR)(m:Ea)(σ:St)(H:Hp)(Q:List V->Hp->Prop):Prop
 | mk (φ:List Addr) (A:Hx) (ρ:En) (S:zF K φ A H) (re:RE K φ H ρ σ) (h:(m ρ A).post (HC K φ H Q) (EB K φ H xr))
noncomputable def J8 (K:Frag)(xr:XR)(m:Ea):TA:=λ σ H Q=>MA K xr m σ H Q
noncomputable def SE (X:Cx)(xr:XR)(e:Expr)(m:Ev):Prop:=PE X e (tM X.K xr m)
noncomputable def ST (X:Cx)(xr:XR)(e:Expr)(m:Ev):Prop:=PT X e (tT X.K xr m)
noncomputable def SW (X:Cx)(xr:XR)(e:Expr)(m:Ev):Prop:=PW X e (tT X.K xr m)
noncomputable def SA (X:Cx)(xr:XR)(es:List Expr)(m:Ea):Prop:=PA X es (J8 X.K xr m)
section
variable {X:Cx}{xr:XR}{e a b:Expr}{es:List Expr}{m ma mb mc:Ev}{pos:Pos}
theorem PE.imp {t t':TE}(h:PE X e t)(i:∀σ H Q,t' σ H Q->t σ H Q):PE X e t':=λ pins s σ H Q I hw=>h pins s σ H Q I (i σ H Q hw)
theorem PT.imp {t t':TT}(h:PT X e t)(i:∀σ H Q,t' σ H Q->t σ H Q):PT X e t':=λ pins s σ H Q I hw=>h pins s σ H Q I (i σ H Q hw)
theorem PW.imp {t t':TT}(h:PW X e t)(i:∀σ H Q,t' σ H Q->t σ H Q):PW X e t':=λ wh pins s σ H Q I hw=>h wh pins s σ H Q I (i σ H Q hw)
theorem PA.imp {t t':TA}(h:PA X es t)(i:∀σ H Q,t' σ H Q->t σ H Q):PA X es t':=λ p pins s σ H Q I hw=>h p pins s σ H Q I (i σ H Q hw)
theorem tM.go {K:Frag}{φ:List Addr}{A:Hx}{H:Hp}{ρ:En}{σ:St}{Q:VK}{G:W->Hx->Prop}(S:zF K φ A H)(r:RE K φ H ρ σ)(h:(m ρ A).post G (EB K φ H xr))
  (k:∀w A1 φ1 H1 v,G w A1->Le K φ H φ1 H1->zF K φ1 A1 H1->RV K φ1 H1 w v->Q v H1):tM K xr m σ H Q:=
 ⟨φ,A,ρ,S,r,qe h (λ w A1 g φ1 H1 v l s q=>k w A1 φ1 H1 v g l s q) λ _ _ z=>z⟩
theorem J8.go {K:Frag}{φ:List Addr}{A:Hx}{H:Hp}{ρ:En}{σ:St}{m:Ea}{Q:List V->Hp->Prop}{G:List W->Hx->Prop}(S:zF K φ A H)(r:RE K φ H ρ σ)(h:(m ρ A).post G (EB K φ H xr))
  (k:∀w A1 φ1 H1 v,G w A1->Le K φ H φ1 H1->zF K φ1 A1 H1->zx K φ1 H1 w v->Q v H1):J8 K xr m σ H Q:=
 ⟨φ,A,ρ,S,r,qe h (λ w A1 g φ1 H1 v l s q=>k w A1 φ1 H1 v g l s q) λ _ _ z=>z⟩
theorem tT.go {K:Frag}{φ:List Addr}{A:Hx}{H:Hp}{ρ:En}{σ:St}{Q:Bool->Hp->Prop}{G:W->Hx->Prop}(S:zF K φ A H)(r:RE K φ H ρ σ)(h:(m ρ A).post G (EB K φ H xr))
  (k:∀w A1,G w A1->∃b,w=.bl b/\∀φ1 H1,Le K φ H φ1 H1->zF K φ1 A1 H1->Q b H1):tT K xr m σ H Q:=
 ⟨φ,A,ρ,S,r,qe h (λ w A1 g=>k w A1 g) λ _ _ z=>z⟩
noncomputable def zc (i:Nat):Ev:=λ ρ A=>match ρ[i]? with
 | some (some w)=>.ok w A
 | _=>.bad
noncomputable def zi (w:W):Ev:=λ _ A=>.ok w A
noncomputable def zj (g:W->W->Hx->R W)(a b:Ev):Ev:=λ ρ A=>(a ρ A).bind λ x A1=>(b ρ A1).bind λ y A2=>g x y A2
noncomputable def q9 (g:W->Hx->R W)(a:Ev):Ev:=λ ρ A=>(a ρ A).bind λ x A1=>g x A1
noncomputable abbrev kO:Str->Hx->Prop:=λ _ _=>False
noncomputable def jI (K:Frag)(r:R2)(g:W->W->Hx->R W):Prop:=∀φ A H x y u v Q,zF K φ A H->RV K φ H u x->RV K φ H v y->(g u v A).post (PB K φ H Q) kO->r x y H Q
noncomputable def J1 (K:Frag)(r:V->Hp->VK->Prop)(g:W->Hx->R W):Prop:=∀φ A H x u Q,zF K φ A H->RV K φ H u x->(g u A).post (PB K φ H Q) kO->r x H Q
noncomputable def ql {α:Type}(r:R α):Prop:=∀x A,r≠.exc x A
theorem ZF {α:Type}{r:R α}{P:α->Hx->Prop}{E:Str->Hx->Prop}(n:ql r)(h:r.post P E):r.post P kO:=by
 cases r with
 | ok a A=>exact h
 | exc x A=>exact absurd rfl (n x A)
 | bad=>exact h
theorem zj.read {g:W->W->Hx->R W}{r:R2}(hn:∀x y A,ql (g x y A))(hg:jI X.K r g):∀σ H Q,tM X.K xr (zj g ma mb) σ H Q->QF r (tM X.K xr ma) (tM X.K xr mb) σ H Q:=by
 rintro σ H Q ⟨φ,A,ρ,S,re,h⟩
 refine tM.go S re (zU.mp h) λ w A1 φ1 H1 v h1 l1 S1 q1=>?_
 refine tM.go S1 (re.mono l1) (qe (zU.mp h1) (λ _ _ z=>z) λ _ _ z=>z.mono l1) λ w2 A2 φ2 H2 v2 h2 l2 S2 q2=>?_
 exact hg φ2 A2 H2 v v2 w w2 Q S2 (q1.mono l2) q2 (qe (ZF (hn _ _ _) h2) (λ _ _ z=>z.mono (l1.trans l2)) λ _ _ z=>z)
theorem q9.read {g:W->Hx->R W}{r:V->Hp->VK->Prop}(hn:∀x A,ql (g x A))(hg:J1 X.K r g):∀σ H Q,tM X.K xr (q9 g ma) σ H Q->UU r (tM X.K xr ma) σ H Q:=by
 rintro σ H Q ⟨φ,A,ρ,S,re,h⟩
 refine tM.go S re (zU.mp h) λ w A1 φ1 H1 v h1 l1 S1 q1=>?_
 exact hg φ1 A1 H1 v w Q S1 q1 (qe (ZF (hn _ _) h1) (λ _ _ z=>z.mono l1) λ _ _ z=>z)
theorem gT {op:Operator}{r:R2}{g:W->W->Hx->R W}(ho:qj X (binaryOp op) r)(hn:∀x y A,ql (g x y A))(hg:jI X.K r g)(ha:SE X xr a ma)(hb:SE X xr b mb):SE X xr (.BinOp a op b pos) (zj g ma mb):=
 PE.imp (Ii ho ha hb) (zj.read hn hg)
theorem IU {op:UnaryOp}{r:V->Hp->VK->Prop}{g:W->Hx->R W}(ho:J4 X (unaryOp op) r)(hn:∀x A,ql (g x A))(hg:J1 X.K r g)(ha:SE X xr a ma):SE X xr (.UnaryOp op a pos) (q9 g ma):=
 PE.imp (IF ho ha) (q9.read hn hg)
theorem VS {op:CmpOp}{r:R2}{g:W->W->Hx->R W}(ho:qj X (compareOp op) r)(hn:∀x y A,ql (g x y A))(hg:jI X.K r g)(ha:SE X xr a ma)(hb:SE X xr b mb)(hm:behindInMarks op b=false):SE X xr (.Compare a [op] [b] pos) (zj g ma mb):=
 PE.imp (NJ ho ha hb hm) (zj.read hn hg)
theorem tT.toM {K:Frag}{σ:St}{H:Hp}{Q:Bool->Hp->Prop}(h:tT K xr m σ H Q):tM K xr m σ H λ x H'=>∃k,x=.bl k/\Q k H':=by
 obtain ⟨φ,A,ρ,S,re,h⟩:=h
 refine tM.go S re h λ w A1 φ1 H1 v ⟨b,e,q⟩ l1 S1 q1=>?_
 subst e
 exact ⟨b,q1,q φ1 H1 l1 S1⟩
theorem V2 {op:CmpOp}{r:R2}{g:W->W->Hx->R W}(ho:qj X (compareOp op) r)(hn:∀x y A,ql (g x y A))(hg:jI X.K r g)(ha:SE X xr a ma)(hb:SE X xr b mb)(hm:behindInMarks op b=false):ST X xr (.Compare a [op] [b] pos) (zj g ma mb):=
 PT.imp (N5 ho ha hb hm) λ σ H Q h=>zj.read hn hg σ H _ h.toM
noncomputable def jw (g g':W->W->Hx->R W)(a b c:Ev):Ev:=λ ρ A=>(a ρ A).bind λ x A1=>(b ρ A1).bind λ y A2=>(g x y A2).bind λ z A3=>match z with
 | .bl true=>(c ρ A3).bind λ w A4=>g' y w A4
 | .bl false=>.ok (.bl false) A3
 | _=>.bad
theorem jw.read {g g':W->W->Hx->R W}{r r':R2}(hn:∀x y A,ql (g x y A))(hg:jI X.K r g)(hn':∀x y A,ql (g' x y A))(hg':jI X.K r' g'):
  ∀σ H Q,tM X.K xr (jw g g' ma mb mc) σ H Q->Wq r r' (tM X.K xr ma) (tM X.K xr mb) (tM X.K xr mc) σ H Q:=by
 rintro σ H Q ⟨φ,A,ρ,S,re,h⟩
 refine tM.go S re (zU.mp h) λ w A1 φ1 H1 v h1 l1 S1 q1=>?_
 refine tM.go S1 (re.mono l1) (qe (zU.mp h1) (λ _ _ z=>z) λ _ _ z=>z.mono l1) λ w2 A2 φ2 H2 v2 h2 l2 S2 q2=>?_
 have l02:=l1.trans l2
 have h2':=zU.mp h2
 have h3:(g w w2 A2).post (PB X.K φ2 H2 λ z H3=>∃k,z=.bl k/\if k=true then tM X.K xr mc σ H3 λ w' H4=>r' v2 w' H4 Q else Q (.bl false) H3) kO:=by
  refine qe (ZF (hn _ _ _) h2') (λ z A3 h3 φ3 H3 zv l3 S3 q3=>?_) λ _ _ z=>z
  have l03:=l02.trans l3
  cases z with
  | bl k=>
   refine ⟨k,q3,?_⟩
   cases k with
   | true=>
    rw [if_pos rfl]
    refine tM.go S3 (re.mono l03) (qe (zU.mp h3) (λ _ _ z=>z) λ _ _ z=>z.mono l03) λ w4 A4 φ4 H4 v4 h4 l4 S4 q4=>?_
    exact hg' φ4 A4 H4 v2 v4 w2 w4 Q S4 ((q2.mono l3).mono l4) q4 (qe (ZF (hn' _ _ _) h4) (λ _ _ z=>z.mono (l03.trans l4)) λ _ _ z=>z)
   | false=>
    rw [if_neg Bool.false_ne_true]
    exact h3 φ3 H3 _ l03 S3 rfl
  | non=>cases h3
  | int _=>cases h3
  | str _=>cases h3
  | tup _=>cases h3
  | ref _=>cases h3
  | clo _ _ _=>cases h3
  | xc _=>cases h3
 exact hg φ2 A2 H2 v v2 w w2 _ S2 (q1.mono l2) q2 h3
theorem PX {c:Expr}{op op':CmpOp}{r r':R2}{g g':W->W->Hx->R W}(ho:qj X (compareOp op) r)(hn:∀x y A,ql (g x y A))(hg:jI X.K r g)(ho':qj X (compareOp op') r')(hn':∀x y A,ql (g' x y A))(hg':jI X.K r' g')
  (ha:SE X xr a ma)(hb:SE X xr b mb)(hc:SE X xr c mc)(hm:lastMarks [op,op'] [b,c]=false:=by with_unfolding_all rfl):SE X xr (.Compare a [op,op'] [b,c] pos) (jw g g' ma mb mc):=
 PE.imp (OI ho ho' ha hb hc hm) (jw.read hn hg hn' hg')
theorem PK {c:Expr}{op op':CmpOp}{r r':R2}{g g':W->W->Hx->R W}(ho:qj X (compareOp op) r)(hn:∀x y A,ql (g x y A))(hg:jI X.K r g)(ho':qj X (compareOp op') r')(hn':∀x y A,ql (g' x y A))(hg':jI X.K r' g')
  (ha:SE X xr a ma)(hb:SE X xr b mb)(hc:SE X xr c mc)(hm:lastMarks [op,op'] [b,c]=false:=by with_unfolding_all rfl):ST X xr (.Compare a [op,op'] [b,c] pos) (jw g g' ma mb mc):=
 PT.imp (OA ho ho' ha hb hc hm) λ σ H Q h=>jw.read hn hg hn' hg' σ H _ h.toM
noncomputable def yx (a b:Ev):Ev:=λ ρ A=>(a ρ A).bind λ x A1=>match x with
 | .bl true=>b ρ A1
 | .bl false=>.ok (.bl false) A1
 | _=>.bad
noncomputable def jH (a b:Ev):Ev:=λ ρ A=>(a ρ A).bind λ x A1=>match x with
 | .bl true=>.ok (.bl true) A1
 | .bl false=>b ρ A1
 | _=>.bad
noncomputable def qK (a:Ev):Ev:=λ ρ A=>(a ρ A).bind λ x A1=>match x with
 | .bl k=>.ok (.bl (!k)) A1
 | _=>.bad
noncomputable def US (c a b:Ev):Ev:=λ ρ A=>(c ρ A).bind λ x A1=>match x with
 | .bl true=>a ρ A1
 | .bl false=>b ρ A1
 | _=>.bad
theorem tT.mono {K:Frag}{φ φ1:List Addr}{H H1:Hp}{A1:Hx}{ρ:En}{σ:St}{Q:Bool->Hp->Prop}(S1:zF K φ1 A1 H1)(l1:Le K φ H φ1 H1)(re:RE K φ H ρ σ)
  (h:(m ρ A1).post (λ w A'=>∃b,w=.bl b/\∀φ' H',Le K φ H φ' H'->zF K φ' A' H'->Q b H') (EB K φ H xr)):tT K xr m σ H1 Q:=
 ⟨φ1,A1,ρ,S1,re.mono l1,qe h (λ w A' ⟨b,e,q⟩=>⟨b,e,λ φ' H' l s=>q φ' H' (l1.trans l) s⟩) λ _ _ z=>z.mono l1⟩
noncomputable def zp:Ea:=λ _ A=>.ok [] A
noncomputable def zh (a:Ev)(r:Ea):Ea:=λ ρ A=>(a ρ A).bind λ x A1=>(r ρ A1).bind λ xs A2=>.ok (x::xs) A2
noncomputable def zy (a:Ea):Ev:=λ ρ A=>(a ρ A).bind λ xs A1=>.ok (.tup xs) A1
noncomputable def zY (a:Ea):Ev:=λ ρ A=>(a ρ A).bind λ xs A1=>.ok (.ref A1.length) (A1++[.lst xs])
theorem g7 {K:Frag}{φ:List Addr}{A:Hx}{H:Hp}{p:Addr}{ws:List W}{vs:List V}(S:zF K φ A H)(hp:H p=none)(r:zx K φ H ws vs):
  Le K φ H φ (upd H p (.tup vs))/\zF K φ A (upd H p (.tup vs))/\RV K φ (upd H p (.tup vs)) (.tup ws) (.ref p):=
 ⟨Le.new hp,S.lay hp,p,vs,rfl,qd.of jO,r.mono (Le.new hp)⟩
theorem gn {K:Frag}{φ:List Addr}{A:Hx}{H:Hp}{p:Addr}{ws:List W}{vs:List V}(S:zF K φ A H)(hp:H p=none)(r:zx K φ H ws vs):
  Le K φ H (φ++[p]) (upd H p (.lst vs))/\zF K (φ++[p]) (A++[.lst ws]) (upd H p (.lst vs))/\RV K (φ++[p]) (upd H p (.lst vs)) (.ref A.length) (.ref p):=by
 have l:Le K φ H (φ++[p]) (upd H p (.lst vs)):=Le.alloc hp
 obtain ⟨h1,h2⟩:=S.alloc (o:=.lst ws) hp ⟨vs,jO,r.mono l⟩
 exact ⟨h1,h2,p,rfl,by rw [<- S.len];simp⟩
theorem MO {mr:Ea}(h:SA X xr es mr)(hl:∀ρ A ws A',mr ρ A=.ok ws A'->ws.length<=sizeLine):SE X xr (.List es pos) (zY mr):=
 PE.imp (Lw h) λ σ H Q ⟨φ,A,ρ,S,re,h⟩=>by
  have h':=zU.mp h
  cases e:mr ρ A with
  | ok ws A'=>
   rw [e] at h'
   refine ⟨φ,A,ρ,S,re,?_⟩
   rw [e]
   intro φ1 H1 vs l1 S1 q1
   refine ⟨by rw [<- q1.length];exact hl ρ A ws A' e,λ p hp=>?_⟩
   obtain ⟨a1,a2,a3⟩:=gn S1 hp q1
   exact h' _ _ _ (l1.trans a1) a2 a3
  | exc x A'=>rw [e] at h';refine ⟨φ,A,ρ,S,re,?_⟩;rw [e];exact h'
  | bad=>rw [e] at h';exact h'.elim
end
inductive Fl where
 | nx (ρ:En) | rt (w:W) | bk (ρ:En) | ct (ρ:En)
noncomputable abbrev Ex:=En->Hx->R Fl
noncomputable def FB (K:Frag)(φ:List Addr)(H:Hp)(D:Ends):Fl->Hx->Prop
 | .nx ρ,A=>∀φ' H' σ',Le K φ H φ' H'->zF K φ' A H'->RE K φ' H' ρ σ'->D.nx σ' H'
 | .rt w,A=>∀φ' H' v,Le K φ H φ' H'->zF K φ' A H'->RV K φ' H' w v->D.rt v H'
 | .bk ρ,A=>∀φ' H' σ',Le K φ H φ' H'->zF K φ' A H'->RE K φ' H' ρ σ'->D.bk σ' H'
 | .ct ρ,A=>∀φ' H' σ',Le K φ H φ' H'->zF K φ' A H'->RE K φ' H' ρ σ'->D.ct σ' H'
theorem FB.mono {K:Frag}{φ φ1:List Addr}{H H1:Hp}{D:Ends}{fl:Fl}{A:Hx}(h:FB K φ H D fl A)(l:Le K φ H φ1 H1):FB K φ1 H1 D fl A:=by
 cases fl with
 | nx ρ=>exact λ φ' H' v l'=>h φ' H' v (l.trans l')
 | rt ρ=>exact λ φ' H' v l'=>h φ' H' v (l.trans l')
 | bk ρ=>exact λ φ' H' v l'=>h φ' H' v (l.trans l')
 | ct ρ=>exact λ φ' H' v l'=>h φ' H' v (l.trans l')
inductive MS (K:Frag)(xr:XR)(m:Ex)(D:Ends)(σ:St)(H:Hp):Prop
 | mk (φ:List Addr) (A:Hx) (ρ:En) (S:zF K φ A H) (re:RE K φ H ρ σ) (h:(m ρ A).post (FB K φ H D) (EB K φ H xr))
noncomputable def tS (K:Frag)(xr:XR)(m:Ex):TS:=λ D σ H=>MS K xr m D σ H
noncomputable def SS (X:Cx)(xr:XR)(st:Stmt)(m:Ex):Prop:=PS X st (tS X.K xr m)
noncomputable def QE (X:Cx)(xr:XR)(st:List Stmt)(m:Ex):Prop:=yj X st (tS X.K xr m)
section
variable {X:Cx}{xr:XR}{e a b c:Expr}{st:Stmt}{rest:List Stmt}{m ma mb mc:Ev}{m1 m2:Ex}{pos:Pos}
theorem PS.imp {t t':TS}(h:PS X st t)(i:∀D σ H,t' D σ H->t D σ H):PS X st t':=λ pins s σ H D I hw=>h pins s σ H D I (i D σ H hw)
theorem yj.imp {t t':TS}(h:yj X rest t)(i:∀D σ H,t' D σ H->t D σ H):yj X rest t':=λ pins s σ H D I hw=>h pins s σ H D I (i D σ H hw)
noncomputable def zB:Ex:=λ ρ A=>.ok (.nx ρ) A
noncomputable def zr (m1 m2:Ex):Ex:=λ ρ A=>(m1 ρ A).bind λ fl A1=>match fl with
 | .nx ρ1=>m2 ρ1 A1
 | f=>.ok f A1
noncomputable def Zo (m:Ev):Ex:=λ ρ A=>(m ρ A).bind λ _ A1=>.ok (.nx ρ) A1
noncomputable def z8 (m:Ev):Ex:=λ ρ A=>(m ρ A).bind λ w A1=>.ok (.rt w) A1
noncomputable def qw (c:Ev)(a b:Ex):Ex:=λ ρ A=>(c ρ A).bind λ x A1=>match x with
 | .bl true=>a ρ A1
 | .bl false=>b ρ A1
 | _=>.bad
noncomputable def zX (i:Nat)(m:Ev):Ex:=λ ρ A=>(m ρ A).bind λ w A1=>.ok (.nx (ρ.set i (some w))) A1
theorem zX.read {i:Nat}:∀D σ H,tS X.K xr (zX i m) D σ H->JV (tM X.K xr m) (JC i) D σ H:=by
 rintro D σ H ⟨φ,A,ρ,S,re,h⟩
 exact tM.go S re (zU.mp h) λ w A1 φ1 H1 v h1 l1 S1 q1=>h1 φ1 H1 _ l1 S1 ((re.mono l1).set q1)
noncomputable def jK (g:W->W->W->Hx->R Unit)(me mo mi:Ev):Ex:=λ ρ A=>(me ρ A).bind λ v A1=>(mo ρ A1).bind λ o A2=>(mi ρ A2).bind λ i A3=>(g o i v A3).bind λ _ A4=>.ok (.nx ρ) A4
noncomputable def WB (K:Frag)(t:ZY)(g:W->W->W->Hx->R Unit):Prop:=∀φ A H o i v wo wi wv Q,zF K φ A H->RV K φ H wo o->RV K φ H wi i->RV K φ H wv v->
 (g wo wi wv A).post (λ _ A'=>∀φ' H',Le K φ H φ' H'->zF K φ' A' H'->Q H') kO->t o i v H Q
theorem X7 {o i:Expr}{mo mi:Ev}{t:ZY}{g:W->W->W->Hx->R Unit}{tpos:Pos}(ht:JJ X t)(hn:∀o i v A,ql (g o i v A))(hg:WB X.K t g)(he:SE X xr e m)(ho:SE X xr o mo)(hi:SE X xr i mi)
  (hs:swapsWithSole [.Subscript o i tpos] e pos.line X.env=pure false:=by rfl)(hw:swappedStores [.Subscript o i tpos] e X.env=pure none:=by rfl)
  (h1:(assignEach [.Subscript o i tpos] X.env).map (·.2)=[assign (.Subscript o i tpos) X.env]:=by rfl)
  (ha:∀v,assign (.Subscript o i tpos) X.env v=(do
   let ov <- holding [v] (eval o X.env)
   let iv <- holding [v,ov] (eval i X.env)
   standAt tpos
   holding [v,ov,iv] (setItem ov iv v)
   release [v,ov,iv] []):=by intro _;rfl):SS X xr (.Assign [.Subscript o i tpos] e pos) (jK g m mo mi):=
 PS.imp (V8 he (Ly ho hi ht ha) hs hw h1) λ D σ H ⟨φ,A,ρ,S,re,h⟩=>by
  refine tM.go S re (zU.mp h) λ w1 A1 φ1 H1 v1 h1 l1 S1 q1=>?_
  refine tM.go S1 (re.mono l1) (qe (zU.mp h1) (λ _ _ z=>z) λ _ _ z=>z.mono l1) λ w2 A2 φ2 H2 v2 h2 l2 S2 q2=>?_
  have l02:=l1.trans l2
  refine tM.go S2 (re.mono l02) (qe (zU.mp h2) (λ _ _ z=>z) λ _ _ z=>z.mono l02) λ w3 A3 φ3 H3 v3 h3 l3 S3 q3=>?_
  have l03:=l02.trans l3
  refine hg φ3 A3 H3 v2 v3 v1 w2 w3 w1 _ S3 (q2.mono l3) q3 (q1.mono (l2.trans l3)) ?_
  cases hr:g w2 w3 w1 A3 with
  | ok u A4=>
   rw [hr] at h3
   exact λ φ4 H4 l4 S4=>h3 φ4 H4 σ (l03.trans l4) S4 (re.mono (l03.trans l4))
  | exc x A4=>exact absurd hr (hn _ _ _ _ x A4)
  | bad=>rw [hr] at h3;exact h3.elim
structure ji where
 at_:Hx->Nat->Option (Option W)
 len:Nat
noncomputable def gG (K:Frag)(φ:List Addr)(H:Hp)(j:ji)(J:It):Prop:=∀i φ' H' A',wX K φ H φ' H'->zF K φ' A' H'->
 (∀w,j.at_ A' i=some (some w)->J.go i H'/\∀x H1,J.yld i H' x H1->Le K φ' H' φ' H1/\zF K φ' A' H1/\RV K φ' H1 w x)/\(j.at_ A' i=some none->J.stop i H')
noncomputable abbrev Ei:=En->Hx->R ji
inductive MI (K:Frag)(xr:XR)(mi:Ei)(σ:St)(H:Hp)(Rr:It->Hp->Prop):Prop
 | mk (φ:List Addr) (A:Hx) (ρ:En) (S:zF K φ A H) (re:RE K φ H ρ σ) (h:(mi ρ A).post (λ j A1=>∀φ1 H1 J,Le K φ H φ1 H1->zF K φ1 A1 H1->gG K φ1 H1 j J->Rr J H1) (EB K φ H xr))
noncomputable def tI (K:Frag)(xr:XR)(mi:Ei):TI:=λ σ H Rr=>MI K xr mi σ H Rr
noncomputable def SI (X:Cx)(xr:XR)(tg iter:Expr)(mi:Ei):Prop:=PI X tg iter (tI X.K xr mi)
theorem PI.imp {tg:Expr}{t t':TI}(h:PI X tg e t)(i:∀σ H Q,t' σ H Q->t σ H Q):PI X tg e t':=λ pins s σ H Q I hw=>h pins s σ H Q I (i σ H Q hw)
noncomputable abbrev Tg:=W->En->Option En
inductive MG (K:Frag)(tw:Tg)(v:V)(σ:St)(H:Hp)(Q:St->Hp->Prop):Prop
 | mk (φ:List Addr) (A:Hx) (ρ:En) (w:W) (ρ':En) (S:zF K φ A H) (re:RE K φ H ρ σ) (rv:RV K φ H w v) (t:tw w ρ=some ρ') (q:∀σ',RE K φ H ρ' σ'->Q σ' H)
noncomputable def tG (K:Frag)(tw:Tg):TG:=λ v σ H Q=>MG K tw v σ H Q
noncomputable def SG (X:Cx)(tg:Expr)(tw:Tg):Prop:=PG X tg (tG X.K tw)
theorem PG.imp {tg:Expr}{t t':TG}(h:PG X tg t)(i:∀v σ H Q,t' v σ H Q->t v σ H Q):PG X tg t':=λ pins s σ H v u Q I r hw=>h pins s σ H v u Q I r (i v σ H Q hw)
noncomputable def zD (i:Nat):Tg:=λ w ρ=>some (ρ.set i (some w))
noncomputable def wK (i j:Nat):Tg:=λ w ρ=>match w with
 | .tup [x,y]=>some ((ρ.set i (some x)).set j (some y))
 | _=>none
noncomputable def jC (j:ji)(st:W->Ex):Nat->Nat->Ex
 | 0,i,ρ,A=>match j.at_ A i with
  | some none=>.ok (.nx ρ) A
  | _=>.bad
 | f+1,i,ρ,A=>match j.at_ A i with
  | some none=>.ok (.nx ρ) A
  | some (some w)=>(st w ρ A).bind λ fl A1=>match fl with
   | .nx ρ1=>jC j st f (i+1) ρ1 A1
   | .ct ρ1=>jC j st f (i+1) ρ1 A1
   | .bk ρ1=>.ok (.nx ρ1) A1
   | .rt w=>.ok (.rt w) A1
  | none=>.bad
noncomputable def turn (tw:Tg)(body:Ex)(w:W):Ex:=λ ρ A=>match tw w ρ with
 | some ρ1=>body ρ1 A
 | none=>.bad
noncomputable def jZ (mi:Ei)(tw:Tg)(body:Ex):Ex:=λ ρ A=>(mi ρ A).bind λ j A1=>jC j (turn tw body) j.len 0 ρ A1
inductive UQ (K:Frag)(xr:XR)(j:ji)(t:W->Ex)(D:Ends)(φ1:List Addr)(H1:Hp)(f i:Nat)(σ':St)(H':Hp):Prop
 | mk (φ2:List Addr) (A2:Hx) (ρ2:En) (l:Le K φ1 H1 φ2 H') (S:zF K φ2 A2 H') (re:RE K φ2 H' ρ2 σ') (h:(jC j t f i ρ2 A2).post (FB K φ2 H' D) (EB K φ2 H' xr))
noncomputable def wU (c:Ev)(body:Ex):Nat->Ex
 | 0,ρ,A=>.bad
 | f+1,ρ,A=>(c ρ A).bind λ x A1=>match x with
  | .bl true=>(body ρ A1).bind λ fl A2=>match fl with
   | .nx ρ1=>wU c body f ρ1 A2
   | .ct ρ1=>wU c body f ρ1 A2
   | .bk ρ1=>.ok (.nx ρ1) A2
   | .rt w=>.ok (.rt w) A2
  | .bl false=>.ok (.nx ρ) A1
  | _=>.bad
noncomputable def Wh (f:Nat)(c:Ev)(body:Ex):Ex:=wU c body f
noncomputable def Za (nl:Nat)(cap:List Nat)(ρ:En):En:=List.replicate nl none++cap.map λ i=>(ρ[i]?).join
theorem RE.wg {K:Frag}{φ:List Addr}{H:Hp}{ρ:En}{σ:St}{nl:Nat}{cap:List Nat}(r:RE K φ H ρ σ):RE K φ H (Za nl cap ρ) (L2.wg nl cap σ):=by
 refine ⟨by simp [Za,L2.wg],λ i w e=>?_⟩
 unfold Za at e
 unfold L2.wg
 by_cases hi:i<nl
 ·rw [List.getElem?_append_left (by simpa using hi),List.getElem?_replicate] at e
  split at e<;>cases e
 ·rw [List.getElem?_append_right (by simpa using hi),List.length_replicate,List.getElem?_map] at e
  rw [List.getElem?_append_right (by simpa using hi),List.length_replicate,List.getElem?_map]
  cases hc:cap[i - nl]? with
  | none=>rw [hc] at e;cases e
  | some k=>
   rw [hc] at e
   have e2:(ρ[k]?).join=some w:=Option.some.inj e
   cases hk:ρ[k]? with
   | none=>rw [hk] at e2;cases e2
   | some o=>cases o with
    | none=>rw [hk] at e2;cases e2
    | some w'=>
     rw [hk] at e2
     cases e2
     obtain ⟨v,h1,h2⟩:=r.get k w hk
     exact ⟨v,by simp [h1],h2⟩
noncomputable abbrev Em:=En->List W->Hx->R (En × List W)
noncomputable def zW:Nat:=100000
noncomputable def zN (elt:Ev):Em:=λ ρ acc A=>(elt ρ A).bind λ y A1=>if acc.length<zW then .ok (ρ,acc++[y]) A1 else .bad
noncomputable def jn (j:ji)(tw:Tg)(ifs:Ev)(em:Em):Nat->Nat->Em
 | 0,i,ρ,acc,A=>match j.at_ A i with
  | some none=>.ok (ρ,acc) A
  | _=>.bad
 | f+1,i,ρ,acc,A=>match j.at_ A i with
  | some none=>.ok (ρ,acc) A
  | some (some w)=>match tw w ρ with
   | some ρ1=>(ifs ρ1 A).bind λ c A1=>match c with
    | .bl true=>(em ρ1 acc A1).bind λ p A2=>jn j tw ifs em f (i+1) p.1 p.2 A2
    | .bl false=>jn j tw ifs em f (i+1) ρ1 acc A1
    | _=>.bad
   | none=>.bad
  | none=>.bad
noncomputable def ZR (mi:Ei)(tw:Tg)(ifs:Ev)(em:Em):Em:=λ ρ acc A=>(mi ρ A).bind λ j A1=>jn j tw ifs em j.len 0 ρ acc A1
noncomputable abbrev jt:=En->Hx->R (List W)
noncomputable def zR (nl:Nat)(cap:List Nat)(mi:Ei)(tw:Tg)(ifs:Ev)(em:Em):jt:=λ ρ A=>(mi ρ A).bind λ j A1=>(jn j tw ifs em j.len 0 (Za nl cap ρ) [] A1).nox.bind λ p A2=>.ok p.2 A2
noncomputable def Gu (K:Frag)(D:Addr)(φ:List Addr)(H:Hp)(Q:St->Hp->Prop)(p:En × List W)(A1:Hx):Prop:=∀φ1 H1 σ1 zs,j4 K D φ H φ1 H1->(∀k:Nat,φ1[k]?≠some D)->zF K φ1 A1 H1->RE K φ1 H1 p.1 σ1->H1 D=some (.lst zs)->zx K φ1 H1 p.2 zs->Q σ1 H1
inductive ME (K:Frag)(em:Em)(D:Addr)(σ:St)(H:Hp)(Q:St->Hp->Prop):Prop
 | mk (φ:List Addr) (A:Hx) (ρ:En) (acc:List W) (ys:List V) (S:zF K φ A H) (re:RE K φ H ρ σ) (hD:H D=some (.lst ys)) (nD:∀k:Nat,φ[k]?≠some D) (rv:zx K φ H acc ys)
  (h:(em ρ acc A).post (Gu K D φ H Q) kO)
noncomputable def tE (K:Frag)(em:Em):yZ:=λ D σ H Q=>ME K em D σ H Q
noncomputable abbrev yW:XR:=λ _ _=>False
noncomputable def SM (X:Cx)(elt:Expr)(gens:List Comprehension)(sc:Scope)(cpos:Pos)(d:Nat)(em:Em):Prop:=yP X elt gens sc cpos d (tE X.K em)
theorem yP.imp {elt:Expr}{gens:List Comprehension}{sc:Scope}{d:Nat}{t t':yZ}(h:yP X elt gens sc pos d t)(i:∀D σ H Q,t' D σ H Q->t D σ H Q):yP X elt gens sc pos d t':=
 λ pins s σ H D Q k Q' E I hw hk=>h pins s σ H D Q k Q' E I (i D σ H Q hw) hk
theorem KI {α:Type}{K:Frag}{φ:List Addr}{H:Hp}{r:R α}{P:α->Hx->Prop}(h:r.post P kO):r.post P (EB K φ H yW):=qe h (λ _ _ z=>z) λ _ _ z=>z.elim
noncomputable def QI (X:Cx)(ifs:List Expr)(m:Ev):Prop:=wQ X ifs (tT X.K yW m)
inductive UK (tw:Tg)(ifs:Ev)(em:Em)(j:ji)(K:Frag)(D:Addr)(φ:List Addr)(H:Hp)(Q:St->Hp->Prop)(f i:Nat)(σ':St)(H':Hp):Prop
 | mk (φ2:List Addr) (A2:Hx) (ρ2:En) (acc2:List W) (ys2:List V) (l:j4 K D φ H φ2 H') (S:zF K φ2 A2 H') (re:RE K φ2 H' ρ2 σ') (hD:H' D=some (.lst ys2)) (nD:∀k:Nat,φ2[k]?≠some D) (ra:zx K φ2 H' acc2 ys2) (h:(jn j tw ifs em f i ρ2 acc2 A2).post (Gu K D φ H Q) kO)
theorem jn.read {tw:Tg}{ifs:Ev}{em:Em}{j:ji}{J:It}{K:Frag}{D:Addr}{φ:List Addr}{A:Hx}{H:Hp}{ρ:En}{σ:St}{acc:List W}{ys:List V}{Q:St->Hp->Prop}{f:Nat}
  (jr:gG K φ H j J)
  (S:zF K φ A H)(re:RE K φ H ρ σ)(hD:H D=some (.lst ys))(nD:∀k:Nat,φ[k]?≠some D)(ra:zx K φ H acc ys)
  (h:(jn j tw ifs em f 0 ρ acc A).post (Gu K D φ H Q) kO):
  Qt J (tG K tw) (tT K yW ifs) (tE K em) D σ H Q:=by
 refine ⟨λ i f σ' H'=>UK tw ifs em j K D φ H Q f i σ' H',
  ⟨f,φ,A,ρ,acc,ys,.refl,S,re,hD,nD,ra,h⟩,?_⟩
 rintro i f σ2 H2 ⟨φ2,A2,ρ2,acc2,ys2,l2,S2,re2,hD2,nD2,ra2,h2⟩
 obtain ⟨j1,j2⟩:=jr i φ2 H2 A2 ⟨l2.ex,l2.tp,l2.fz⟩ S2
 cases ej:j.at_ A2 i with
 | none=>cases f<;>(unfold jn at h2;rw [ej] at h2;exact h2.elim)
 | some o=>
  cases o with
  | none=>
   left
   refine ⟨j2 ej,?_⟩
   cases f<;>(unfold jn at h2;rw [ej] at h2;exact h2 φ2 H2 σ2 ys2 l2 nD2 S2 re2 hD2 ra2)
  | some w=>
   right
   obtain ⟨go,yl⟩:=j1 w ej
   cases f with
   | zero=>unfold jn at h2;rw [ej] at h2;exact h2.elim
   | succ f=>
    unfold jn at h2
    rw [ej] at h2
    refine ⟨go,λ σ' H'=>UK tw ifs em j K D φ H Q f (i+1) σ' H',λ σ' H' z=>⟨f,Nat.lt_succ_self _,z⟩,λ x H3 y=>?_⟩
    obtain ⟨l3,S3,q3⟩:=yl x H3 y
    obtain ⟨hD3,nD3⟩:=l3.off hD2 nD2
    dsimp only at h2
    cases et:tw w ρ2 with
    | none=>rw [et] at h2;exact h2.elim
    | some ρ3=>
     rw [et] at h2
     refine ⟨φ2,A2,ρ2,w,ρ3,S3,re2.mono l3,q3,et,λ σ3 re3=>?_⟩
     refine tT.go S3 re3 (KI (zU.mp h2)) λ c A4 h4=>?_
     cases c with
     | bl k=>
      refine ⟨k,rfl,λ φ4 H4 l4 S4=>?_⟩
      obtain ⟨hD4,nD4⟩:=l4.off hD3 nD3
      have l04:=(l2.trans (l3.trans l4).toD)
      cases k with
      | true=>
       rw [if_pos rfl]
       refine ⟨φ4,A4,ρ3,acc2,ys2,S4,re3.mono l4,hD4,nD4,ra2.mono (l3.trans l4),qe (zU.mp h4) (λ p A5 h5 φ5 H5 σ5 zs l5 n5 S5 re5 d5 r5=>?_) λ _ _ z=>z⟩
       exact ⟨φ5,A5,p.1,p.2,zs,l04.trans l5,S5,re5,d5,n5,r5,h5⟩
      | false=>
       rw [if_neg Bool.false_ne_true]
       exact ⟨φ4,A4,ρ3,acc2,ys2,l04,S4,re3.mono l4,hD4,nD4,ra2.mono (l3.trans l4),h4⟩
     | non=>cases h4
     | int _=>cases h4
     | str _=>cases h4
     | tup _=>cases h4
     | ref _=>cases h4
     | clo _ _ _=>cases h4
     | xc _=>cases h4
theorem gG.mono {K:Frag}{φ φ1:List Addr}{H H1:Hp}{j:ji}{J:It}(h:gG K φ H j J)(l:wX K φ H φ1 H1):gG K φ1 H1 j J:=
 λ i φ' H' A' l'=>h i φ' H' A' ⟨λ n a e=>l'.ex n a (l.ex n a e),λ a vs e=>l'.tp a vs (l.tp a vs e),λ a o u e=>l'.fz a o u (l.fz a o u e)⟩
inductive MF (K:Frag)(xr:XR)(mq:jt)(σ:St)(H:Hp)(Q:VK):Prop
 | mk (φ:List Addr) (A:Hx) (ρ:En) (S:zF K φ A H) (re:RE K φ H ρ σ) (h:(mq ρ A).post (λ ws A1=>∀φ1 H1 D ys,Le K φ H φ1 H1->zF K φ1 A1 H1->H D=none->H1 D=some (.lst ys)->(∀k:Nat,φ1[k]?≠some D)->zx K φ1 H1 ws ys->Q (.ref D) H1) (EB K φ H xr))
noncomputable def tF (K:Frag)(xr:XR)(mq:jt):TE:=λ σ H Q=>MF K xr mq σ H Q
noncomputable def SF (X:Cx)(xr:XR)(e:Expr)(mq:jt):Prop:=PE X e (tF X.K xr mq)
theorem zR.read {mi:Ei}{tw:Tg}{mf:Ev}{em:Em}{nl:Nat}{cap:List Nat}:∀σ H Q,tF X.K xr (zR nl cap mi tw mf em) σ H Q->JB X.K (tI X.K xr mi) (tG X.K tw) (tT X.K yW mf) (tE X.K em) nl cap σ H Q:=by
 rintro σ H Q ⟨φ,A,ρ,S,re,h⟩
 refine ⟨φ,A,ρ,S,re,qe (zU.mp h) (λ j A1 h1 φ1 H1 J l1 S1 jr D hD hK=>?_) λ _ _ z=>z⟩
 have ln:Le X.K φ1 H1 φ1 (upd H1 D (.lst [])):=Le.new hD
 have h1':=zU.mp h1
 refine jn.read (jr.mono ⟨ln.ex,ln.tp,ln.fz⟩) (S1.lay hD) ((re.mono (l1.trans ln)).wg) jO (S1.notin hD hK) .nil ?_ (f:=j.len) (acc:=[])
 cases er:jn j tw mf em j.len 0 (Za nl cap ρ) [] A1 with
 | ok p A2=>
  rw [er] at h1'
  intro φ2 H2 σ2 zs l2 n2 S2 re2 d2 r2
  have l02:=l1.trans (Le.ofD hD l2)
  exact h1' φ2 H2 D zs l02 S2 (l1.st D hD) d2 n2 r2
 | exc x A2=>rw [er] at h1';exact h1'.elim
 | bad=>rw [er] at h1';exact h1'.elim
noncomputable def z7 (q:jt):Ev:=λ ρ A=>(q ρ A).bind λ ws A1=>.ok (.ref A1.length) (A1++[.lst ws])
theorem z7.read {q:jt}{K:Frag}:∀σ H Q,tM K xr (z7 q) σ H Q->tF K xr q σ H Q:=by
 rintro σ H Q ⟨φ,A,ρ,S,re,h⟩
 refine ⟨φ,A,ρ,S,re,qe (zU.mp h) (λ ws A1 h1 φ1 H1 D ys l1 S1 h0 hD nD r=>?_) λ _ _ z=>z⟩
 have ll:Le K φ H (φ1++[D]) H1:=l1.track h0
 have lw:wX K φ1 H1 (φ1++[D]) H1:=⟨λ n a h=>by
  have:=(List.getElem?_eq_some_iff.mp h).1
  rw [List.getElem?_append_left this];exact h,λ _ _ h=>h,λ _ _ _ h=>h⟩
 refine h1 _ _ _ ll (S1.track (o:=.lst ws) hD nD ⟨ys,hD,r.monoW lw⟩) ⟨D,rfl,?_⟩
 rw [<- S1.len];simp
inductive MQ (K:Frag)(xr:XR)(mq:jt)(σ:St)(H:Hp)(Q:VK):Prop
 | mk (φ:List Addr) (A:Hx) (ρ:En) (S:zF K φ A H) (re:RE K φ H ρ σ) (h:(mq ρ A).post (λ ws A1=>∀φ1 H1 a ys,Le K φ H φ1 H1->zF K φ1 A1 H1->(qx K H1 a ys∨qd K H1 a ys)->zx K φ1 H1 ws ys->Q (.ref a) H1) (EB K φ H xr))
noncomputable def tQ (K:Frag)(xr:XR)(mq:jt):TE:=λ σ H Q=>MQ K xr mq σ H Q
noncomputable def SQ (X:Cx)(xr:XR)(e:Expr)(mq:jt):Prop:=PE X e (tQ X.K xr mq)
noncomputable def zT (w:W)(A:Hx):Option (List W):=match w with
 | .tup ws=>some ws
 | .ref n=>match A[n]? with
  | some (.lst ws)=>some ws
  | some (.ro ws)=>some ws
  | _=>none
 | _=>none
theorem Q5 {K:Frag}{φ:List Addr}{A:Hx}{H:Hp}{w:W}{ws:List W}{v:V}(S:zF K φ A H)(q:RV K φ H w v)(e:zT w A=some ws):∃a ys,v=.ref a/\(qx K H a ys∨qd K H a ys)/\zx K φ H ws ys:=by
 unfold zT at e
 cases w with
 | tup xs=>cases e;obtain ⟨a,ys,e1,e2,e3⟩:=q;exact ⟨a,ys,e1,.inr e2,e3⟩
 | ref n=>
  obtain ⟨a,e1,e2⟩:=q
  dsimp only at e
  cases ea:A[n]? with
  | none=>rw [ea] at e;cases e
  | some o=>
   rw [ea] at e
   obtain ⟨a',e3,r⟩:=S.ob n o ea
   rw [e2] at e3;cases e3
   cases o with
   | lst xs=>cases e;obtain ⟨ys,h1,h2⟩:=r;exact ⟨a,ys,e1,.inl (qx.of h1),h2⟩
   | ro xs=>cases e;obtain ⟨ys,h1,h2⟩:=r;exact ⟨a,ys,e1,.inl h1.sq,h2⟩
   | dct xs=>cases e
   | tab _ _=>cases e
 | non=>cases e
 | bl _=>cases e
 | clo _ _ _=>cases e
 | xc _=>cases e
 | int _=>cases e
 | str _=>cases e
noncomputable def zS (m:Ev):jt:=λ ρ A=>(m ρ A).bind λ w A1=>match zT w A1 with
 | some ws=>.ok ws A1
 | none=>.bad
noncomputable def JT (w:W)(A:Hx):Option ji:=match zT w A with
 | some ws=>some ⟨λ A i=>(zT w A).map λ ws=>ws[i]?,ws.length⟩
 | none=>none
noncomputable def qc (m:Ev):Ei:=λ ρ A=>(m ρ A).bind λ w A1=>match JT w A1 with
 | some j=>.ok j A1
 | none=>.bad
noncomputable def IY (K:Frag)(tl:TE):TI:=λ σ H Rr=>tl σ H λ x H1=>∃a,x=.ref a/\(((∃xs,qx K H1 a xs)/\Rr (UW K a) H1)∨((∃xs,qd K H1 a xs)/\Rr (UO K a) H1))
theorem MW {tg l:Expr}{tl:TE}(hl:PE X l tl):PI X tg l (IY X.K tl):=by
 intro pins s σ H Rr I h
 refine zO (hl pins s σ H _ I h) λ v s1 ⟨x,H1,I1,r1,q1⟩=>?_
 obtain ⟨a,e,q⟩:=q1
 subst e
 cases r1
 have fpo:∀b∈[s1.heap.objs.size],yG X pins H1 b:=λ b hb=>by
  have e:b=s1.heap.objs.size:=by simpa using hb
  subst e
  exact I1.fpOk (Nat.le_refl _) (I1.hok.fresh (Nat.le_refl _))
 rcases q with ⟨⟨xs,hq⟩,q⟩ | ⟨⟨xs,hq⟩,q⟩
 ·obtain ⟨its,rv,p,hz⟩:=I1.list hq
  refine wpAny_pyIter_list p.isList ?_
  exact ⟨s1.heap.objs.size,[s1.heap.objs.size],_,_,H1,rfl,I1.kept (t':=s1.toks) λ b o e=>Heap.get?_push_of_some _ e,RT a _,⟨_,Heap.get?_push_size _ rfl,rfl,rfl⟩,fpo,q⟩
 ·obtain ⟨its,rv,p,hz⟩:=I1.tuple hq
  refine wpAny_pyIter_tuple (show s1.heap.IsTuple a its.toArray from p) ?_
  exact ⟨s1.heap.objs.size,[s1.heap.objs.size],_,_,H1,rfl,I1.kept (t':=s1.toks) λ b o e=>Heap.get?_push_of_some _ e,Rb a _,⟨_,Heap.get?_push_size _ rfl,rfl,rfl⟩,fpo,q⟩
noncomputable def yh (lo:Int)(n:Nat):ji:=⟨λ _ i=>if i<n then some (some (.int (lo+i))) else some none,n⟩
theorem Lu {K:Frag}{φ:List Addr}{H:Hp}{lo:Int}{n:Nat}:gG K φ H (yh lo n) (J9 lo n):=λ i φ' H' A' lw S'=>by
 unfold yh
 dsimp only
 by_cases hi:i<n
 ·rw [if_pos hi]
  refine ⟨λ w e=>?_,λ e=>by cases e⟩
  cases e
  exact ⟨hi,λ x H1 ⟨e1,e2⟩=>by subst e1;exact ⟨.refl,S',e2⟩⟩
 ·rw [if_neg hi]
  exact ⟨λ w e=>(by cases e),λ _=>Nat.le_of_not_lt hi⟩
noncomputable def jk (i:Int):Bool:=decide (-(2 ^ 62)<=i)&&decide (i<2 ^ 62)
theorem Zz {i:Int}(h:jk i=true):-(2 ^ 62)<=i/\i<2 ^ 62:=by
 unfold jk at h
 rw [Bool.and_eq_true,decide_eq_true_iff,decide_eq_true_iff] at h
 exact h
noncomputable def qB (m:Ev):Ei:=λ ρ A=>(m ρ A).bind λ w A1=>match w with
 | .int j=>if jk j then .ok (yh 0 j.toNat) A1 else .bad
 | _=>.bad
end
noncomputable abbrev Fn:=List W->Hx->R W
noncomputable def L7 (K:Frag)(x:Str)(C:Value):Prop:=PySem.W.nsIn K mainGlobals x=some (some C)
noncomputable def XE (K:Frag)(E:XK)(x:Str)(H:Hp):Prop:=∀C d,L7 K x C->E C d H
inductive wW (K:Frag)(n:Nat)(f:Fn)(vs:List V)(H:Hp)(Q:VK)(E:XK):Prop
 | mk (len:vs.length=n) (φ:List Addr) (A:Hx) (ws:List W) (S:zF K φ A H) (r:zx K φ H ws vs) (q:(f ws A).post (PB K φ H Q) (EB K φ H (XE K E)))
theorem wW.len {K:Frag}{n:Nat}{f:Fn}{vs:List V}{H:Hp}{Q:VK}{E:XK}(h:wW K n f vs H Q E):vs.length=n:=by cases h;assumption
inductive zM (P:Program)(w:World)(K:Frag)(mg:Str->Option Value)(base:Heap)(k:Nat)(x:Str)(n:Nat)(f:Fn):Prop
 | mk (fa:Addr) (fd:FuncData) (ps:List Str) (F:yi P w K mg base ku k fa fd ps (wW K n f)) (at_:mg x=some (.ref fa)) (kp:PySem.W.keepIn K (.ref fa)=true) (bi:Binds K fd ps [])
noncomputable def zH (f:Fn)(a:Ea):Ev:=λ ρ A=>(a ρ A).bind λ ws A1=>f ws A1
section
variable {X:Cx}{xr:XR}{e a b c:Expr}{es:List Expr}{m ma mb mc:Ev}{m1 m2:Ex}{pos:Pos}
noncomputable def ZW (m:Ea)(n:Nat):Prop:=∀ρ A ws A',m ρ A=.ok ws A'->ws.length=n
theorem zt:ZW zp 0:=λ _ _ _ _ h=>by unfold zp at h;cases h;rfl
theorem zm {mr:Ea}{n:Nat}(h:ZW mr n):ZW (zh ma mr) (n+1):=λ ρ A ws A' e=>by
 unfold zh at e
 cases h1:ma ρ A with
 | ok x A1=>
  rw [h1,zE] at e
  cases h2:mr ρ A1 with
  | ok xs A2=>rw [h2,zE] at e;cases e;simp [h ρ A1 xs _ h2]
  | exc x A2=>rw [h2] at e;cases e
  | bad=>rw [h2] at e;cases e
 | exc x A1=>rw [h1] at e;cases e
 | bad=>rw [h1] at e;cases e
end
noncomputable def qi (n:Nat)(m:Ex):Fn:=λ ws A=>(m (ws.map some++List.replicate (n - ws.length) none) A).nox.bind λ fl A1=>match fl with
 | .rt w=>.ok w A1
 | .nx _=>.ok .non A1
 | _=>.bad
theorem RE.start {K:Frag}{φ:List Addr}{H:Hp}{N:List Str}{ws:List W}{vs:List V}(h:zx K φ H ws vs):RE K φ H (ws.map some++List.replicate (N.length - ws.length) none) (L2.start N vs):=by
 unfold L2.start
 refine ⟨by simp [h.length],λ i w e=>?_⟩
 by_cases hi:i<ws.length
 ·rw [List.getElem?_append_left (by simpa using hi),List.getElem?_map] at e
  cases hw:ws[i]? with
  | none=>rw [hw] at e;cases e
  | some w'=>
   rw [hw] at e;cases e
   obtain ⟨v,h1,h2⟩:=h.get hw
   refine ⟨v,?_,h2⟩
   rw [List.getElem?_append_left (by rw [List.length_map,<- h.length];exact hi),List.getElem?_map,h1];rfl
 ·rw [List.getElem?_append_right (by simpa using hi),List.getElem?_replicate] at e
  split at e<;>cases e
section
variable {P:Program}{w:World}{K:Frag}{mg:Str->Option Value}{base:Heap}
theorem zM.mono {j k n:Nat}{x:Str}{f:Fn}(F:zM P w K mg base j x n f)(h:j<=k):zM P w K mg base k x n f:=by cases F with | mk fa fd ps F a b c=>exact ⟨fa,fd,ps,F.mono h,a,b,c⟩
end
section
variable {X:Cx}{K:Frag}
theorem jq {α:Type}{a:α}{A:Hx}:ql (R.ok a A):=λ _ _ h=>by cases h
theorem qu {α:Type}:ql (R.bad:R α):=λ _ _ h=>by cases h
theorem wa {α:Type}{c:Prop} [Decidable c] {a b:R α}(h1:ql a)(h2:ql b):ql (if c then a else b):=by split<;>assumption
noncomputable def kN (f:Int->Int->W):W->W->Hx->R W
 | .int i,.int j,A=>.ok (f i j) A
 | _,_,_=>.bad
theorem gB {f:Int->Int->W}:∀x y A,ql (kN f x y A):=λ x y A=>by
 unfold kN;split
 ·exact jq
 ·exact qu
noncomputable def wZ (c:Int->Int->Bool)(f:Int->Int->W):W->W->Hx->R W
 | .int i,.int j,A=>if c i j then .ok (f i j) A else .bad
 | _,_,_=>.bad
theorem WH {c:Int->Int->Bool}{f:Int->Int->W}:∀x y A,ql (wZ c f x y A):=λ x y A=>by
 unfold wZ;split
 ·exact wa jq qu
 ·exact qu
theorem gm {f:Int->Int->W}{g:Int->Int->V}(h:∀i j φ H,RV K φ H (f i j) (g i j)):jI K (kP g) (kN f):=λ φ A H x y u v Q S q1 q2 p=>by
 cases u with
 | int i=>cases v with
  | int j=>obtain rfl:=q1;obtain rfl:=q2;exact ⟨i,j,rfl,rfl,p φ H _ .refl S (h i j φ H)⟩
  | _=>exact p.elim
 | _=>exact p.elim
theorem Ws {c:Int->Int->Bool}{C:Int->Int->Prop}{f:Int->Int->W}{g:Int->Int->V}(hc:∀i j,c i j=true->C i j)(h:∀i j φ H,RV K φ H (f i j) (g i j)):jI K (rI C g) (wZ c f):=λ φ A H x y u v Q S q1 q2 p=>by
 cases u with
 | int i=>cases v with
  | int j=>
   obtain rfl:=q1;obtain rfl:=q2
   unfold wZ at p
   dsimp only at p
   by_cases hh:c i j=true
   ·rw [if_pos hh] at p;exact ⟨i,j,rfl,rfl,hc i j hh,p φ H _ .refl S (h i j φ H)⟩
   ·rw [if_neg hh] at p;exact p.elim
  | _=>exact p.elim
 | _=>exact p.elim
noncomputable def QD (i j:Int):Bool:=(decide (-(2 ^ 64)<i)&&decide (i<2 ^ 64)) || (decide (-(2 ^ 64)<j)&&decide (j<2 ^ 64))
noncomputable def JK (_ j:Int):Bool:=decide (0<j)&&decide (j<1073741824)
noncomputable def JH (_ j:Int):Bool:=decide (0<j)
theorem NR (i j:Int)(h:QD i j=true):Qz i j:=by
 unfold QD at h
 simp only [Bool.or_eq_true,Bool.and_eq_true,decide_eq_true_eq] at h
 exact h
theorem O8 (i j:Int)(h:JK i j=true):Ut i j:=by
 unfold JK at h
 simp only [Bool.and_eq_true,decide_eq_true_eq] at h
 exact h
theorem NQ (i j:Int)(h:JH i j=true):(λ _ j=>0<j) i j:=by
 unfold JH at h
 simpa using h
noncomputable def jS:=kN λ i j=>.int (i - j)
noncomputable def we:=wZ JK λ i j=>.int (i / j)
noncomputable def yD:=wZ JH λ i j=>.int (i % j)
noncomputable def Gb:=kN λ i j=>.int (Builtin.bitXor i j)
noncomputable def kL:=kN λ i j=>.bl (decide (i<j))
noncomputable def jN:=kN λ i j=>.bl (decide (i<=j))
noncomputable def Gx:=kN λ i j=>.bl (decide (j<i))
noncomputable def Gz:=kN λ i j=>.bl (decide (j<=i))
noncomputable def Gf (i j:Int):Bool:=decide (0<=j)&&decide (j<=1000000)&&decide (i.natAbs<2 ^ 64)
theorem O3 (i j:Int)(h:Gf i j=true):Uy i j:=by
 unfold Gf at h
 simp only [Bool.and_eq_true,decide_eq_true_eq] at h
 exact ⟨h.1.1,h.1.2,h.2⟩
noncomputable def Zl:=wZ Gf λ i j=>.int (i ^ j.toNat)
variable {xr:XR}{a b c:Expr}{ma mb mc:Ev}{pos:Pos}
noncomputable def kJ:W->Hx->R W
 | .int i,A=>.ok (.int (-i)) A
 | _,_=>.bad
structure yC (X:Cx)(op:CmpOp)(g:W->W->Hx->R W):Prop where
 ex:∃r:R2,qj X (compareOp op) r/\(∀x y A,ql (g x y A))/\jI X.K r g
 mks:∀b,op≠.In->op≠.NotIn->behindInMarks op b=false
theorem gx {op:CmpOp}{r:R2}{g:W->W->Hx->R W}(h1:qj X (compareOp op) r)(h2:∀x y A,ql (g x y A))(h3:jI X.K r g):yC X op g:=⟨⟨r,h1,h2,h3⟩,λ b a1 a2=>Ol b a1 a2⟩
theorem Gh:yC X .Lt kL:=gx Iy gB (gm λ _ _ _ _=>rfl)
theorem ZU:yC X .LtE jN:=gx Il gB (gm λ _ _ _ _=>rfl)
theorem Hd:yC X .Gt Gx:=gx IS gB (gm λ _ _ _ _=>rfl)
theorem Ha:yC X .GtE Gz:=gx LY gB (gm λ _ _ _ _=>rfl)
end
inductive Ty where
 | non | bl | int | str | tup | lst | dct
 deriving DecidableEq
noncomputable def Ty.nm:Ty->String
 | .non => "NoneType" | .bl => "bool" | .int => "int" | .str => "str" | .tup => "tuple" | .lst => "list" | .dct => "dict"
noncomputable def jg (w:W)(A:Hx):Option Ty:=match w with
 | .non=>some .non
 | .bl _=>some .bl
 | .int _=>some .int
 | .str _=>some .str
 | .tup _=>some .tup
 | .ref n=>match A[n]? with
  | some (.lst _)=>some .lst
  | some (.dct _)=>some .dct
  | _=>none
 | _=>none
noncomputable def yo (a b:Ty):Bool:=a==b || (a==.bl&&b==.int)
theorem Jj {K:Frag}(a b:Ty):PySem.W.kitOne K (.type a.nm) (.type b.nm)=some (yo a b):=by
 cases a<;>cases b<;>rfl
section
variable {X:Cx}{xr:XR}{K:Frag}{e a b c:Expr}{es:List Expr}{m ma mb mc:Ev}{pos:Pos}
noncomputable def Zq (K:Frag)(H:Hp)(x:V)(t:Ty):Prop:=yT K H x (.type t.nm)∨∃a xs,x=.ref a/\qd K H a xs/\t=.tup
theorem Vf {φ:List Addr}{A:Hx}{H:Hp}{w:W}{v:V}{t:Ty}(S:zF K φ A H)(q:RV K φ H w v)(e:jg w A=some t):Zq K H v t:=by
 cases w with
 | non=>cases e;obtain rfl:=q;exact .inl .non
 | bl k=>cases e;obtain rfl:=q;exact .inl (.bl k)
 | clo _ _ _=>cases e
 | xc _=>cases e
 | int k=>cases e;obtain rfl:=q;exact .inl (.int k)
 | str k=>cases e;obtain rfl:=q;exact .inl (.str k)
 | tup ws=>cases e;obtain ⟨a,vs,rfl,h,_⟩:=q;exact .inr ⟨a,vs,rfl,h,rfl⟩
 | ref n=>
  obtain ⟨a,rfl,h1⟩:=q
  unfold jg at e
  dsimp only at e
  cases eo:A[n]? with
  | none=>rw [eo] at e;cases e
  | some o=>
   rw [eo] at e
   obtain ⟨a',h2,r⟩:=S.ob n o eo
   rw [h1] at h2;cases h2
   cases o with
   | lst ws=>cases e;obtain ⟨vs,z,_⟩:=r;exact .inl (.lst z)
   | dct ws=>cases e;obtain ⟨vs,z,_⟩:=r;exact .inl (.dK z)
   | tab _ _=>cases e
   | ro ws=>cases e
theorem Zq.kit {pins:List (Addr × Obj)}{σ:St}{H:Hp}{s:Shared}{x:V}{u:Value}{t:Ty}(I:Inv X pins σ H s)(r:RelV x u)(h:Zq X.K H x t):
  (∀{Q:Value->Shared->Prop} {E:Value->Shared->Prop} {A:Around} {c:Ty},(∀tk,Q (.bool (yo t c)) { s with toks:=tk })->wpAny (model X.prog X.w) A (call (.builtin "isinstance") [u,.type c.nm]) Q E s):=by
 intro Q E A c hq
 rcases h with h | ⟨a,xs,rfl,h,rfl⟩
 ·exact RD I r h (Jj t c) hq
 ·cases (show u=Value.ref a from r)
  obtain ⟨its,_,⟨o,h1,h2,_⟩,_⟩:=I.tuple h
  exact PySem.W.kia_one PySem.W.kitx_tuple I.kIn ⟨o,h1,h2⟩ (Jj .tup c) (λ z=>nomatch z) hq
noncomputable def HD (K:Frag):List V->Hp->VK->Prop:=λ xs H Q=>∃x t c,xs=[x,.ty (Ty.nm c)]/\Zq K H x t/\Q (.bl (yo t c)) H
theorem NG:jx X (.builtin "isinstance") (HD X.K):=by
 intro pins s σ H xs us Q I r h
 obtain ⟨x,t,c,rfl,ht,q⟩:=h
 obtain ⟨u,u',rfl,ru,ru'⟩:=vals2 r
 cases (show u'=Value.type c.nm from ru')
 exact ht.kit I ru λ tk=>⟨.bl (yo t c),H,I.tok tk,rfl,q⟩
noncomputable def jA (t:Ty)(m:Ev):Ev:=λ ρ A=>(m ρ A).bind λ w A1=>match jg w A1 with
 | some t'=>.ok (.bl (yo t' t)) A1
 | none=>.bad
noncomputable def zz:W->W->Hx->R W:=λ x y A=>match zT x A,y with
 | some ws,.int i=>match yO ws i with
  | some w=>.ok w A
  | none=>.bad
 | _,_=>.bad
theorem L5:∀x y A,ql (zz x y A):=λ x y A=>by
 unfold zz;split
 ·split
  ·exact jq
  ·exact qu
 ·exact qu
theorem PU {φ:List Addr}{H:Hp}{ws:List W}{ys:List V}{i:Int}{w:W}(r:zx K φ H ws ys)(e:yO ws i=some w):∃y,yO ys i=some y/\RV K φ H w y:=by
 unfold yO at e ⊢
 rw [<- r.length]
 cases h:kz ws.length i with
 | none=>rw [h] at e;cases e
 | some j=>
  rw [h] at e
  obtain ⟨y,h1,h2⟩:=r.get (i:=j) e
  exact ⟨y,h1,h2⟩
theorem MJ:jI K (UJ K) zz:=λ φ A H x y u v Q S q1 q2 p=>by
 unfold zz at p
 cases es:zT u A with
 | none=>rw [es] at p;exact p.elim
 | some ws=>
  rw [es] at p
  cases v with
  | int i=>
   obtain rfl:=q2
   dsimp only at p
   cases ei:yO ws i with
   | none=>rw [ei] at p;exact p.elim
   | some w=>
    rw [ei] at p
    obtain ⟨a,ys,rfl,z,r⟩:=Q5 S q1 es
    obtain ⟨y',h1,h2⟩:=PU r ei
    rcases z with z | z
    ·exact .inl ⟨a,ys,i,y',rfl,rfl,z,h1,p φ H _ .refl S h2⟩
    ·exact .inr (.inl ⟨a,ys,i,y',rfl,rfl,z,h1,p φ H _ .refl S h2⟩)
  | non=>exact p.elim
  | bl _=>exact p.elim
  | str _=>exact p.elim
  | tup _=>exact p.elim
  | ref _=>exact p.elim
  | clo _ _ _=>exact p.elim
  | xc _=>exact p.elim
noncomputable def Zs (K:Frag)(r:List V->Hp->VK->Prop)(g:List W->Hx->R W):Prop:=∀φ A H a ys ws Q,zF K φ A H->(qx K H a ys∨qd K H a ys)->zx K φ H ws ys->(g ws A).post (PB K φ H Q) kO->r [.ref a] H Q
noncomputable def mQ (g:List W->Hx->R W)(q:jt):Ev:=λ ρ A=>(q ρ A).bind λ ws A1=>g ws A1
theorem mQ.read {r:List V->Hp->VK->Prop}{g:List W->Hx->R W}{q:jt}(hn:∀ws A,ql (g ws A))(hq:Zs X.K r g):∀σ H Q,tM X.K xr (mQ g q) σ H Q->Gs r (Ui (tQ X.K xr q) UG) σ H Q:=by
 rintro σ H Q ⟨φ,A,ρ,S,re,h⟩
 refine ⟨φ,A,ρ,S,re,qe (zU.mp h) (λ ws A1 h1 φ1 H1 a ys l1 S1 z r=>?_) λ _ _ z=>z⟩
 exact hq φ1 A1 H1 a ys ws Q S1 z r (qe (ZF (hn _ _) h1) (λ _ _ z=>z.mono l1) λ _ _ z=>z)
theorem W0 {id:String}{x:Str}{p:Pos}{r:List V->Hp->VK->Prop}{g:List W->Hx->R W}{q:jt}(hc:jx X (.builtin id) r)(hn:∀ws A,ql (g ws A))(hq:Zs X.K r g)(hm:X.mg x=none)(hv:bootBuiltins x=some (.builtin id))(ha:SQ X xr e q)(hg:Gl X x:=by rfl)
  (hn':x ≠ "__name__" := by decide)(hdb:(x==("__debug__" : Str))=false:=by decide)(he:starEach [e] X.env=(false,eval e X.env)::starEach [] X.env:=by rfl)(hpl:(backTo pos (starEach [] X.env)).any (·.1)=false:=by rfl):
  SE X xr (.Call (.Name x p) [e] [] pos) (mQ g q):=PE.imp (gc hc hg hm hv (qX ha jL he) hn' hdb he hpl) (mQ.read hn hq)
theorem L3 {id:String}{x:Str}{p:Pos}{r:List V->Hp->VK->Prop}{g:List W->Hx->R W}{q:jt}(hc:jx X (.type id) r)(hn:∀ws A,ql (g ws A))(hq:Zs X.K r g)(hm:X.mg x=none)(hv:bootBuiltins x=some (.type id))(ha:SQ X xr e q)(hg:Gl X x:=by rfl)
  (hn':x ≠ "__name__" := by decide)(hdb:(x==("__debug__" : Str))=false:=by decide)(he:starEach [e] X.env=(false,eval e X.env)::starEach [] X.env:=by rfl)(hpl:(backTo pos (starEach [] X.env)).any (·.1)=false:=by rfl):
  SE X xr (.Call (.Name x p) [e] [] pos) (mQ g q):=PE.imp (ZA hc hg hm hv (qX ha jL he) hn' hdb he hpl) (mQ.read hn hq)
noncomputable def qh:List W->Hx->R W:=λ ws A=>.ok (.int ws.length) A
theorem N0:Zs K (λ xs H Q=>∃p ys,xs=[.ref p]/\(qx K H p ys∨qd K H p ys)/\Q (.int ys.length) H) qh:=λ φ A H a ys ws Q S z r p=>
 ⟨a,ys,rfl,z,by rw [<- r.length];exact p φ H _ .refl S rfl⟩
noncomputable def jF:List W->Hx->R W:=λ ws A=>.ok (.tup ws) A
theorem N9:Zs K (λ xs H Q=>∃p ys,xs=[.ref p]/\((qx K H p ys/\∀l,H l=none->Q (.ref l) (upd H l (.tup ys)))∨(qd K H p ys/\Q (.ref p) H))) jF:=λ φ A H a ys ws Q S z r p=>by
 refine ⟨a,ys,rfl,?_⟩
 rcases z with z | z
 ·refine .inl ⟨z,λ l hl=>?_⟩
  obtain ⟨a1,a2,a3⟩:=g7 S hl r
  exact p _ _ _ a1 a2 a3
 ·exact .inr ⟨z,p φ H _ .refl S ⟨a,ys,rfl,z,r⟩⟩
end
section
variable {X:Cx}{xr:XR}{K:Frag}{e a b c:Expr}{es:List Expr}{m ma mb mc:Ev}{pos:Pos}
theorem X4 {pins:List (Addr × Obj)}{σ:St}{H:Hp}{s:Shared}{a:Addr}{ys:List V}(I:Inv X pins σ H s)(hc:X.calm=true)(z:qx X.K H a ys∨qd X.K H a ys){E:Value->Shared->Prop}{Q:Value->Shared->Prop}
  (h:∀(its:List Value) (I':Addr) (fp wr:List Addr) (St':Nat->Heap->Prop) (s2:Shared),Vals ys its->ys.length<=sizeLine->Walks X.prog X.w X.A.in1 I' fp wr its.length (λ i v=>its[i]? =some v) St'->St' 0 s2.heap->(∀b∈fp,b<s2.heap.objs.size)->
   (∀(h':Heap) (tk:Nat),(∀b o,b∉wr->s2.heap.get? b=some o->h'.get? b=some o)->Inv X pins σ H { s2 with heap:=h',toks:=tk })->Q (.ref I') s2):
  wpAny (model X.prog X.w) X.A.in1 (pyIter (.ref a)) Q E s:=by
 have hh:X.A.in1.handled=none:=I.ok.hd hc
 have keep:∀(o:Obj) (h':Heap) (tk:Nat),(∀b u,b∉[s.heap.objs.size]->(s.heap.push o).get? b=some u->h'.get? b=some u)->Inv X pins σ H { s with heap:=h',toks:=tk }:=λ o h' tk k=>I.kept λ b u e=>k b u (by
  intro hm
  have e1:b=s.heap.objs.size:=by simpa using hm
  exact absurd (e1 ▸ Heap.lt_size e) (Nat.lt_irrefl _)) (Heap.get?_push_of_some _ e)
 rcases z with z | z
 ·obtain ⟨its,rv,p,hz⟩:=I.list z
  have hlt:a<s.heap.objs.size:=by obtain ⟨o,n,e,_⟩:=p;exact Heap.lt_size e
  refine wpAny_pyIter_list p.isList ?_
  have W:=Walks.list (prog:=X.prog) (w:=X.w) hh s.heap.objs.size a (Nat.ne_of_lt hlt) its.toArray
  rw [List.size_toArray] at W
  simp only [List.getElem?_toArray] at W
  refine h its s.heap.objs.size _ _ _ _ rv hz W ⟨⟨_,Heap.get?_push_size _ rfl,rfl,rfl⟩,p.isList.at λ o e=>Heap.get?_push_of_some _ e⟩ (λ b hb=>?_) λ h' tk k=>keep _ h' tk k
  show b<(s.heap.push _).objs.size
  rw [Heap.size_push]
  rcases List.mem_cons.mp hb with e | hb
  ·rw [e];exact Nat.lt_succ_self _
  ·have e:b=a:=by simpa using hb
   rw [e];exact Nat.lt_succ_of_lt hlt
 ·obtain ⟨its,rv,p,hz⟩:=I.tuple z
  have hlt:a<s.heap.objs.size:=p.lt
  have p':s.heap.IsTuple a its.toArray:=p
  refine wpAny_pyIter_tuple p' ?_
  have W:=Walks.tuple (prog:=X.prog) (w:=X.w) hh s.heap.objs.size a (Nat.ne_of_lt hlt) its.toArray
  rw [List.size_toArray] at W
  simp only [List.getElem?_toArray] at W
  refine h its s.heap.objs.size _ _ _ _ rv hz W ⟨⟨_,Heap.get?_push_size _ rfl,rfl,rfl⟩,p'.at λ o e=>Heap.get?_push_of_some _ e⟩ (λ b hb=>?_) λ h' tk k=>keep _ h' tk k
  show b<(s.heap.push _).objs.size
  rw [Heap.size_push]
  rcases List.mem_cons.mp hb with e | hb
  ·rw [e];exact Nat.lt_succ_self _
  ·have e:b=a:=by simpa using hb
   rw [e];exact Nat.lt_succ_of_lt hlt
noncomputable def Qx:V->Option Bool
 | .bl b=>some b
 | .int i=>some (i != 0)
 | .non=>some false
 | _=>none
noncomputable def QC:W->Option Bool
 | .bl b=>some b
 | .int i=>some (i != 0)
 | .non=>some false
 | _=>none
theorem P8 {φ:List Addr}{H:Hp}{w:W}{v:V}{k:Bool}(q:RV K φ H w v)(e:QC w=some k):Qx v=some k:=by
 cases w<;>first
  | (cases e;done)
  | (obtain rfl:=q;exact e)
theorem Pe {A:Around}{v:V}{u:Value}{k:Bool}{s:Shared}{Q:Bool->Shared->Prop}{E:Value->Shared->Prop}(r:RelV v u)(e:Qx v=some k)(h:Q k s):wpAny (model X.prog X.w) A (truthy u) Q E s:=by
 cases v with
 | bl b=>cases e;cases r;exact wpAny_truthy_bool h
 | int i=>
  cases e
  obtain ⟨t,rfl⟩:=r
  exact PySem.P.truthy_int h
 | non=>cases e;cases r;exact λ _ _ _=>h
 | _=>cases e
noncomputable def kG:List W->Option (List Bool)
 | []=>some []
 | w::ws=>match QC w,kG ws with
  | some k,some ks=>some (k::ks)
  | _,_=>none
theorem Xa {φ:List Addr}{H:Hp}:∀{ws:List W} {ys:List V} {ks:List Bool},zx K φ H ws ys->kG ws=some ks->∀(i:Nat) (y:V),ys[i]? =some y->∃k,ks[i]? =some k/\Qx y=some k
 | [],_,_,r,e,i,y,h=>by cases r;simp at h
 | w::ws,_,ks,⟨v,r,e1,q,t⟩,e,i,y,h=>by
  subst e1
  unfold kG at e
  cases e2:QC w with
  | none=>rw [e2] at e;cases e
  | some k=>
   cases e3:kG ws with
   | none=>rw [e2,e3] at e;cases e
   | some ks'=>
    rw [e2,e3] at e
    cases e
    cases i with
    | zero=>simp at h;subst h;exact ⟨k,by simp,P8 q e2⟩
    | succ i=>simp at h;obtain ⟨k',h1,h2⟩:=Xa t e3 i y h;exact ⟨k',by simpa using h1,h2⟩
theorem Xf:∀{ws:List W} {ks:List Bool},kG ws=some ks->ks.length=ws.length
 | [],_,e=>by cases e;rfl
 | w::ws,ks,e=>by
  unfold kG at e
  cases e2:QC w with
  | none=>rw [e2] at e;cases e
  | some k=>
   cases e3:kG ws with
   | none=>rw [e2,e3] at e;cases e
   | some ks'=>rw [e2,e3] at e;cases e;simp [Xf e3]
theorem range_all (ks:List Bool):(List.range ks.length).all (λ i=>ks.getD i false)=ks.all id:=by
 rw [Bool.eq_iff_iff,List.all_eq_true,List.all_eq_true]
 constructor
 ·intro h x hx
  obtain ⟨i,hi,rfl⟩:=List.getElem_of_mem hx
  have:=h i (List.mem_range.mpr hi)
  rw [List.getD_eq_getElem?_getD,List.getElem?_eq_getElem hi] at this
  exact this
 ·intro h i hi
  have hi':=List.mem_range.mp hi
  rw [List.getD_eq_getElem?_getD,List.getElem?_eq_getElem hi']
  exact h _ (List.getElem_mem hi')
noncomputable def Ux (K:Frag)(f:List Bool->Bool):List V->Hp->VK->Prop:=λ xs H Q=>∃a ys ks,xs=[.ref a]/\(qx K H a ys∨qd K H a ys)/\ks.length=ys.length/\(∀(i:Nat) (y:V),ys[i]? =some y->∃k,ks[i]? =some k/\Qx y=some k)/\Q (.bl (f ks)) H
theorem Ow {ys:List V}{its:List Value}{ks:List Bool}{A:Around}(rv:Vals ys its)(hl:ks.length=ys.length)(ht:∀(i:Nat) (y:V),ys[i]? =some y->∃k,ks[i]? =some k/\Qx y=some k):TruthOf X.prog X.w A (λ i v=>its[i]? =some v) λ i=>ks.getD i false:=by
 intro i v s Q E hP hQ
 have hi:i<its.length:=(List.getElem?_eq_some_iff.mp hP).1
 have hi':i<ys.length:=by rw [rv.length];exact hi
 obtain ⟨u,h1,h2⟩:=rv.get (i:=i) (x:=ys[i]) (by simp [hi'])
 rw [hP] at h1;cases h1
 obtain ⟨k,h3,h4⟩:=ht i ys[i] (by simp [hi'])
 dsimp only at hQ
 rw [List.getD_eq_getElem?_getD,h3] at hQ
 exact Pe h2 h4 hQ
theorem PZ (hc:X.calm=true):jx X (.builtin "all") (Ux X.K λ ks=>ks.all id):=by
 intro pins s σ H xs us Q I r h
 obtain ⟨a,ys,ks,rfl,z,hl,ht,q⟩:=h
 obtain ⟨u,rfl,ru⟩:=vals1 r
 cases ru
 refine call_all_walk (X4 I hc z λ its I' fp wr St' s2 rv hz W st hfp back=>?_)
 refine ⟨I',fp,wr,_,_,St',λ i=>ks.getD i false,rfl,W,st,Ow rv hl ht,λ h' tk k=>?_⟩
 have e:its.length=ks.length:=by rw [hl,rv.length]
 rw [e,range_all]
 exact ⟨.bl _,H,back h' tk k,rfl,q⟩
noncomputable def Zi (f:List Bool->Bool):List W->Hx->R W:=λ ws A=>match kG ws with
 | some ks=>.ok (.bl (f ks)) A
 | none=>.bad
theorem MB {f:List Bool->Bool}:∀ws A,ql (Zi f ws A):=λ ws A=>by
 unfold Zi;split
 ·exact jq
 ·exact qu
theorem NP {f:List Bool->Bool}:Zs K (Ux K f) (Zi f):=λ φ A H a ys ws Q S z r p=>by
 unfold Zi at p
 cases e:kG ws with
 | none=>rw [e] at p;exact p.elim
 | some ks=>
  rw [e] at p
  exact ⟨a,ys,ks,rfl,z,by rw [Xf e,r.length],Xa r e,p φ H _ .refl S rfl⟩
noncomputable abbrev Zg:=Zi λ ks=>ks.all id
theorem Lb:qj X (compareOp .Is) (λ x y H Q=>∃i j,x=.bl i/\y=.bl j/\Q (.bl (i==j)) H):=by
 intro pins s σ H x y v u Q I rx ry h
 obtain ⟨i,j,rfl,rfl,q⟩:=h
 cases rx;cases ry
 exact is_bool ⟨.bl _,H,I,rfl,q⟩
theorem RB:qj X (compareOp .IsNot) (λ x y H Q=>∃i j,x=.bl i/\y=.bl j/\Q (.bl (!(i==j))) H):=by
 intro pins s σ H x y v u Q I rx ry h
 obtain ⟨i,j,rfl,rfl,q⟩:=h
 cases rx;cases ry
 exact isnot_bool ⟨.bl _,H,I,rfl,q⟩
noncomputable def Wt:W->Bool
 | .non=>true
 | _=>false
theorem Xn {φ:List Addr}{H:Hp}{w:W}{v:V}(q:RV K φ H w v):decide (v=.non)=Wt w:=by
 cases w with
 | non=>obtain rfl:=q;rfl
 | bl b=>obtain rfl:=q;rfl
 | clo _ _ _=>obtain ⟨a,_,_,_,_,_,_,rfl,_⟩:=q;rfl
 | xc _=>obtain ⟨a,_,_,_,rfl,_⟩:=q;rfl
 | int b=>obtain rfl:=q;rfl
 | str b=>obtain rfl:=q;rfl
 | tup ws=>obtain ⟨a,vs,rfl,_⟩:=q;rfl
 | ref n=>obtain ⟨a,rfl,_⟩:=q;rfl
noncomputable def wq (neg:Bool):W->W->Hx->R W:=λ x y A=>match x,y with
 | .bl i,.bl j=>.ok (.bl (if neg then !(i==j) else i==j)) A
 | w,.non=>.ok (.bl (if neg then !Wt w else Wt w)) A
 | _,_=>.bad
theorem VX {n:Bool}:∀x y A,ql (wq n x y A):=λ x y A=>by
 unfold wq;split
 ·exact jq
 ·exact jq
 ·exact qu
theorem Mx:jI K (λ x y H Q=>(y=.non/\Q (.bl (decide (x=.non))) H)∨∃i j,x=.bl i/\y=.bl j/\Q (.bl (i==j)) H) (wq false):=λ φ A H x y u v Q S q1 q2 p=>by
 cases v with
 | non=>
  have q2':y=.non:=q2
  refine .inl ⟨q2',?_⟩
  rw [Xn q1]
  cases u<;>exact p φ H _ .refl S rfl
 | bl j=>
  cases u with
  | bl i=>obtain rfl:=q1;obtain rfl:=q2;exact .inr ⟨i,j,rfl,rfl,p φ H _ .refl S rfl⟩
  | _=>exact p.elim
 | _=>cases u<;>exact p.elim
theorem R8:jI K (λ x y H Q=>(y=.non/\Q (.bl (!decide (x=.non))) H)∨∃i j,x=.bl i/\y=.bl j/\Q (.bl (!(i==j))) H) (wq true):=λ φ A H x y u v Q S q1 q2 p=>by
 cases v with
 | non=>
  have q2':y=.non:=q2
  refine .inl ⟨q2',?_⟩
  rw [Xn q1]
  cases u<;>exact p φ H _ .refl S rfl
 | bl j=>
  cases u with
  | bl i=>obtain rfl:=q1;obtain rfl:=q2;exact .inr ⟨i,j,rfl,rfl,p φ H _ .refl S rfl⟩
  | _=>exact p.elim
 | _=>cases u<;>exact p.elim
theorem Uz:yC X .Is (wq false):=gx (Mw.or Lb) VX Mx
theorem NB:yC X .IsNot (wq true):=gx (NX.or RB) VX R8
end
noncomputable def Uw (outer sc:Scope):Bool:=sc.kind==.function&&decide ((sc.names.map (·.1)).Nodup)&&sc.names.all λ y=>y.2 != .free || (outer.names.lookup y.1==some .cell || outer.names.lookup y.1==some .free)
theorem cps {X:Cx}{sc:Scope}(h:Uw X.env.scope sc=true):wF X sc:=by
 unfold Uw at h
 rw [Bool.and_eq_true,Bool.and_eq_true,decide_eq_true_iff,beq_iff_eq,List.all_eq_true] at h
 refine ⟨h.1.1,h.1.2,λ y hy e=>?_⟩
 have:=h.2 y hy
 rw [e] at this
 simp only [bne_self_eq_false,Bool.false_or,Bool.or_eq_true,beq_iff_eq] at this
 exact this
section
variable {X:Cx}{xr:XR}{K:Frag}{e a b c:Expr}{es:List Expr}{m ma mb mc:Ev}{pos:Pos}
theorem zF.lst {φ:List Addr}{A:Hx}{H:Hp}{n:Nat}{ws:List W}{v:V}(S:zF K φ A H)(q:RV K φ H (.ref n) v)(e:A[n]? =some (.lst ws)):∃p vs,v=.ref p/\φ[n]? =some p/\H p=some (.lst vs)/\zx K φ H ws vs:=by
 obtain ⟨p,rfl,h1⟩:=q
 obtain ⟨p',h2,vs,h3,h4⟩:=S.ob n _ e
 rw [h1] at h2;cases h2
 exact ⟨p,vs,rfl,h1,h3,h4⟩
theorem Pm {prog:Program}{w:World}{A:Around}{E:Value->Shared->Prop}{s:Shared}{t b:Addr}{ws:List Value}{Q:Value->Shared->Prop}(ht:IsTup s.heap t ([]:List Value).toArray)(hb:IsTup s.heap b ws.toArray)(h0:Q (.ref b) s):
  wpAny (model prog w) A (binaryOp .Add (.ref t) (.ref b)) Q E s:=by
 obtain ⟨⟨cls,dd,data,sl⟩,ho,hc,n,hd⟩:=id ht
 obtain ⟨⟨cls2,dd2,data2,sl2⟩,ho2,hc2,n2,hd2⟩:=id hb
 simp only at hc hd hc2 hd2
 subst hc hd hc2 hd2
 exact concat_meets ⟨_,ho,rfl⟩ ⟨_,ho2,rfl⟩ noFill_tuple_add seq_tuple_add PySem.F.slot_tuple_add PySem.F.entry_tuple_add (PySem.F.args_tuple_add_2 _ _)
   (tuple_addW0 t b ([]:List Value).toArray ws.toArray n n2 dd dd2 sl sl2 (by simp)) ⟨ho,ho2,h0⟩
noncomputable def VP (K:Frag):R2:=λ x y H Q=>∃a b ys,x=.ref a/\y=.ref b/\qd K H a []/\qd K H b ys/\Q (.ref b) H
theorem OD:qj X (binaryOp .Add) (VP X.K):=by
 intro pins s σ H x y v u Q I rx ry h
 obtain ⟨a,b,ys,rfl,rfl,ha,hb,q⟩:=h
 cases rx
 cases ry
 obtain ⟨its,r1,p1,_⟩:=I.tuple ha
 obtain ⟨its2,r2,p2,_⟩:=I.tuple hb
 cases r1
 exact Pm p1 p2 ⟨.ref b,H,I,rfl,q⟩
noncomputable def zL:W->W->Hx->R W:=λ x y A=>match x,y with
 | .int i,.int j=>.ok (.int (i+j)) A
 | .tup xs,.tup ys=>if xs.length+ys.length<=zW then .ok (.tup (xs++ys)) A else .bad
 | .ref n,.ref k=>match A[n]?,A[k]? with
  | some (.lst xs),some (.lst ys)=>if xs.length+ys.length<=zW then .ok (.ref A.length) (A++[.lst (xs++ys)]) else .bad
  | _,_=>.bad
 | _,_=>.bad
theorem Mc:∀x y A,ql (zL x y A):=λ x y A=>by
 unfold zL
 split
 ·exact jq
 ·exact wa jq qu
 ·split
  ·exact wa jq qu
  ·exact qu
 ·exact qu
theorem wD {n:Nat}(h:n<=zW):n<=sizeLine:=by
 have:sizeLine=16777216:=sizeLine_eq
 unfold zW at h
 omega
theorem N8:jI K (λ x y H Q=>kP (λ i j=>.int (i+j)) x y H Q∨Uo K x y H Q∨VP K x y H Q∨UB x y H Q) zL:=λ φ A H x y u v Q S q1 q2 p=>by
 cases u with
 | int i=>cases v with
  | int j=>obtain rfl:=q1;obtain rfl:=q2;exact .inl ⟨i,j,rfl,rfl,p φ H _ .refl S rfl⟩
  | _=>exact p.elim
 | tup xs=>cases v with
  | tup ys=>
   obtain ⟨a1,vs1,rfl,t1,r1⟩:=q1
   obtain ⟨a2,vs2,rfl,t2,r2⟩:=q2
   unfold zL at p
   dsimp only at p
   by_cases hz:xs.length+ys.length<=zW
   ·rw [if_pos hz] at p
    by_cases hx:vs1=[]
    ·subst hx
     have e0:xs=[]:=by
      have:=r1.length
      simpa using this
     subst e0
     exact .inr (.inr (.inl ⟨a1,a2,vs2,rfl,rfl,t1,t2,p φ H _ .refl S ⟨a2,vs2,rfl,t2,r2⟩⟩))
    ·refine .inr (.inl ⟨a1,a2,vs1,vs2,rfl,rfl,t1,t2,hx,by rw [<- r1.length,<- r2.length];exact wD hz,λ e=>?_,λ ne l hl=>?_⟩)
     ·subst e
      have e0:ys=[]:=by
       have:=r2.length
       simpa using this
      subst e0
      rw [List.append_nil] at p
      exact p φ H _ .refl S ⟨a1,vs1,rfl,t1,r1⟩
     ·obtain ⟨b1,b2,b3⟩:=g7 S hl (r1.append r2)
      exact p _ _ _ b1 b2 b3
   ·rw [if_neg hz] at p;exact p.elim
  | _=>exact p.elim
 | ref n=>cases v with
  | ref k=>
   unfold zL at p
   dsimp only at p
   cases e1:A[n]? with
   | none=>rw [e1] at p;exact p.elim
   | some o1=>cases o1 with
    | lst xs=>
     cases e2:A[k]? with
     | none=>rw [e1,e2] at p;exact p.elim
     | some o2=>cases o2 with
      | lst ys=>
       rw [e1,e2] at p
       dsimp only at p
       obtain ⟨p1,v1,rfl,f1,g1,r1⟩:=S.lst q1 e1
       obtain ⟨p2,v2,rfl,f2,g2,r2⟩:=S.lst q2 e2
       by_cases hz:xs.length+ys.length<=zW
       ·rw [if_pos hz] at p
        refine .inr (.inr (.inr ⟨p1,p2,v1,v2,rfl,rfl,g1,g2,by rw [<- r1.length,<- r2.length];exact wD hz,λ l hl=>?_⟩))
        obtain ⟨b1,b2,b3⟩:=gn S hl (r1.append r2)
        exact p _ _ _ b1 b2 b3
       ·rw [if_neg hz] at p;exact p.elim
      | _=>rw [e1,e2] at p;exact p.elim
    | _=>rw [e1] at p;exact p.elim
  | _=>exact p.elim
 | _=>cases v<;>exact p.elim
noncomputable def qU:W->W->Hx->R W:=λ x y A=>match x,y with
 | .int i,.int j=>if QD i j then .ok (.int (i * j)) A else .bad
 | .ref n,.int k=>match A[n]? with
  | some (.lst xs)=>if jk k&&decide (xs.length * k.toNat<=zW) then .ok (.ref A.length) (A++[.lst (List.replicate k.toNat xs).flatten]) else .bad
  | _=>.bad
 | _,_=>.bad
theorem Ma:∀x y A,ql (qU x y A):=λ x y A=>by
 unfold qU
 split
 ·exact wa jq qu
 ·split
  ·exact wa jq qu
  ·exact qu
 ·exact qu
theorem zx.rep {φ:List Addr}{H:Hp}{ws:List W}{vs:List V}(r:zx K φ H ws vs):∀n:Nat,zx K φ H (List.replicate n ws).flatten (List.replicate n vs).flatten
 | 0=>.nil
 | n+1=>by rw [List.replicate_succ,List.replicate_succ,List.flatten_cons,List.flatten_cons];exact r.append (zx.rep r n)
theorem OZ:jI K (λ x y H Q=>rI Qz (λ i j=>.int (i * j)) x y H Q∨Uv x y H Q) qU:=λ φ A H x y u v Q S q1 q2 p=>by
 cases v with
 | int j=>cases u with
  | int i=>
   obtain rfl:=q1;obtain rfl:=q2
   unfold qU at p
   dsimp only at p
   by_cases hc:QD i j=true
   ·rw [if_pos hc] at p;exact .inl ⟨i,j,rfl,rfl,NR i j hc,p φ H _ .refl S rfl⟩
   ·rw [if_neg hc] at p;exact p.elim
  | ref n=>
   obtain rfl:=q2
   unfold qU at p
   dsimp only at p
   cases e1:A[n]? with
   | none=>rw [e1] at p;exact p.elim
   | some o1=>cases o1 with
    | lst xs=>
     rw [e1] at p
     dsimp only at p
     obtain ⟨p1,v1,rfl,f1,g1,r1⟩:=S.lst q1 e1
     by_cases hz:(jk j&&decide (xs.length * j.toNat<=zW))=true
     ·rw [if_pos hz] at p
      rw [Bool.and_eq_true,decide_eq_true_iff] at hz
      obtain ⟨b1,b2⟩:=Zz hz.1
      refine .inr ⟨p1,j,v1,rfl,rfl,g1,by omega,by omega,by rw [<- r1.length];exact wD hz.2,λ l hl=>?_⟩
      obtain ⟨c1,c2,c3⟩:=gn S hl (r1.rep j.toNat)
      exact p _ _ _ c1 c2 c3
     ·rw [if_neg hz] at p;exact p.elim
    | _=>rw [e1] at p;exact p.elim
  | _=>exact p.elim
 | _=>cases u<;>exact p.elim
noncomputable def kD:W->W->Hx->R W:=λ x y A=>match x with
 | .ref n=>match A[n]? with
  | some (.lst ws)=>if ws.length<zW then .ok .non (A.set n (.lst (ws++[y]))) else .bad
  | _=>.bad
 | _=>.bad
noncomputable def Z0 (x:W)(A:Hx):Bool:=match x with
 | .ref n=>match A[n]? with
  | some (.lst _)=>true
  | _=>false
 | _=>false
theorem OB {φ:List Addr}{A:Hx}{H:Hp}{w:W}{v:V}(S:zF K φ A H)(q:RV K φ H w v)(e:Z0 w A=true):GD K "list" v H:=by
 unfold Z0 at e
 cases w with
 | ref n=>
  dsimp only at e
  cases e1:A[n]? with
  | none=>rw [e1] at e;cases e
  | some o=>cases o with
   | lst ws=>obtain ⟨p,vs,rfl,_,h,_⟩:=S.lst q e1;exact .inl ⟨rfl,_,qx.of h⟩
   | _=>rw [e1] at e;cases e
 | _=>cases e
noncomputable def yF (g:W->W->Hx->R W)(a b:Ev):Ev:=λ ρ A=>(a ρ A).bind λ x A1=>if Z0 x A1 then (b ρ A1).bind λ y A2=>g x y A2 else .bad
theorem W3 {nm:Str}{id:String}{r:V->List V->Hp->VK->Prop}{g:W->W->Hx->R W}{apos cpos:Pos}(slot:Slot "list" nm id)(hty:typeOf (.builtin id)=pure (.type "method_descriptor"))(hm:UT X id r)(hn:∀x y A,ql (g x y A))
  (hg:∀φ A H x y u v Q,zF X.K φ A H->RV X.K φ H u x->RV X.K φ H v y->(g u v A).post (PB X.K φ H Q) kO->r x [y] H Q)(ho:SE X xr a ma)(he:SE X xr b mb)
  (hs:starEach [b] X.env=(false,eval b X.env)::starEach [] X.env)(hbase:attributeBase a nm X.env (eval a X.env)=eval a X.env)
  (hfew:((backTo cpos (starEach [b] X.env)).all (λ x=>!x.1)&&(backToKw cpos (keywordEach [] X.env)).all (λ x=>x.1.isSome)
   && decide ([b].length+([]:List Keyword).length+(if ([]:List Keyword).isEmpty then 0 else 1)<30))=true)(hline:(apos.endLine==cpos.line)=true):
  SE X xr (.Call (.Attribute a nm apos) [b] [] cpos) (yF g ma mb):=
 PE.imp (Ie PySem.F.plainAttrs_list slot hty hm ho (qX he jL hs) hbase hfew hline hs (by rfl)) λ σ H Q ⟨φ,A,ρ,S,re,h⟩=>by
  refine tM.go S re (zU.mp h) λ w A1 φ1 H1 v h1 l1 S1 q1=>?_
  by_cases hl:Z0 w A1=true
  ·rw [if_pos hl] at h1
   refine ⟨OB S1 q1 hl,?_⟩
   refine tM.go S1 (re.mono l1) (qe (zU.mp h1) (λ _ _ z=>z) λ _ _ z=>z.mono l1) λ w2 A2 φ2 H2 v2 h2 l2 S2 q2=>?_
   exact hg φ2 A2 H2 v v2 w w2 Q S2 (q1.mono l2) q2 (qe (ZF (hn _ _ _) h2) (λ _ _ z=>z.mono (l1.trans l2)) λ _ _ z=>z)
  ·rw [if_neg hl] at h1;exact h1.elim
theorem RI:∀x y A,ql (kD x y A):=λ x y A=>by
 unfold kD
 split
 ·split
  ·exact wa jq qu
  ·exact qu
 ·exact qu
noncomputable def k9:W->W->Hx->R W:=λ x y A=>match x,y with
 | .ref n,.int i=>match A[n]? with
  | some (.lst ws)=>match (if jk i then seqIndex? i ws.length else none) with
   | some k=>match ws[k]? with
    | some w=>.ok w (A.set n (.lst (ws.eraseIdx k)))
    | none=>.bad
   | none=>.bad
  | _=>.bad
 | _,_=>.bad
theorem Ox:∀x y A,ql (k9 x y A):=λ x y A=>by
 unfold k9
 split
 ·split
  ·split
   ·split
    ·exact jq
    ·exact qu
   ·exact qu
  ·exact qu
 ·exact qu
noncomputable def j3:W->W->W->Hx->R Unit:=λ o i v A=>match o,i with
 | .ref n,.int k=>match A[n]? with
  | some (.lst ws)=>match kz ws.length k with
   | some j=>.ok () (A.set n (.lst (ws.set j v)))
   | none=>.bad
  | _=>.bad
 | _,_=>.bad
theorem Lv:∀o i v A,ql (j3 o i v A):=λ o i v A=>by
 unfold j3
 split
 ·split
  ·split
   ·exact jq
   ·exact qu
  ·exact qu
 ·exact qu
theorem NC:WB K Ub j3:=λ φ A H o i v wo wi wv Q S q1 q2 q3 p=>by
 unfold j3 at p
 cases wo with
 | ref n=>cases wi with
  | int k=>
   obtain rfl:=q2
   dsimp only at p
   cases e1:A[n]? with
   | none=>rw [e1] at p;exact p.elim
   | some o1=>cases o1 with
    | lst ws=>
     rw [e1] at p
     dsimp only at p
     cases e2:kz ws.length k with
     | none=>rw [e2] at p;exact p.elim
     | some j=>
      rw [e2] at p
      obtain ⟨l,vs,rfl,f1,g1,r1⟩:=S.lst q1 e1
      have ln:Le K φ H φ (upd H l (.lst (vs.set j v))):=Le.upd f1 (λ xs z=>by rw [g1] at z;cases z) (λ _ _ z=>by rw [g1] at z;cases z)
      obtain ⟨w1,w2⟩:=S.write (o:=.lst ws) (o':=.lst (ws.set j wv)) e1 rfl rfl f1 ⟨_,jO,(r1.mono ln).set (q3.mono ln) j⟩
      exact ⟨l,vs,k,j,rfl,rfl,g1,by rw [<- r1.length];exact e2,p _ _ w1 w2⟩
    | _=>rw [e1] at p;exact p.elim
  | _=>exact p.elim
 | _=>cases wi<;>exact p.elim
end
section
variable {X:Cx}{xr:XR}{K:Frag}{e a b c:Expr}{es:List Expr}{m ma mb mc:Ev}{pos:Pos}
theorem IA {id:String}{x:Str}{p:Pos}{r:List V->Hp->VK->Prop}{g:W->Hx->R W}(hc:jx X (.builtin id) r)(hn:∀w A,ql (g w A))(hg:J1 X.K (λ v=>r [v]) g)(hm:X.mg x=none)(hv:bootBuiltins x=some (.builtin id))(ha:SE X xr e m)(hgl:Gl X x:=by rfl)
  (hn':x ≠ "__name__" := by decide)(hdb:(x==("__debug__" : Str))=false:=by decide)(he:starEach [e] X.env=(false,eval e X.env)::starEach [] X.env:=by rfl)(hpl:(backTo pos (starEach [] X.env)).any (·.1)=false:=by rfl):
  SE X xr (.Call (.Name x p) [e] [] pos) (q9 g m):=PE.imp (gc hc hgl hm hv (qX ha jL he) hn' hdb he hpl) λ σ H Q h=>q9.read (r:=λ v=>r [v]) hn hg σ H Q h
theorem LV {id:String}{x:Str}{p:Pos}{r:List V->Hp->VK->Prop}{g:W->Hx->R W}(hc:jx X (.type id) r)(hn:∀w A,ql (g w A))(hg:J1 X.K (λ v=>r [v]) g)(hm:X.mg x=none)(hv:bootBuiltins x=some (.type id))(ha:SE X xr e m)(hgl:Gl X x:=by rfl)
  (hn':x ≠ "__name__" := by decide)(hdb:(x==("__debug__" : Str))=false:=by decide)(he:starEach [e] X.env=(false,eval e X.env)::starEach [] X.env:=by rfl)(hpl:(backTo pos (starEach [] X.env)).any (·.1)=false:=by rfl):
  SE X xr (.Call (.Name x p) [e] [] pos) (q9 g m):=PE.imp (ZA hc hgl hm hv (qX ha jL he) hn' hdb he hpl) λ σ H Q h=>q9.read (r:=λ v=>r [v]) hn hg σ H Q h
theorem WM {id:String}{x:Str}{p:Pos}{r:List V->Hp->VK->Prop}{g:W->W->Hx->R W}(hc:jx X (.builtin id) r)(hn:∀w w' A,ql (g w w' A))(hg:jI X.K (λ v v'=>r [v,v']) g)(hm:X.mg x=none)(hv:bootBuiltins x=some (.builtin id))(ha:SE X xr a ma)(hb:SE X xr b mb)(hgl:Gl X x)
  (hn':x ≠ "__name__")(hdb:(x==("__debug__" : Str))=false)(h1:starEach [a,b] X.env=(false,eval a X.env)::starEach [b] X.env)(h2:starEach [b] X.env=(false,eval b X.env)::starEach [] X.env)(hpl:(backTo pos (starEach [b] X.env)).any (·.1)=false):
  SE X xr (.Call (.Name x p) [a,b] [] pos) (zj g ma mb):=PE.imp (gc hc hgl hm hv (qX ha (qX hb jL h2) h1) hn' hdb h1 hpl) λ σ H Q h=>zj.read (r:=λ v v'=>r [v,v']) hn hg σ H Q h
noncomputable def QA:W->Hx->R W
 | .int i,A=>.ok (.int (if i<0 then -i else i)) A
 | _,_=>.bad
noncomputable def wO:W->Hx->R W
 | .int i,A=>.ok (.int i) A
 | .bl k,A=>.ok (.int (if k then 1 else 0)) A
 | _,_=>.bad
noncomputable def W2:=kN λ i j=>.int (if j > i then j else i)
noncomputable def gz:=kN λ i j=>.int (if j<i then j else i)
noncomputable def ki:W->Bool
 | .tup _=>false
 | .ref _=>false
 | .clo _ _ _=>false
 | .xc _=>false
 | _=>true
noncomputable def UD:W->W->Bool
 | .non,.non=>true
 | .bl a,.bl b=>a==b
 | .bl a,.int b=>(if a then 1 else 0)==b
 | .int a,.bl b=>a==(if b then 1 else 0)
 | .int a,.int b=>a==b
 | .str a,.str b=>a==b
 | _,_=>false
noncomputable def ZZ (x:W)(xs:List W):Bool:=xs.any λ y=>UD y x
theorem XF {φ:List Addr}{H:Hp}{w:W}{v:V}(q:RV K φ H w v)(e:ki w=true):wc v=true:=by
 cases w<;>first
  | (cases e;done)
  | (obtain rfl:=q;rfl)
theorem R5 {φ:List Addr}{H:Hp}{w w':W}{v v':V}(q:RV K φ H w v)(q':RV K φ H w' v')(e:ki w=true)(e':ki w'=true):wY v v'=UD w w':=by
 cases w<;>cases w'<;>first
  | (cases e;done)
  | (cases e';done)
  | (obtain rfl:=q;obtain rfl:=q';rfl)
theorem Ve {φ:List Addr}{H:Hp}{x:W}{v:V}(q:RV K φ H x v)(e:ki x=true):∀{xs:List W} {vs:List V},zx K φ H xs vs->xs.all ki=true->vs.all wc=true/\JY v vs=ZZ x xs
 | [],_,r,_=>by cases r;exact ⟨rfl,rfl⟩
 | w::ws,_,⟨y,r,e1,h,t⟩,h2=>by
  subst e1
  rw [List.all_cons,Bool.and_eq_true] at h2
  obtain ⟨i1,i2⟩:=Ve q e t h2.2
  refine ⟨by rw [List.all_cons,XF h h2.1,i1];rfl,?_⟩
  unfold JY ZZ at i2 ⊢
  rw [List.any_cons,List.any_cons,i2,R5 h q h2.1 e]
noncomputable def Zm (neg:Bool):W->W->Hx->R W:=λ x y A=>match zT y A with
 | some ws=>if ki x&&ws.all ki then .ok (.bl (if neg then !ZZ x ws else ZZ x ws)) A else .bad
 | none=>.bad
noncomputable abbrev J2:=Zm false
theorem Ms {n:Bool}:∀x y A,ql (Zm n x y A):=λ x y A=>by
 unfold Zm
 split
 ·exact wa jq qu
 ·exact qu
theorem Lh {n:Bool}:jI K (UM K n) (Zm n):=λ φ A H x y u v Q S q1 q2 p=>by
 unfold Zm at p
 cases es:zT v A with
 | none=>rw [es] at p;exact p.elim
 | some ws=>
  rw [es] at p
  dsimp only at p
  by_cases hf:(ki u&&ws.all ki)=true
  ·rw [if_pos hf] at p
   rw [Bool.and_eq_true] at hf
   obtain ⟨a,ys,rfl,z,r⟩:=Q5 S q2 es
   obtain ⟨i1,i2⟩:=Ve q1 hf.1 r hf.2
   exact ⟨a,ys,rfl,z,XF q1 hf.1,i1,by rw [i2];exact p φ H _ .refl S rfl⟩
  ·rw [if_neg hf] at p;exact p.elim
structure Gj (X:Cx)(op:CmpOp)(g:W->W->Hx->R W):Prop where
 ex:∃r:R2,qj X (compareOp op) r/\(∀x y A,ql (g x y A))/\jI X.K r g
theorem UH:Gj X .In J2:=⟨_,Rw,Ms,Lh⟩
end
noncomputable def jY (f:W->Option PyData):List W->Option (List PyData)
 | []=>some []
 | w::ws=>match f w,jY f ws with
  | some d,some ds=>some (d::ds)
  | _,_=>none
noncomputable def zZ (A:Hx):Nat->W->Option PyData
 | _,.non=>some .none
 | _,.bl b=>some (.bool b)
 | _,.int i=>some (.int i)
 | _,.str x=>if PyData.strOk x then some (.str x) else none
 | _,.clo _ _ _=>none
 | _,.xc _=>none
 | 0,.tup _=>none
 | 0,.ref _=>none
 | n+1,.tup ws=>(jY (zZ A n) ws).map .tuple
 | n+1,.ref k=>match zT (.ref k) A with
  | some ws=>(jY (zZ A n) ws).map .list
  | none=>none
theorem OK {K:Frag}{φ:List Addr}{A:Hx}{H:Hp}{n:Nat}{us:List W}{v:V}(S:zF K φ A H)(q:RV K φ H (.ref n) v)(es:zT (.ref n) A=some us):∃a ys,v=.ref a/\qx K H a ys/\zx K φ H us ys:=by
 obtain ⟨a,rfl,e2⟩:=q
 unfold zT at es
 dsimp only at es
 cases ec:A[n]? with
 | none=>rw [ec] at es;cases es
 | some o=>
  rw [ec] at es
  obtain ⟨a',e3,r⟩:=S.ob n o ec
  rw [e2] at e3;cases e3
  cases o with
  | lst xs=>cases es;obtain ⟨ys,h1,h2⟩:=r;exact ⟨a,ys,rfl,qx.of h1,h2⟩
  | ro xs=>cases es;obtain ⟨ys,h1,h2⟩:=r;exact ⟨a,ys,rfl,h1.sq,h2⟩
  | dct xs=>cases es
  | tab _ _=>cases es
section
variable {X:Cx}{xr:XR}{e a b c:Expr}{ma mb mc:Ev}{pos:Pos}
theorem Kt {K:Frag}{φ:List Addr}{H:Hp}{h:Heap}{f:W->Option PyData}(hf:∀w v u d,RV K φ H w v->RelV v u->f w=some d->∃as,Reads h u d as):
  ∀{ws:List W} {vs:List V} {us:List Value} {ds:List PyData},zx K φ H ws vs->Vals vs us->jY f ws=some ds->∃as,ReadsAll h us ds as
 | [],_,_,_,r,rv,e=>by cases r;cases rv;cases e;exact ⟨[],.nil⟩
 | w::ws,_,_,ds,⟨v,r,e1,q,t⟩,rv,e=>by
  subst e1
  cases rv with
  | cons r1 r2=>
   unfold jY at e
   cases e2:f w with
   | none=>rw [e2] at e;cases e
   | some d=>
    cases e3:jY f ws with
    | none=>rw [e2,e3] at e;cases e
    | some ds'=>
     rw [e2,e3] at e
     cases e
     obtain ⟨as,h1⟩:=hf w v _ d q r1 e2
     obtain ⟨bs,h2⟩:=Kt hf t r2 e3
     exact ⟨_,.cons h1 h2⟩
theorem ZH {pins:List (Addr × Obj)}{σ:St}{H:Hp}{s:Shared}{φ:List Addr}{A:Hx}(I:Inv X pins σ H s)(S:zF X.K φ A H):∀(n:Nat) (w:W) (v:V) (u:Value) (d:PyData),RV X.K φ H w v->RelV v u->zZ A n w=some d->∃as,Reads s.heap u d as:=by
 intro n
 induction n with
 | zero=>
  intro w v u d q r e
  cases w with
  | non=>obtain rfl:=q;cases r;cases e;exact ⟨_,.none⟩
  | bl k=>obtain rfl:=q;cases r;cases e;exact ⟨_,.bool k⟩
  | int k=>obtain rfl:=q;obtain ⟨t,rfl⟩:=r;cases e;exact ⟨_,.int k t⟩
  | str k=>
   obtain rfl:=q
   obtain ⟨t,rfl⟩:=r
   unfold zZ at e
   split at e
   ·cases e;exact ⟨_,.str k t⟩
   ·cases e
  | tup _=>cases e
  | ref _=>cases e
  | clo _ _ _=>unfold zZ at e;cases e
  | xc _=>unfold zZ at e;cases e
 | succ n ih=>
  intro w v u d q r e
  cases w with
  | non=>obtain rfl:=q;cases r;cases e;exact ⟨_,.none⟩
  | bl k=>obtain rfl:=q;cases r;cases e;exact ⟨_,.bool k⟩
  | clo _ _ _=>unfold zZ at e;cases e
  | xc _=>unfold zZ at e;cases e
  | int k=>obtain rfl:=q;obtain ⟨t,rfl⟩:=r;cases e;exact ⟨_,.int k t⟩
  | str k=>
   obtain rfl:=q
   obtain ⟨t,rfl⟩:=r
   unfold zZ at e
   split at e
   ·cases e;exact ⟨_,.str k t⟩
   ·cases e
  | tup ws=>
   obtain ⟨a,vs,rfl,hs,hr⟩:=q
   cases r
   unfold zZ at e
   cases e1:jY (zZ A n) ws with
   | none=>rw [e1] at e;cases e
   | some ds=>
    rw [e1] at e
    cases e
    obtain ⟨its,rv,⟨o,h1,h2,k,h3⟩,_⟩:=I.tuple hs
    obtain ⟨as,h4⟩:=Kt ih hr rv e1
    exact ⟨_,.tuple h1 h2 h3 (by simpa using h4)⟩
  | ref k=>
   unfold zZ at e
   cases e1:zT (.ref k) A with
   | none=>rw [e1] at e;cases e
   | some ws=>
    rw [e1] at e
    dsimp only at e
    obtain ⟨a,ys,rfl,hs,hr⟩:=OK S q e1
    cases r
    cases e2:jY (zZ A n) ws with
    | none=>rw [e2] at e;cases e
    | some ds=>
     rw [e2] at e
     cases e
     obtain ⟨its,rv,⟨o,k',h1,h2,_,h3⟩,_⟩:=I.list hs
     obtain ⟨as,h4⟩:=Kt ih hr rv e2
     exact ⟨_,.list h1 h2 h3 (by simpa using h4)⟩
theorem Kq {A:Hx}:∀(n:Nat) (w:W) (d:PyData),zZ A n w=some d->d.canLay0=true/\d.depth<=n:=by
 intro n
 have lst:∀{n:Nat},(∀(w:W) (d:PyData),zZ A n w=some d->d.canLay0=true/\d.depth<=n)->∀(ws:List W) (ds:List PyData),jY (zZ A n) ws=some ds->PyData.canLayAll0 ds=true/\PyData.depthAll ds<=n:=by
  intro n ih ws
  induction ws with
  | nil=>intro ds e;cases e;exact ⟨by simp [PyData.canLayAll0],by simp [PyData.depthAll]⟩
  | cons w ws ihw=>
   intro ds e
   unfold jY at e
   cases e2:zZ A n w with
   | none=>rw [e2] at e;cases e
   | some d=>
    cases e3:jY (zZ A n) ws with
    | none=>rw [e2,e3] at e;cases e
    | some ds'=>
     rw [e2,e3] at e
     cases e
     obtain ⟨h1,h2⟩:=ih w d e2
     obtain ⟨h3,h4⟩:=ihw ds' e3
     refine ⟨by simp [PyData.canLayAll0,h1,h3],?_⟩
     simp only [PyData.depthAll]
     omega
 induction n with
 | zero=>
  intro w d e
  cases w with
  | tup _=>cases e
  | ref _=>cases e
  | clo _ _ _=>unfold zZ at e;cases e
  | xc _=>unfold zZ at e;cases e
  | str x=>
   unfold zZ at e
   split at e
   ·rename_i hx;cases e;exact ⟨by simp [PyData.canLay0,hx],by simp [PyData.depth]⟩
   ·cases e
  | _=>cases e;exact ⟨by simp [PyData.canLay0],by simp [PyData.depth]⟩
 | succ n ih=>
  intro w d e
  cases w with
  | clo _ _ _=>unfold zZ at e;cases e
  | xc _=>unfold zZ at e;cases e
  | tup ws=>
   unfold zZ at e
   cases e1:jY (zZ A n) ws with
   | none=>rw [e1] at e;cases e
   | some ds=>
    rw [e1] at e
    cases e
    obtain ⟨h1,h2⟩:=lst ih ws ds e1
    refine ⟨by simp [PyData.canLay0,h1],?_⟩
    simp only [PyData.depth]
    omega
  | ref k=>
   unfold zZ at e
   cases e1:zT (.ref k) A with
   | none=>rw [e1] at e;cases e
   | some ws=>
    rw [e1] at e
    dsimp only at e
    cases e2:jY (zZ A n) ws with
    | none=>rw [e2] at e;cases e
    | some ds=>
     rw [e2] at e
     cases e
     obtain ⟨h1,h2⟩:=lst ih ws ds e2
     refine ⟨by simp [PyData.canLay0,h1],?_⟩
     simp only [PyData.depth]
     omega
  | str x=>
   unfold zZ at e
   split at e
   ·rename_i hx;cases e;exact ⟨by simp [PyData.canLay0,hx],by simp [PyData.depth]⟩
   ·cases e
  | _=>cases e;exact ⟨by simp [PyData.canLay0],by simp [PyData.depth]⟩
noncomputable def kq (neg:Bool):W->W->Hx->R W:=λ x y A=>match zZ A 8 x,zZ A 8 y with
 | some d,some d'=>.ok (.bl (if neg then !PyData.eqv d d' else PyData.eqv d d')) A
 | _,_=>.bad
noncomputable abbrev qL:=kq false
noncomputable abbrev qG:=kq true
theorem VU {n:Bool}:∀x y A,ql (kq n x y A):=λ x y A=>by
 unfold kq
 split
 ·exact jq
 ·exact qu
noncomputable def W8 (K:Frag)(neg:Bool):R2:=λ x y H Q=>∃φ A u v d d',zF K φ A H/\RV K φ H u x/\RV K φ H v y/\zZ A 8 u=some d/\zZ A 8 v=some d'/\Q (.bl (if neg then !PyData.eqv d d' else PyData.eqv d d')) H
theorem Jk {A:Hx}{w:W}{d:PyData}(h:zZ A 8 w=some d):SeqAt.shaped d=true:=by
 obtain ⟨h1,h2⟩:=Kq 8 w d h
 unfold SeqAt.shaped
 rw [h1,Bool.true_and,decide_eq_true_iff]
 omega
theorem Mg (hu:X.A.units+64<cLine):qj X (compareOp .Eq) (W8 X.K false):=by
 intro pins s σ H x y v u Q I rx ry h
 obtain ⟨φ,A,w1,w2,d,d',S,q1,q2,e1,e2,q⟩:=h
 obtain ⟨as,h1⟩:=ZH I S 8 w1 x v d q1 rx e1
 obtain ⟨bs,h2⟩:=ZH I S 8 w2 y u d' q2 ry e2
 exact eq_dataH h1 h2 (Jk e1) (Jk e2) hu ⟨.bl _,H,I,rfl,q⟩
theorem Mq (hu:X.A.units+64<cLine):qj X (compareOp .NotEq) (W8 X.K true):=by
 intro pins s σ H x y v u Q I rx ry h
 obtain ⟨φ,A,w1,w2,d,d',S,q1,q2,e1,e2,q⟩:=h
 obtain ⟨as,h1⟩:=ZH I S 8 w1 x v d q1 rx e1
 obtain ⟨bs,h2⟩:=ZH I S 8 w2 y u d' q2 ry e2
 exact ne_dataH h1 h2 (Jk e1) (Jk e2) hu ⟨.bl _,H,I,rfl,q⟩
theorem Vr {K:Frag}{n:Bool}:jI K (W8 K n) (kq n):=λ φ A H x y u v Q S q1 q2 p=>by
 unfold kq at p
 cases e1:zZ A 8 u with
 | none=>rw [e1] at p;exact p.elim
 | some d=>
  cases e2:zZ A 8 v with
  | none=>rw [e1,e2] at p;exact p.elim
  | some d'=>
   rw [e1,e2] at p
   exact ⟨φ,A,u,v,d,d',S,q1,q2,e1,e2,p φ H _ .refl S rfl⟩
theorem j6 {k:Nat}(hr:jo k X.A):yC X .Eq qL:=gx (Mg hr.units) VU Vr
theorem yE {k:Nat}(hr:jo k X.A):yC X .NotEq qG:=gx (Mq hr.units) VU Vr
end
mutual
noncomputable def W.nr:W->Bool
 | .tup ws=>jc ws
 | .ref _=>false
 | .clo _ ws _=>jc ws
 | _=>true
noncomputable def jc:List W->Bool
 | []=>true
 | w::ws=>w.nr&&jc ws
end
noncomputable def iso (f:Fn):Fn:=λ us A=>if jc us then (match f us [] with
 | .ok w A1=>(match w with
  | .ref n=>(match A1[n]? with
   | some (.lst ws)=>if jc ws then .ok (.ref A.length) (A++[.lst ws]) else .bad
   | some (.dct kvs)=>if jc (kvs.map (·.2)) then .ok (.ref A.length) (A++[.dct kvs]) else .bad
   | _=>.bad)
  | w=>if w.nr then .ok w A else .bad)
 | _=>.bad) else .bad
noncomputable def kj (f:Fn):Fn:=λ us A=>match us with
 | .ref n::us=>(match A[n]? with
  | some (.lst ws)=>if jc ws&&jc us then (match f (.ref 0::us) [.lst ws] with
   | .ok w A1=>(match (List.head? A1:Option O) with
    | some (.lst ws2)=>if jc ws2&&w.nr then .ok w (A.set n (.lst ws2)) else .bad
    | _=>.bad)
   | _=>.bad) else .bad
  | _=>.bad)
 | _=>.bad
section
variable {K:Frag}{φ φ' φ1:List Addr}{H H' H1:Hp}{A A1:Hx}
mutual
theorem RV.nrm (tp:∀a vs,qd K H a vs->qd K H' a vs)(fz:∀a o u,H a=some (.frz o u)->H' a=some (.frz o u)):∀{w:W} {v:V},w.nr=true->RV K φ H w v->RV K φ' H' w v
 | .non,_,_,h=>h
 | .bl _,_,_,h=>h
 | .int _,_,_,h=>h
 | .str _,_,_,h=>h
 | .tup ws,_,n,⟨a,vs,e,t,r⟩=>⟨a,vs,e,tp _ _ t,zx.nrm tp fz n r⟩
 | .ref _,_,n,_=>nomatch n
 | .clo _ ws P,_,n,⟨a,ob,u,c,oc,uc,vs,e,h1,h2,h3,r⟩=>⟨a,ob,u,c,oc,uc,vs,e,fz _ _ _ h1,fz _ _ _ h2,h3,zx.nrm tp fz n r⟩
 | .xc _,_,_,⟨a,oe,u,C,e,h1,h2⟩=>⟨a,oe,u,C,e,fz _ _ _ h1,h2⟩
theorem zx.nrm (tp:∀a vs,qd K H a vs->qd K H' a vs)(fz:∀a o u,H a=some (.frz o u)->H' a=some (.frz o u)):∀{ws:List W} {vs:List V},jc ws=true->zx K φ H ws vs->zx K φ' H' ws vs
 | [],_,_,h=>h
 | w::ws,_,n,⟨v,r,e,h,t⟩=>by
  have n':(w.nr&&jc ws)=true:=n
  rw [Bool.and_eq_true] at n'
  exact ⟨v,r,e,RV.nrm tp fz n'.1 h,zx.nrm tp fz n'.2 t⟩
end
theorem zF.none:zF K [] [] H:=⟨rfl,λ i j a o o' _ _ h=>by simp at h,λ n o h=>by simp at h⟩
theorem zF.frame (S:zF K φ A H)(k:∀a o,H a=some o->H1 a=some o)(l:Le K φ H φ H1):zF K φ A H1:=
 ⟨S.len,S.inj,λ n o e=>let ⟨a,h1,q⟩:=S.ob n o e;⟨a,h1,q.keep l λ u hu=>k a u hu⟩⟩
theorem Le.apart (l:Le K [] H φ1 H1):Le K φ H φ H1/\∀a o,H a=some o->H1 a=some o:=
 have k:∀a o,H a=some o->H1 a=some o:=λ a o h=>l.fr a o h λ n e=>by simp at e
 ⟨⟨λ _ _ h=>h,l.tp,λ a o h _=>k a o h,λ _ _ h=>.inl h,l.st,l.fz⟩,k⟩
theorem zF.trackN {D:Addr}{u:HO}{o:O}(S:zF K φ A H)(hD:H D=some u)(n:∀(k:Nat) (q:O),φ[k]? =some D->A[k]? =some q->q.mut=false)(new:OR K (φ++[D]) H D o):zF K (φ++[D]) (A++[o]) H:=by
 have l:wX K φ H (φ++[D]) H:=⟨λ n a h=>by
  have:=(List.getElem?_eq_some_iff.mp h).1
  rw [List.getElem?_append_left this];exact h,λ _ _ h=>h,λ _ _ _ h=>h⟩
 have old:∀(i:Nat) a,(φ++[D])[i]? =some a->i<A.length->φ[i]? =some a:=λ i a e hi=>by
  rw [List.getElem?_append_left (by rw [S.len];exact hi)] at e;exact e
 have last:∀a,(φ++[D])[A.length]? =some a->a=D:=λ a e=>by
  rw [List.getElem?_append_right (by rw [S.len];exact Nat.le_refl _),S.len] at e
  simpa using e.symm
 refine ⟨by simp [S.len],λ i j a o1 o2 h1 h2 h3 h4 m1 m2=>?_,λ k o' e=>?_⟩
 ·by_cases hi:i<A.length
  ·rw [List.getElem?_append_left hi] at h3
   by_cases hj:j<A.length
   ·rw [List.getElem?_append_left hj] at h4
    exact S.inj i j a o1 o2 (old i a h1 hi) (old j a h2 hj) h3 h4 m1 m2
   ·exfalso
    have hj':j=A.length:=by have:=(List.getElem?_eq_some_iff.mp h4).1;simp at this;omega
    subst hj'
    have z:=n i o1 (by rw [<- last a h2];exact old i a h1 hi) h3
    rw [m1] at z;cases z
  ·have hi':i=A.length:=by have:=(List.getElem?_eq_some_iff.mp h3).1;simp at this;omega
   by_cases hj:j<A.length
   ·exfalso
    rw [List.getElem?_append_left hj] at h4
    subst hi'
    have z:=n j o2 (by rw [<- last a h1];exact old j a h2 hj) h4
    rw [m2] at z;cases z
   ·have:=(List.getElem?_eq_some_iff.mp h4).1;simp at this;omega
 ·by_cases hn:k<A.length
  ·rw [List.getElem?_append_left hn] at e
   obtain ⟨a,e1,q⟩:=S.ob k o' e
   refine ⟨a,l.ex _ _ e1,?_⟩
   cases o' with
   | lst ws=>obtain ⟨vs,z,r⟩:=q;exact ⟨vs,z,r.monoW l⟩
   | dct ws=>obtain ⟨vs,z,z2,r⟩:=q;exact ⟨vs,z,z2,r.monoW l⟩
   | tab _ _=>exact q
   | ro ws=>obtain ⟨vs,z,r⟩:=q;exact ⟨vs,z,r.monoW l⟩
  ·have hn':k=A.length:=by have:=(List.getElem?_eq_some_iff.mp e).1;simp at this;omega
   subst hn'
   rw [List.getElem?_append_right (Nat.le_refl _)] at e
   simp at e
   subst e
   exact ⟨D,by rw [List.getElem?_append_right (by rw [S.len];exact Nat.le_refl _),S.len];simp,new⟩
theorem zF.adopt {n:Nat}{a:Addr}{o:O}(S:zF K φ A H)(l:Le K [] H φ1 H1)(h1:φ1[n]? =some a)(m:∃u,H1 a=some u)(new:OR K (φ++[a]) H1 a o):
  Le K φ H (φ++[a]) H1/\zF K (φ++[a]) (A++[o]) H1/\RV K (φ++[a]) H1 (.ref A.length) (.ref a):=by
 obtain ⟨la,k⟩:=l.apart (φ:=φ)
 have h0:H a=Option.none:=by
  rcases l.nw n a h1 with e | e
  ·simp at e
  ·exact e
 obtain ⟨u,hu⟩:=m
 have S1:=S.frame k la
 refine ⟨la.track h0,S1.trackN hu (λ k q e1 e2=>?_) new,a,rfl,by rw [<- S.len];simp⟩
 cases hq:q.mut with
 | false=>rfl
 | true=>
  obtain ⟨a',e3,r⟩:=S.ob k q e2
  rw [e1] at e3;cases e3
  obtain ⟨z,hz,_⟩:=r.there hq
  rw [h0] at hz;cases hz
theorem OR.nrL {a:Addr}{ws:List W}(h:OR K φ H a (.lst ws))(n:jc ws=true):OR K φ' H a (.lst ws):=let ⟨vs,e,r⟩:=h;⟨vs,e,r.nrm (λ _ _ t=>t) (λ _ _ _ t=>t) n⟩
theorem OR.nrD {a:Addr}{kvs:List (Key × W)}(h:OR K φ H a (.dct kvs))(n:jc (kvs.map (·.2))=true):OR K φ' H a (.dct kvs):=let ⟨vs,e,e2,r⟩:=h;⟨vs,e,e2,r.nrm (λ _ _ t=>t) (λ _ _ _ t=>t) n⟩
variable {P:Program}{w:World}{mg:Str->Option Value}{base:Heap}
theorem zM.iso {k n:Nat}{x:Str}{f:Fn}(F:zM P w K mg base k x n f):zM P w K mg base k x n (iso f):=by
 obtain ⟨fa,fd,ps,F,a,b,c⟩:=F
 refine ⟨fa,fd,ps,F.imp λ vs H Q E ⟨hl,φ,A,ws,S,r,q⟩=>?_,a,b,c⟩
 unfold Mi.iso at q
 by_cases hn:jc ws=true
 ·rw [if_pos hn] at q
  refine ⟨hl,[],[],ws,zF.none,r.nrm (λ _ _ t=>t) (λ _ _ _ t=>t) hn,?_⟩
  cases hf:f ws [] with
  | ok w A1=>
   rw [hf] at q
   dsimp only at q
   intro φ1 H1 v l1 S1 q1
   cases w with
   | ref m=>
    dsimp only at q
    cases hm:A1[m]? with
    | none=>rw [hm] at q;exact q.elim
    | some o=>
     rw [hm] at q
     obtain ⟨a',ea,hr⟩:=S1.ob m o hm
     obtain ⟨a2,rfl,ea2⟩:=q1
     rw [ea] at ea2;cases ea2
     cases o with
     | lst us=>
      dsimp only at q
      by_cases hu:jc us=true
      ·rw [if_pos hu] at q
       obtain ⟨t,ht,_⟩:=hr.there rfl
       obtain ⟨b1,b2,b3⟩:=S.adopt l1 ea ⟨t,ht⟩ (o:=.lst us) (hr.nrL hu)
       exact q _ _ _ b1 b2 b3
      ·rw [if_neg hu] at q;exact q.elim
     | dct us=>
      dsimp only at q
      by_cases hu:jc (us.map (·.2))=true
      ·rw [if_pos hu] at q
       obtain ⟨t,ht,_⟩:=hr.there rfl
       obtain ⟨b1,b2,b3⟩:=S.adopt l1 ea ⟨t,ht⟩ (o:=.dct us) (hr.nrD hu)
       exact q _ _ _ b1 b2 b3
      ·rw [if_neg hu] at q;exact q.elim
     | ro us=>exact q.elim
     | tab _ _=>exact q.elim
   | _=>
    all_goals
     dsimp only at q
     obtain ⟨la,kk⟩:=l1.apart (φ:=φ)
     first
      | exact q φ H1 v la (S.frame kk la) q1
      | (
        split at q
        ·rename_i hw
         exact q φ H1 v la (S.frame kk la) (RV.nrm (λ _ _ t=>t) (λ _ _ _ t=>t) hw q1)
        ·exact q.elim)
  | exc y A1=>rw [hf] at q;exact q.elim
  | bad=>rw [hf] at q;exact q.elim
 ·rw [if_neg hn] at q;exact q.elim
theorem zM.kj {k n:Nat}{x:Str}{f:Fn}(F:zM P w K mg base k x n f):zM P w K mg base k x n (kj f):=by
 obtain ⟨fa,fd,ps,F,a,b,c⟩:=F
 refine ⟨fa,fd,ps,F.imp λ vs H Q E ⟨hl,φ,A,ws,S,r,q⟩=>?_,a,b,c⟩
 unfold Mi.kj at q
 cases ws with
 | nil=>exact q.elim
 | cons w0 us=>cases w0 with
  | ref n=>
   dsimp only at q
   cases hA:A[n]? with
   | none=>rw [hA] at q;exact q.elim
   | some o=>cases o with
    | lst xs=>
     rw [hA] at q
     dsimp only at q
     by_cases hn:(jc xs&&jc us)=true
     ·rw [if_pos hn] at q
      rw [Bool.and_eq_true] at hn
      obtain ⟨v0,vr,rfl,q0,qr⟩:=r
      obtain ⟨p,ys,rfl,f1,g1,r1⟩:=S.lst q0 hA
      have S0:zF K [p] [.lst xs] H:=by
       refine ⟨rfl,λ i j a o o' h1 h2 h3 h4 _ _=>?_,λ m o e=>?_⟩
       ·have:=(List.getElem?_eq_some_iff.mp h1).1
        have:=(List.getElem?_eq_some_iff.mp h2).1
        simp at *
        omega
       ·have:m=0:=by have:=(List.getElem?_eq_some_iff.mp e).1;simp at this;omega
        subst this
        simp at e
        subst e
        exact ⟨p,rfl,ys,g1,r1.nrm (λ _ _ t=>t) (λ _ _ _ t=>t) hn.1⟩
      refine ⟨hl,[p],[.lst xs],.ref 0::us,S0,.cons ⟨p,rfl,rfl⟩ (qr.nrm (λ _ _ t=>t) (λ _ _ _ t=>t) hn.2),?_⟩
      cases hf:f (.ref 0::us) [.lst xs] with
      | ok w A1=>
       rw [hf] at q
       dsimp only at q
       intro φ1 H1 v l1 S1 q1
       cases h0:List.head? A1 with
       | none=>rw [h0] at q;exact q.elim
       | some o=>cases o with
        | lst zs=>
         rw [h0] at q
         dsimp only at q
         by_cases hw:(jc zs&&w.nr)=true
         ·rw [if_pos hw] at q
          rw [Bool.and_eq_true] at hw
          have apart:∀a o,a≠p->H a=some o->H1 a=some o:=λ a o ne h=>l1.fr a o h λ m e=>by
           have:m=0:=by have:=(List.getElem?_eq_some_iff.mp e).1;simp at this;omega
           subst this
           simp at e
           exact ne e.symm
          have lf:Le K φ H φ H1:=⟨λ _ _ h=>h,l1.tp,λ a o h nn=>apart a o (λ e=>nn n (by rw [e];exact f1)) h,λ _ _ h=>.inl h,l1.st,l1.fz⟩
          have hp:φ1[0]? =some p:=l1.ex 0 p rfl
          obtain ⟨p',e1,us',e2,r2⟩:=S1.ob 0 _ (by rw [<- List.head?_eq_getElem?];exact h0)
          rw [hp] at e1;cases e1
          refine q φ H1 v lf ?_ (RV.nrm (λ _ _ t=>t) (λ _ _ _ t=>t) hw.2 q1)
          have mt:∀(i:Nat) (w:O),(A.set n (.lst zs))[i]? =some w->w.mut=true->∃w',A[i]? =some w'/\w'.mut=true:=λ i w e mw=>by
           by_cases hi:i=n
           ·subst hi;exact ⟨_,hA,rfl⟩
           ·rw [List.getElem?_set_ne (Ne.symm hi)] at e;exact ⟨w,e,mw⟩
          refine ⟨by simp [S.len],λ i j a o1 o2 h1 h2 h3 h4 m1 m2=>?_,λ i w e=>?_⟩
          ·obtain ⟨w1,e1,k1⟩:=mt i o1 h3 m1
           obtain ⟨w2,e2,k2⟩:=mt j o2 h4 m2
           exact S.inj i j a w1 w2 h1 h2 e1 e2 k1 k2
          ·by_cases hi:i=n
           ·subst hi
            have:i<A.length:=(List.getElem?_eq_some_iff.mp hA).1
            rw [List.getElem?_set_self this] at e;cases e
            exact ⟨p,f1,us',e2,r2.nrm (λ _ _ t=>t) (λ _ _ _ t=>t) hw.1⟩
           ·rw [List.getElem?_set_ne (Ne.symm hi)] at e
            obtain ⟨a,e1,rr⟩:=S.ob i w e
            refine ⟨a,e1,?_⟩
            by_cases hm:w.mut=true
            ·have ne:a≠p:=λ z=>hi (S.inj i n a w _ e1 (by rw [z];exact f1) e hA hm rfl)
             exact rr.keep lf λ z hz=>apart a z ne hz
            ·cases w with
             | lst _=>exact absurd rfl hm
             | dct _=>exact absurd rfl hm
             | tab _ _=>exact absurd rfl hm
             | ro ws=>
              obtain ⟨vs,r1,r2⟩:=rr
              refine ⟨vs,?_,r2.mono lf⟩
              rcases r1 with ⟨ob,r1⟩ | r1
              ·refine .inl ⟨ob,apart a _ ?_ r1⟩
               intro z;subst z;rw [g1] at r1;cases r1
              ·exact .inr r1
         ·rw [if_neg hw] at q;exact q.elim
        | _=>rw [h0] at q;exact q.elim
      | exc y A1=>rw [hf] at q;exact q.elim
      | bad=>rw [hf] at q;exact q.elim
     ·rw [if_neg hn] at q;exact q.elim
    | _=>rw [hA] at q;exact q.elim
  | _=>exact q.elim
end
section
variable {X:Cx}{xr:XR}{K:Frag}{e a b c:Expr}{es:List Expr}{m ma mb mc:Ev}{pos:Pos}{st:Stmt}
noncomputable def intsOf:List W->Option (List Int)
 | []=>some []
 | w::ws=>match w with
  | .int i=>match intsOf ws with
   | some is=>some (i::is)
   | none=>none
  | _=>none
theorem Ku:∀{ws:List W} {ns:List Int},intsOf ws=some ns->ws=ns.map W.int
 | [],_,e=>by cases e;rfl
 | w::ws,ns,e=>by
  unfold intsOf at e
  cases w with
  | int i=>
   dsimp only at e
   cases e2:intsOf ws with
   | none=>rw [e2] at e;cases e
   | some is=>rw [e2] at e;cases e;rw [Ku e2];rfl
  | _=>cases e
noncomputable def jy:List Int->Int->Int
 | [],m=>m
 | i::is,m=>jy is (if i > m then i else m)
theorem RJ (ns:List Int):∀(k:Nat) (hk:k<ns.length),jy (ns.drop (k+1)) (ns.getD (argBest (λ i j=>decide (ns.getD i 0 > ns.getD j 0)) k) 0)=jy ns.tail (ns.getD 0 0):=by
 intro k
 induction k with
 | zero=>intro _;rw [show argBest _ 0=0 from rfl,List.drop_one]
 | succ k ih=>
  intro hk
  have hk':k<ns.length:=by omega
  rw [<- ih hk']
  have e:ns.drop (k+1)=ns[k+1]::ns.drop (k+1+1):=List.drop_eq_getElem_cons hk
  rw [e]
  have e3:ns.getD (k+1) 0=ns[k+1]:=by rw [List.getD_eq_getElem?_getD,List.getElem?_eq_getElem hk];rfl
  show jy _ (ns.getD (if decide (ns.getD (k+1) 0 > ns.getD (argBest _ k) 0)=true then k+1 else argBest _ k) 0)=jy _ (if ns[k+1] > ns.getD (argBest _ k) 0 then ns[k+1] else ns.getD (argBest _ k) 0)
  rw [e3]
  by_cases h:ns[k+1] > ns.getD (argBest (λ i j=>decide (ns.getD i 0 > ns.getD j 0)) k) 0
  ·rw [if_pos (by rw [decide_eq_true_iff];exact h),if_pos h,e3]
  ·rw [if_neg (by rw [decide_eq_true_iff];exact h),if_neg h]
noncomputable def Uj (K:Frag)(C:List Int->Prop)(f:List Int->Int):List V->Hp->VK->Prop:=λ xs H Q=>∃a ns,xs=[.ref a]/\(qx K H a (ns.map V.int)∨qd K H a (ns.map V.int))/\C ns/\Q (.int (f ns)) H
theorem K4 {ns:List Int}{its:List Value}(rv:Vals (ns.map V.int) its){i:Nat}{v:Value}(h:its[i]? =some v):∃t,v=.int (ns.getD i 0) t:=by
 have hi:i<its.length:=(List.getElem?_eq_some_iff.mp h).1
 have hi':i<ns.length:=by have:=rv.length;rw [List.length_map] at this;omega
 obtain ⟨u,h1,h2⟩:=rv.get (i:=i) (x:=V.int ns[i]) (by simp [hi'])
 rw [h] at h1;cases h1
 obtain ⟨t,rfl⟩:=h2
 exact ⟨t,by rw [List.getD_eq_getElem?_getD,List.getElem?_eq_getElem hi'];rfl⟩
theorem RR (hc:X.calm=true):jx X (.builtin "max") (Uj X.K (λ ns=>ns≠[]) λ ns=>jy ns.tail (ns.getD 0 0)):=by
 intro pins s σ H xs us Q I r h
 obtain ⟨a,ns,rfl,z,hne,q⟩:=h
 obtain ⟨u,rfl,ru⟩:=vals1 r
 cases ru
 have hp:0<ns.length:=List.length_pos_iff.mpr hne
 refine call_max_walk (X4 I hc z λ its I' fp wr St' s2 rv hz W st hfp back=>?_)
 have e:its.length=ns.length:=by have:=rv.length;rw [List.length_map] at this;omega
 refine ⟨I',fp,wr,_,_,St',λ i j=>decide (ns.getD i 0 > ns.getD j 0),rfl,W,st,hfp,by omega,?_,λ v h' tk hv k=>?_⟩
 ·intro i j vi vj s' Q' E' h1 h2 hQ
  obtain ⟨t1,rfl⟩:=K4 rv h1
  obtain ⟨t2,rfl⟩:=K4 rv h2
  exact (PyProof.Rows.gt_int hQ:wpAny (model X.prog X.w) X.A.in1 (compareOp .Gt (.int (ns.getD i 0) t1) (.int (ns.getD j 0) t2)) Q' E' s')
 ·obtain ⟨t,rfl⟩:=K4 rv hv
  rw [e]
  have b:=RJ ns (ns.length - 1) (by omega)
  rw [show ns.length - 1+1=ns.length by omega,List.drop_length] at b
  have b':ns.getD (argBest (λ i j=>decide (ns.getD i 0 > ns.getD j 0)) (ns.length - 1)) 0=jy ns.tail (ns.getD 0 0):=b
  rw [b']
  exact ⟨.int _,H,back h' tk k,⟨_,rfl⟩,q⟩
noncomputable def j8:List W->Hx->R W:=λ ws A=>match intsOf ws with
 | some (i::is)=>.ok (.int (jy is i)) A
 | _=>.bad
theorem Mk:∀ws A,ql (j8 ws A):=λ ws A=>by
 unfold j8;split
 ·exact jq
 ·exact qu
theorem RG {φ:List Addr}{H:Hp}{ws:List W}{ys:List V}{ns:List Int}{a:Addr}(z:qx K H a ys∨qd K H a ys)(r:zx K φ H ws ys)(e:intsOf ws=some ns):qx K H a (ns.map V.int)∨qd K H a (ns.map V.int):=by
 rw [Ku e] at r
 rw [<- zx.ints.mp r];exact z
theorem Nz:Zs K (Uj K (λ ns=>ns≠[]) λ ns=>jy ns.tail (ns.getD 0 0)) j8:=λ φ A H a ys ws Q S z r p=>by
 unfold j8 at p
 cases e:intsOf ws with
 | none=>rw [e] at p;exact p.elim
 | some ns=>cases ns with
  | nil=>rw [e] at p;exact p.elim
  | cons i is=>rw [e] at p;exact ⟨a,i::is,rfl,RG z r e,(by intro z;cases z),p φ H _ .refl S rfl⟩
end
section
variable {X:Cx}{xr:XR}{K:Frag}{e a b c:Expr}{es:List Expr}{m ma mb mc:Ev}{pos:Pos}{st:Stmt}
noncomputable def HE (lo d:Int)(n:Nat):It:=⟨λ i _=>i<n,λ i H x H'=>H'=H/\x=.int (lo+i * d),λ i _=>n<=i⟩
noncomputable def HI (ta:TA):TI:=λ σ H R=>ta σ H λ vs H1=>∃i j:Int,vs=[.int i,.int j,.int (-1)]/\(-(2 ^ 62)<=i/\i<2 ^ 62/\-(2 ^ 62)<=j/\j<2 ^ 62)/\R (HE i (-1) (i - j).toNat) H1
noncomputable def IW (hi:Int)(n:Nat):ji:=⟨λ _ i=>if i<n then some (some (.int (hi - i))) else some none,n⟩
noncomputable def HJ (m m':Ev):Ei:=λ ρ A=>(m ρ A).bind λ w A1=>(m' ρ A1).bind λ w' A2=>match w,w' with
 | .int i,.int j=>if jk i&&jk j then .ok (IW i (i - j).toNat) A2 else .bad
 | _,_=>.bad
noncomputable def L9 (ta:TA):TE:=λ σ H Q=>ta σ H λ vs H1=>∃j:Int,vs=[.int j]/\∀p,H1 p=none->Q (.ref p) (upd H1 p (.rng 0 j))
theorem Np {ta:TA}{p:Pos}(hg:Gl X "range")(hm:X.mg "range" = none)(ha:PA X [a] ta)(hs:starEach [a] X.env=[(false,eval a X.env)]):PE X (.Call (.Name "range" p) [a] [] pos) (L9 ta):=by
 intro pins s σ H Q I h
 refine Call_ (gy I hg hm boot_range (PyProof.Rows.callWith_type1 (zO (ha pos pins s σ H _ I h) λ us s1 ⟨vs,H1,I1,r1,q1⟩=>?_) hs rfl))
 obtain ⟨j,rfl,q⟩:=q1
 obtain ⟨u,rfl,⟨t,rfl⟩⟩:=r1.one
 refine call_range_1 ⟨.ref _,_,I1.laid (o:=.rng 0 j) (λ b o eo=>Heap.get?_push_of_some _ eo) (Nat.le_refl _) ?_,rfl,q _ (I1.hok.fresh (Nat.le_refl _))⟩
 exact ⟨_,_,_,Heap.get?_push_size _ rfl⟩
noncomputable def Zh (n:Nat):List V:=(List.range n).map λ (i:Nat)=>V.int i
theorem Rc (hc:X.calm=true):jx X (.type "list") (λ xs H Q=>∃(r:Addr) (j:Int),xs=[.ref r]/\H r=some (.rng 0 j)/\(-(2 ^ 62)<=j/\j<2 ^ 62)/\j.toNat<=sizeLine/\∀l,H l=none->Q (.ref l) (upd H l (.lst (Zh j.toNat)))):=by
 intro pins s σ H xs us Q I r h
 obtain ⟨p,j,rfl,hp,⟨b1,b2⟩,hz,q⟩:=h
 obtain ⟨u,rfl,ru⟩:=vals1 r
 cases ru
 obtain ⟨t1,t2,t3,ho⟩:=I.hok p _ hp
 have hl:sizeLine=16777216:=sizeLine_eq
 refine PySem.call_list_range (n:=j.toNat) (I.ok.hd hc) (show IsRange s.heap p 0 j 1 t1 t2 t3 from ho) (small_one (by omega) (by omega) b1 b2) (by rw [rangeSize_one];split<;>omega) (by omega) λ h' tk acc c' kk hS ⟨hn,hat⟩=>?_
 refine ⟨.ref s.heap.objs.size,_,I.laid (t':=tk) (o:=.lst (Zh j.toNat)) kk (Nat.le_refl _) ?_,rfl,q _ (I.hok.fresh (Nat.le_refl _))⟩
 refine ⟨by unfold Zh;simpa using hz,acc.toList,c',?_,by simpa using hS⟩
 have hv:∀(l:List Value) (k:Nat),(∀(i:Nat) v,l[i]? =some v->∃t,v=.int ((k+i:Nat):Int) t)->Vals ((List.range' k l.length).map λ (i:Nat)=>V.int i) l:=by
  intro l
  induction l with
  | nil=>intro k _;exact .nil
  | cons v l ih=>
   intro k hk
   rw [List.length_cons,List.range'_succ,List.map_cons]
   refine .cons ?_ (ih (k+1) λ i v' hv=>?_)
   ·obtain ⟨t,rfl⟩:=hk 0 v rfl
    exact ⟨t,rfl⟩
   ·obtain ⟨t,rfl⟩:=hk (i+1) v' (by simpa using hv)
    exact ⟨t,by congr 1;omega⟩
 have hl':acc.toList.length=j.toNat:=by simpa using hn
 have:=hv acc.toList 0 λ i v hiv=>by
  obtain ⟨t,rfl⟩:=hat i v (by simpa using hiv)
  exact ⟨t,by congr 1;omega⟩
 rw [hl'] at this
 unfold Zh
 rw [List.range_eq_range']
 exact this
noncomputable def ZK (m:Ev):Ev:=λ ρ A=>(m ρ A).bind λ w A1=>match w with
 | .int j=>if jk j&&decide (j.toNat<=zW) then .ok (.ref A1.length) (A1++[.lst ((List.range j.toNat).map λ (i:Nat)=>W.int i)]) else .bad
 | _=>.bad
end
noncomputable def qV (k:Bool)(h:Heap)(it a:Addr)(i:Nat):Prop:=if k=true then h.IsListIter it a i else h.IsTupleIter it a i
noncomputable def jz (k:Bool)(h:Heap)(a:Addr)(items:Array Value):Prop:=if k=true then h.IsList a items else h.IsTuple a items
noncomputable def yq (k:Bool)(K:Frag)(H:Hp)(a:Addr)(xs:List V):Prop:=if k=true then qx K H a xs else qd K H a xs
noncomputable def Zf (k:Bool):String:=if k then "list_iterator" else "tuple_iterator"
theorem qV.ob {k:Bool}{h:Heap}{it a:Addr}{i:Nat}(x:qV k h it a i):∃o,h.get? it=some o/\o.cls=.type (Zf k)/\o.data=.fields #[.ref a,.int i 0]:=by
 cases k<;>exact x
theorem qV.mk {k:Bool}{h:Heap}{it a:Addr}{i:Nat}(x:∃o,h.get? it=some o/\o.cls=.type (Zf k)/\o.data=.fields #[.ref a,.int i 0]):qV k h it a i:=by
 cases k<;>exact x
theorem qV.to {k:Bool}{h h':Heap}{it a:Addr}{i:Nat}(x:qV k h it a i)(e:∀o,h.get? it=some o->h'.get? it=some o):qV k h' it a i:=let ⟨o,h1,r⟩:=x.ob;.mk ⟨o,e o h1,r⟩
theorem jz.ob {k:Bool}{h:Heap}{a:Addr}{items:Array Value}(x:jz k h a items):∃o,h.get? a=some o/\o.cls=.type (if k then "list" else "tuple")/\∃n,o.data=.seq items n:=by
 cases k<;>exact x
theorem jz.to {k:Bool}{h h':Heap}{a:Addr}{items:Array Value}(x:jz k h a items)(e:∀o,h.get? a=some o->h'.get? a=some o):jz k h' a items:=by
 cases k with
 | false=>exact let ⟨o,h1,r⟩:=x.ob;⟨o,e o h1,r⟩
 | true=>exact let ⟨o,h1,r⟩:=x.ob;⟨o,e o h1,r⟩
section
variable {prog:Program}{w:World}{A:Around}{E:Value->Shared->Prop}{s:Shared}{k:Bool}{it a:Addr}{i:Nat}{items:Array Value}
theorem VD {Q:Value->Shared->Prop}(hl:jz k s.heap a items)(hQ:Q (.ref s.heap.objs.size) { s with heap:=s.heap.push { cls:=.type (Zf k),data:=.fields #[.ref a,.int 0 0] } }):wpAny (model prog w) A (pyIter (.ref a)) Q E s:=by
 cases k with
 | true=>exact wpAny_pyIter_list hl hQ
 | false=>exact wpAny_pyIter_tuple hl hQ
theorem Jl {x:Value}{Q:Value->Shared->Prop}(hit:qV k s.heap it a i)(hl:jz k s.heap a items)(hx:items[i]? =some x)
  (hQ:∀h',qV k h' it a (i+1)->Heap.SameBut it s.heap h'->Q x { s with heap:=h' }):wpAny (model prog w) A (Builtin.SmallTypes.nextOf (.ref it)) Q E s:=by
 cases k with
 | true=>exact wpAny_nextOf_list_item hit hl hx hQ
 | false=>
  have hit':s.heap.IsTupleIter it a i:=hit
  obtain ⟨oi,hoi,hci,hdi⟩:=id hit'
  obtain ⟨oa,hoa,_,na,hda⟩:s.heap.IsTuple a items:=hl
  unfold Builtin.SmallTypes.nextOf
  refine wpAny_bind (wpAny_callSpecial?_slot (name:=Str.ofString "__next__") hit'.typeIs F.slot_tuple_iterator_next (wpAny_call_entry F.slot_tuple_iterator_next hit'.typeIs F.entry_tuple_iterator_next ?_ (F.args_tuple_iterator_next_1 _)))
  show wpAny _ _ (field (.ref it) 0 >>= _) _ _ s;refine wpAny_bind (wpAny_field hoi hdi (x:=.ref a) rfl ?_)
  show wpAny _ _ (if (Value.ref a==Value.none)=true then _ else _) _ _ s;rw [if_neg (show ¬((Value.ref a==Value.none)=true) from Bool.false_ne_true)]
  show wpAny _ _ (field (.ref it) 1 >>= _) _ _ s;refine wpAny_bind (wpAny_field hoi hdi (x:=.int i 0) rfl ?_)
  show wpAny _ _ (seqItems? (.ref a) >>= _) _ _ s;refine wpAny_bind (wpAny_seqItems hoa hda ?_)
  simp only [Int.toNat_natCast,hx]
  refine wpAny_bind (wpAny_setField hoi hdi (by simp) (wpAny_pure ⟨x,rfl,wpAny_pure (hQ _ (.mk ?_) (Heap.SameBut.update ..))⟩))
  exact ⟨_,Heap.get?_update_self _ hoi (Obj.isFreed_of_fields (Obj.data_mapFields hdi _)),(Obj.cls_mapFields ..).trans hci,by rw [Obj.data_mapFields hdi];simp [rawInt]⟩
theorem Wm {Q:Value->Shared->Prop}(hh:A.handled=none)(hit:qV k s.heap it a i)(hl:jz k s.heap a items)(hx:items[i]? =none)
  (hE:∀h' e,Heap.ExtBut it s.heap h'->(∃o,h'.get? e=some o/\o.cls=.type "StopIteration")->E (.ref e) { s with heap:=h' }):wpAny (model prog w) A (Builtin.SmallTypes.nextOf (.ref it)) Q E s:=by
 cases k with
 | true=>exact wpAny_nextOf_list_end hh hit hl hx hE
 | false=>
  have hit':s.heap.IsTupleIter it a i:=hit
  obtain ⟨oi,hoi,hci,hdi⟩:=id hit'
  obtain ⟨oa,hoa,_,na,hda⟩:s.heap.IsTuple a items:=hl
  unfold Builtin.SmallTypes.nextOf
  refine wpAny_bind (wpAny_callSpecial?_slot (name:=Str.ofString "__next__") hit'.typeIs F.slot_tuple_iterator_next (wpAny_call_entry F.slot_tuple_iterator_next hit'.typeIs F.entry_tuple_iterator_next ?_ (F.args_tuple_iterator_next_1 _)))
  show wpAny _ _ (field (.ref it) 0 >>= _) _ _ s;refine wpAny_bind (wpAny_field hoi hdi (x:=.ref a) rfl ?_)
  show wpAny _ _ (if (Value.ref a==Value.none)=true then _ else _) _ _ s;rw [if_neg (show ¬((Value.ref a==Value.none)=true) from Bool.false_ne_true)]
  show wpAny _ _ (field (.ref it) 1 >>= _) _ _ s;refine wpAny_bind (wpAny_field hoi hdi (x:=.int i 0) rfl ?_)
  show wpAny _ _ (seqItems? (.ref a) >>= _) _ _ s;refine wpAny_bind (wpAny_seqItems hoa hda ?_)
  simp only [Int.toNat_natCast,hx]
  refine wpAny_bind (wpAny_rule (wpAny_bind (wpAny_setField hoi hdi (by simp) ?_)))
  show wpAny _ _ (newExc (.type "StopIteration") [] >>= _) _ _ _;refine wpAny_bind ?_;simp only [newExc,newTuple]
  refine wpAny_bind (wpAny_newObj_type ?_ (by size_fits))
  refine wpAny_bind (m:=firstArgMember _ _) (wpAny_of_eq (a:=Value.none) (by first | rfl | (simp only [firstArgMember];rfl)) ?_);refine wpAny_newObj_type ?_ (by size_fits)
  simp only [raiseNew];refine wpAny_bind (wpAny_handled ?_)
  first | rw [show A.in1.handled=none from hh] | rw [hh]
  refine wpAny_bind (wpAny_pure (wpAny_throw ?_));exact hE _ _ (((Heap.SameBut.update ..).extBut.push _).push _) ⟨_,Heap.get?_push_size _ rfl,rfl⟩
theorem Vc (hh:A.handled=none)(hne:a≠it):Draws prog w A it [it,a] items.size (λ i v=>items[i]? =some v) (λ i h=>qV k h it a i/\jz k h a items) where
 live:=λ _ _ st=>let ⟨o,ho,_⟩:=st.1.ob;⟨o,ho⟩
 frame:=λ _ _ _ st hk=>⟨st.1.to λ o e=>hk it (by simp) o e,st.2.to λ o e=>hk a (by simp) o e⟩
 item:=λ i s Q E hi st hQ=>Jl st.1 st.2 (x:=items[i]) (by simp [hi]) λ h' hit' hs'=>hQ _ h' s.toks (by simp [hi]) ⟨hit',st.2.to λ o e=>hs'.extBut a o hne e⟩ hs'
 done:=λ s Q E st hE=>Wm hh st.1 st.2 (by simp) hE
end
section
variable {X:Cx}{pins:List (Addr × Obj)}{σ:St}{H:Hp}{s:Shared}{h':Heap}{t':Nat}{fp:List Addr}
theorem _root_.L2.Inv.spun {T:Addr}{o:HO}(I:Inv X pins σ H s)(k:∀b u,b∉fp->s.heap.get? b=some u->h'.get? b=some u)(hf:∀b∈fp,yG X pins H b)(hT:s.heap.objs.size<=T)
  (new:qP X.prog X.w (upd H T o) h' T o):Inv X pins σ (upd H T o) { s with heap:=h',toks:=t' }:=by
 have hn:H T=none:=I.hok.fresh hT
 have lt:∀b u,s.heap.get? b=some u->b≠T:=λ b u e=>Nat.ne_of_lt (Nat.lt_of_lt_of_le (Heap.lt_size e) hT)
 have nf:∀b u,H b=some u->b∉fp:=λ b u e z=>by rw [(hf b z).1] at e;cases e
 refine I.step (g':=s.gens) (d':=s.drawn) (ch:=fp) (λ b hb=>let ⟨_,f1,_,f3,f4,f5⟩:=hf b hb;⟨f3,f1,f4,f5⟩) (λ b o _ _ hc e _=>k b o hc e) (λ b o _ _ hc e _=>⟨o.slots,k b o hc e⟩)
  (λ b o _ e n=>by rw [qf (lt b o e)];exact n) (λ b o hc e=>⟨o,k b o hc e⟩) (λ b xs e=>by rw [qf (kT e hn)];exact e) (λ b u xs e=>by rw [qf (kT e hn)];exact e)
  (λ b ps e=>⟨#[],by rw [qf (kT e hn),e];simp⟩) (λ m hm=>?_) (λ b u e=>?_) I.bare
 ·obtain ⟨o,es,ep,ho,r⟩:=hm
  exact ⟨o,es,ep,k _ o (λ z=>(hf _ z).2.1 rfl) ho,r⟩
 ·by_cases hb:b=T
  ·subst hb;rw [jO] at e;cases e;exact new
  ·rw [qf hb] at e
   refine (I.hok b u e).stay (λ c v hc q=>k c v ?_ q) (λ c q=>by rw [qf (kT q hn)];exact q) λ c xs q=>by rw [qf (kT q hn)];exact q
   rcases hc with z | z
   ·rw [z];exact nf b u e
   ·exact nf c _ z
theorem _root_.L2.Inv.spun0 (I:Inv X pins σ H s)(k:∀b u,b∉fp->s.heap.get? b=some u->h'.get? b=some u)(hf:∀b∈fp,yG X pins H b):Inv X pins σ H { s with heap:=h',toks:=t' }:=by
 have nf:∀b u,H b=some u->b∉fp:=λ b u e z=>by rw [(hf b z).1] at e;cases e
 refine I.step (g':=s.gens) (d':=s.drawn) (ch:=fp) (λ b hb=>let ⟨_,f1,_,f3,f4,f5⟩:=hf b hb;⟨f3,f1,f4,f5⟩) (λ b o _ _ hc e _=>k b o hc e) (λ b o _ _ hc e _=>⟨o.slots,k b o hc e⟩)
  (λ b o _ e n=>n) (λ b o hc e=>⟨o,k b o hc e⟩) (λ b xs e=>e) (λ b u xs e=>e) (λ b ps e=>⟨#[],by rw [e];simp⟩) (λ m hm=>?_) (λ b u e=>?_) I.bare
 ·obtain ⟨o,es,ep,ho,r⟩:=hm
  exact ⟨o,es,ep,k _ o (λ z=>(hf _ z).2.1 rfl) ho,r⟩
 ·refine (I.hok b u e).stay (λ c v hc q=>k c v ?_ q) (λ c q=>q) λ c xs q=>q
  rcases hc with z | z
  ·rw [z];exact nf b u e
  ·exact nf c _ z
theorem _root_.L2.Inv.sq {k:Bool}{a:Addr}{xs:List V}(I:Inv X pins σ H s)(h:yq k X.K H a xs):∃its:List Value,Vals xs its/\jz k s.heap a its.toArray/\xs.length<=sizeLine:=by
 cases k with
 | true=>obtain ⟨its,r,p,z⟩:=I.list h;exact ⟨its,r,p.isList,z⟩
 | false=>obtain ⟨its,r,p,z⟩:=I.tuple h;exact ⟨its,r,(show s.heap.IsTuple a its.toArray from p),z⟩
theorem _root_.L2.Inv.sq_inj {k:Bool}{a:Addr}{xs ys:List V}(I:Inv X pins σ H s)(h:yq k X.K H a xs)(h':yq k X.K H a ys):xs=ys:=by
 cases k with
 | true=>exact I.list_inj h h'
 | false=>exact I.tuple_inj h h'
end
noncomputable def GF (k:Bool)(K:Frag)(a:Addr):It:=
 ⟨λ i H=>∃xs x,yq k K H a xs/\xs[i]? =some x,λ i H x H'=>∃p y,(∀xs,yq k K H a xs->xs[i]? =some y)/\H p=none/\x=.ref p/\H'=upd H p (.tup [.int i,y]),λ i H=>∃xs,yq k K H a xs/\xs.length=i⟩
theorem Rz {P:Program}{w:World}{K:Frag}{elts:List Expr}{kk:Nat}{tpos:Pos}(k:Bool)(a en it:Addr):Turn P w K (.Tuple elts kk tpos) (GF k K a) [en,it] en (λ i h=>(∃old,IsEnum h en it i old)/\qV k h it a i/\en≠it) where
 mem:=by simp
 obj:=λ i h st b hb=>by
  obtain ⟨⟨old,he⟩,hi,_⟩:=st
  rcases List.mem_cons.mp hb with rfl | hb
  ·exact ⟨_,he,λ v z=>nomatch z⟩
  ·rw [List.mem_singleton.mp hb]
   obtain ⟨o,ho,_,hd⟩:=hi.ob
   exact ⟨o,ho,λ v z=>by rw [hd] at z;cases z⟩
 keep:=λ i h h' ⟨⟨old,he⟩,hi,ne⟩ kp=>⟨⟨old,kp en (by simp) _ he⟩,hi.to λ o eo=>kp it (by simp) o eo,ne⟩
 item:=by
  intro X hP hw hK hc i pins s σ H E I hf st hg;subst hP hw hK
  obtain ⟨⟨old,he⟩,hi,ne⟩:=st
  obtain ⟨xs,x,hq,hx⟩:=hg
  obtain ⟨its,rv,hs,hz⟩:=I.sq hq
  obtain ⟨u,hu,ru⟩:=rv.get hx
  have hlt:i<its.toArray.size:=by simpa using (List.getElem?_eq_some_iff.mp hu).1
  obtain ⟨oa,hoa,hca,na,hda⟩:=hs.ob
  have ani:a≠it:=λ z=>by
   obtain ⟨oi,hoi,hci,hdi⟩:=hi.ob
   rw [<- z,hoa] at hoi;cases hoi;rw [hdi] at hda;cases hda
  have ane:en≠a:=λ z=>by
   have he':s.heap.get? a=_:=z ▸ he
   rw [hoa] at he';cases he';cases hda
  refine wpAny_pyNext_enum_itemD (Vc (k:=k) (items:=its.toArray) (I.ok.hd hc) ani) he ⟨hi,hs⟩ hlt ne (by simp [ne,ane]) λ y h1 tk hy ho hst hT hsz hk=>?_
  have ey:y=u:=by
   have:its[i]? =some y:=by simpa using hy
   rw [hu] at this;exact (Option.some.inj this).symm
  subst ey
  refine ⟨_,rfl,wpAny_letOwnedTupleGo_enum ho λ h2 he2 hs2=>?_⟩
  have ltE:en<s.heap.objs.size:=Heap.lt_size he
  have hT2:h2.get? s.heap.objs.size=some { cls:=.type "tuple",data:=.seq #[.int i tk,y] }:=hs2.extBut _ _ (Nat.ne_of_gt ltE) hT
  refine ⟨.ref s.heap.objs.size,upd H s.heap.objs.size (.tup [.int i,x]),?_,rfl,⟨s.heap.objs.size,x,λ ys hy=>by rw [I.sq_inj hy hq];exact hx,I.hok.fresh (Nat.le_refl _),rfl,rfl⟩,⟨⟨_,by simpa using he2⟩,?_,ne⟩,λ b hb=>?_⟩
  ·refine I.spun (fp:=[en,it]) (t':=tk+1) (λ b o hb eo=>?_) hf (Nat.le_refl _) ?_
   ·exact hs2.extBut _ _ (λ z=>hb (by simp [z])) (hk b o (λ z=>hb (by simp [z])) (λ z=>hb (by simp [z])) eo)
   ·exact ⟨by show 2<=sizeLine;decide,[.int i tk,y],.cons ⟨tk,rfl⟩ (.cons ru .nil),_,hT2,⟨rfl,rfl⟩,0,rfl⟩
  ·exact hst.1.to λ o eo=>hs2.extBut _ _ (λ z=>ne z.symm) eo
  ·have bn:b≠s.heap.objs.size:=λ z=>by
    rcases List.mem_cons.mp hb with q | q
    ·exact absurd ltE (by rw [<- q,z];exact Nat.lt_irrefl _)
    ·obtain ⟨oi,hoi,_⟩:=hi.ob
     exact absurd (Heap.lt_size hoi) (by rw [<- List.mem_singleton.mp q,z];exact Nat.lt_irrefl _)
   show upd H s.heap.objs.size _ b=none
   rw [qf bn];exact (hf b hb).1
 done:=by
  intro X hP hw hK hc i pins s σ H E I hf st hg;subst hP hw hK
  obtain ⟨⟨old,he⟩,hi,ne⟩:=st
  obtain ⟨xs,hq,hx⟩:=hg
  obtain ⟨its,rv,hs,hz⟩:=I.sq hq
  have en':its.toArray.size=i:=by rw [List.size_toArray,<- rv.length];exact hx
  obtain ⟨oa,hoa,hca,na,hda⟩:=hs.ob
  have ani:a≠it:=λ z=>by
   obtain ⟨oi,hoi,hci,hdi⟩:=hi.ob
   rw [<- z,hoa] at hoi;cases hoi;rw [hdi] at hda;cases hda
  refine wpAny_pyNext_enum_endD (Vc (k:=k) (items:=its.toArray) (I.ok.hd hc) ani) he ⟨by rw [en'];exact hi,hs⟩ λ h1 hx1=>⟨rfl,?_⟩
  exact I.spun0 (fp:=[en,it]) (t':=s.toks) (λ b o hb eo=>hx1 b o (λ z=>hb (by simp [z])) eo) hf
 self:=λ _ _ _ _ _ ⟨⟨_,he⟩,_⟩ h=>wpAny_pyIter_enum he h
open AutoSeq1 (wpAny_loadPart')
noncomputable abbrev JG (h:Heap)(k:Bool)(a:Addr):Heap:=h.push { cls:=.type (Zf k),data:=.fields #[.ref a,.int 0 0] }
noncomputable abbrev UC (h:Heap)(k:Bool)(a:Addr):Heap:=(JG h k a).push { cls:=.type "enumerate",data:=.fields #[.none,.bool false,.ref h.objs.size,rawInt 0,.none,.none] }
theorem Si (a:Addr)(items:Array Value)(n:Nat)(dd:Option Addr)(sl:Array (Option Value)):
  Meets (Builtin.«enumerate.__new__» ⟨[.type "enumerate",.ref a],[]⟩) (λ _ R s=>s.heap.get? a=some { cls:=.type "tuple",dict:=dd,data:=.seq items n,slots:=sl }/\R (.ok (.ret (.ref (JG s.heap false a).objs.size))) { s with heap:=UC s.heap false a }):=
 .of_wp λ prog w A R s h=>by
  obtain ⟨hp,g,d,tk,os⟩:=s;obtain ⟨ha,h⟩:=h;have hsub:=sub_enumerate
  have hT:Heap.IsTuple (Shared.heap ⟨hp,g,d,tk,os⟩) a items:=⟨_,ha,rfl,n,rfl⟩
  wp_walk using wpAny_loadPart' ha
  refine wpAny_stack_any λ st=>wpAny_pure ?_;split
  ·rename_i c _ _ _ _ _
   cases (c==Value.type "enumerate")<;>(wp_walk using wpAny_loadPart' ha,wpAny_pyIter_tuple hT;exact ⟨_,rfl,h⟩)
  ·wp_walk using wpAny_loadPart' ha,wpAny_pyIter_tuple hT
   exact ⟨_,rfl,h⟩
section
variable {prog:Program}{w:World}{A:Around}{E:Value->Shared->Prop}{s:Shared}
theorem RZ {k:Bool}{a:Addr}{items:Array Value}{Q:Value->Shared->Prop}(hl:jz k s.heap a items)
  (h:∀h',IsEnum h' (s.heap.objs.size+1) s.heap.objs.size 0 .none->qV k h' s.heap.objs.size a 0->(∀b o,s.heap.get? b=some o->h'.get? b=some o)->Q (.ref (s.heap.objs.size+1)) { s with heap:=h' }):
  wpAny (model prog w) A (call (.type "enumerate") [.ref a]) Q E s:=by
 cases k with
 | true=>exact call_enumerate_list hl λ h' e1 e2 _ e4=>h h' e1 e2 e4
 | false=>
  obtain ⟨⟨c,dd,dt,sl⟩,ha,hc,n,hd⟩:=(show s.heap.IsTuple a items from hl)
  replace hc:c=.type "tuple" := hc
  replace hd:dt=.seq items n:=hd
  subst hc hd
  refine callType_new F.called_enumerate (by decide) (F.typeCall_enumerate_1 _) (F.newCall_enumerate_1 _) (λ obj=>F.args_object_init_2 obj _) F.entry_enumerate_new (Si a items n dd sl) ⟨ha,?_⟩
  have hz:(JG s.heap false a).objs.size=s.heap.objs.size+1:=Heap.size_push ..
  have he:IsEnum (UC s.heap false a) (JG s.heap false a).objs.size s.heap.objs.size 0 .none:=Heap.get?_push_size _ rfl
  show _/\_
  rw [hz] at he ⊢
  exact ⟨⟨_,he,rfl⟩,h _ he (.mk ⟨_,Heap.get?_push_of_some _ (Heap.get?_push_size _ rfl),rfl,rfl⟩) λ b o x=>Heap.get?_push_of_some _ (Heap.get?_push_of_some _ x)⟩
end
section
variable {X:Cx}{xr:XR}{e a b:Expr}{m ma mb:Ev}{pos:Pos}
noncomputable def IV (K:Frag)(ta:TA):TI:=λ σ H R=>ta σ H λ vs H1=>∃p k xs,vs=[.ref p]/\yq k K H1 p xs/\R (GF k K p) H1
theorem boot_enumerate:bootBuiltins "enumerate" = some (.type "enumerate"):=by rfl
theorem boot_zip:bootBuiltins "zip" = some (.type "zip"):=by rfl
theorem ON {elts:List Expr}{kk:Nat}{tpos p:Pos}{ta:TA}(hg:Gl X "enumerate")(hm:X.mg "enumerate" = none)(ha:PA X [a] ta)(hs:starEach [a] X.env=[(false,eval a X.env)]):
  PI X (.Tuple elts kk tpos) (.Call (.Name "enumerate" p) [a] [] pos) (IV X.K ta):=by
 intro pins s σ H R I h
 refine Call_ (gy I hg hm boot_enumerate (PyProof.Rows.callWith_type1 (zO (ha pos pins s σ H _ I h) λ us s1 ⟨vs,H1,I1,r1,q1⟩=>?_) hs rfl))
 obtain ⟨p,k,xs,rfl,hq,q⟩:=q1
 obtain ⟨u,rfl,ru⟩:=r1.one
 cases ru
 obtain ⟨its,rv,sq,hz⟩:=I1.sq hq
 refine RZ sq λ h' e1 e2 e3=>wpAny_pyIter_enum e1 ?_
 refine ⟨s1.heap.objs.size+1,[s1.heap.objs.size+1,s1.heap.objs.size],_,_,H1,rfl,I1.kept (t':=s1.toks) e3,Rz k p _ _,⟨⟨_,by simpa using e1⟩,e2,Nat.succ_ne_self _⟩,λ b hb=>?_,q⟩
 have hb':s1.heap.objs.size<=b:=by
  rcases List.mem_cons.mp hb with z | z
  ·rw [z];exact Nat.le_succ _
  ·rw [List.mem_singleton.mp z];exact Nat.le_refl _
 exact I1.fpOk hb' (I1.hok.fresh hb')
noncomputable def atEnd (ws:List W)(i:Nat)(f:W->W):Option (Option W):=match ws[i]? with
 | some x=>some (some (f x))
 | none=>if ws.length=i then some none else none
noncomputable def km (w:W)(n:Nat):ji:=⟨λ A i=>match zT w A with
 | some ws=>atEnd ws i λ x=>.tup [.int i,x]
 | none=>none,n⟩
noncomputable def gA (w:W):Bool:=match w with
 | .tup _=>false
 | _=>true
theorem Jf {K:Frag}{φ:List Addr}{A:Hx}{H:Hp}{w:W}{ws:List W}{v:V}(S:zF K φ A H)(q:RV K φ H w v)(e:zT w A=some ws):∃p ys,v=.ref p/\yq (gA w) K H p ys/\zx K φ H ws ys:=by
 cases w with
 | tup us=>cases e;obtain ⟨a,vs,ea,t,r⟩:=q;exact ⟨a,vs,ea,t,r⟩
 | ref n=>
  obtain ⟨a,ea,f⟩:=q
  unfold zT at e
  dsimp only at e
  cases ec:A[n]? with
  | none=>rw [ec] at e;cases e
  | some o=>
   rw [ec] at e
   obtain ⟨a',e3,r⟩:=S.ob n o ec
   rw [f] at e3;cases e3
   cases o with
   | lst xs=>cases e;obtain ⟨ys',h1,h2⟩:=r;exact ⟨a,ys',ea,qx.of h1,h2⟩
   | ro xs=>cases e;obtain ⟨ys',h1,h2⟩:=r;exact ⟨a,ys',ea,h1.sq,h2⟩
   | dct xs=>cases e
   | tab _ _=>cases e
 | non=>cases e
 | bl _=>cases e
 | clo _ _ _=>cases e
 | xc _=>cases e
 | int _=>cases e
 | str _=>cases e
theorem Kh {K:Frag}{φ φ':List Addr}{A':Hx}{H H':Hp}{w:W}{ws':List W}{p:Addr}(q:RV K φ H w (.ref p))(lw:wX K φ H φ' H')(S':zF K φ' A' H')(e':zT w A'=some ws'):∃ys',yq (gA w) K H' p ys'/\zx K φ' H' ws' ys':=by
 obtain ⟨p',ys,ep,h1,h2⟩:=Jf S' (RV.monoW lw q) e'
 cases ep
 exact ⟨ys,h1,h2⟩
theorem IQ {K:Frag}{φ:List Addr}{H:Hp}{w:W}{p:Addr}{n:Nat}(q:RV K φ H w (.ref p)):gG K φ H (km w n) (GF (gA w) K p):=λ i φ' H' A' lw S'=>by
 unfold km
 dsimp only
 cases es:zT w A' with
 | none=>exact ⟨λ _ z=>(by cases z),λ z=>(by cases z)⟩
 | some ws=>
  dsimp only
  obtain ⟨ys,h1,h2⟩:=Kh q lw S' es
  unfold atEnd
  cases ei:ws[i]? with
  | none=>
   dsimp only
   by_cases hl:ws.length=i
   ·rw [if_pos hl]
    exact ⟨λ _ z=>(by cases z),λ _=>⟨ys,h1,by rw [<- h2.length];exact hl⟩⟩
   ·rw [if_neg hl]
    exact ⟨λ _ z=>(by cases z),λ z=>(by cases z)⟩
  | some x=>
   dsimp only
   refine ⟨λ u z=>?_,λ z=>(by cases z)⟩
   cases z
   obtain ⟨y,e1,e2⟩:=h2.get ei
   refine ⟨⟨ys,y,h1,e1⟩,λ xv H1 ⟨t,y',hy,ht,ex,eH⟩=>?_⟩
   subst ex eH
   have:=hy ys h1
   rw [e1] at this;cases this
   obtain ⟨a1,a2,a3⟩:=g7 S' ht (.cons (w:=.int i) (v:=.int i) rfl (.one e2))
   exact ⟨a1,a2,a3⟩
noncomputable def ZS (m:Ev):Ei:=λ ρ A=>(m ρ A).bind λ w A1=>match zT w A1 with
 | some ws=>.ok (km w ws.length) A1
 | none=>.bad
end
section
variable {prog:Program}{w:World}{A:Around}{E:Value->Shared->Prop}{s:Shared}{z TI TO i1 i2 l1 l2:Addr}{n1 n2:Nat}{c1 c2:Bool}{xs ys:Array Value}{x y a b:Value}
theorem O4 {Q:Value->Shared->Prop}(D:ZipApart z TI TO i1 i2 l1 l2)(hz:IsZip s.heap z TI TO .none)(hTI:IsPair s.heap TI (.ref i1) (.ref i2))(hTO:IsPair s.heap TO a b)
  (g1:qV c1 s.heap i1 l1 n1)(g2:qV c2 s.heap i2 l2 n2)(s1:jz c1 s.heap l1 xs)(s2:jz c2 s.heap l2 ys)(hx:xs[n1]? =some x)(hy:ys[n2]? =some y)
  (hQ:∀h',IsZip h' z TI TO (rawInt s.heap.objs.size)->IsPair h' TI (.ref i1) (.ref i2)->IsPair h' TO x y->qV c1 h' i1 l1 (n1+1)->qV c2 h' i2 l2 (n2+1)->IsPair h' s.heap.objs.size x y->
   (∀c o,c≠z->c≠TO->c≠i1->c≠i2->s.heap.get? c=some o->h'.get? c=some o)->Q (.ref s.heap.objs.size) { s with heap:=h' }):
  wpAny (model prog w) A (Builtin.«zip.__next__» ⟨[.ref z],[]⟩) (λ fin s'=>∃v,fin=.done (.ret v)/\Q v s') E s:=by
 show wpAny _ _ (field (.ref z) 2 >>= _) _ _ _;refine wpAny_bind (wpAny_field hz rfl (x:=.bool false) rfl ?_)
 show wpAny _ _ (field (.ref z) 3 >>= _) _ _ _;refine wpAny_bind (wpAny_field hz rfl (x:=.ref TI) rfl (wpAny_bind (wpAny_seqItems hTI rfl ?_)))
 show wpAny _ _ (Builtin.SmallTypes.ownedTupleIsFree (.ref z) >>= _) _ _ _;refine wpAny_bind ?_;unfold Builtin.SmallTypes.ownedTupleIsFree
 refine wpAny_bind (wpAny_field hz rfl (x:=.none) rfl (wpAny_pure ?_));simp only [if_true];refine wpAny_bind (wpAny_rule (wpAny_bind (wpAny_field hz rfl (x:=.ref TO) rfl ?_)))
 refine wpAny_bind (wpAny_setField_rec hz (by simp) λ ha za sa=>?_);replace za:IsZip ha z TI TO .ellipsis:=za
 refine wpAny_bind ?_;simp only [List.zipIdx_cons,List.zipIdx_nil,List.forIn_cons,List.forIn_nil]
 refine wpAny_bind (wpAny_bind (wpAny_onRaise ?_));show wpAny _ _ (Builtin.SmallTypes.nextOf (.ref i1) >>= _) _ _ _
 refine wpAny_bind (Jl (g1.to λ o e=>sa.extBut _ _ D.i1z e) (s1.to λ o e=>sa.extBut _ _ D.l1z e) hx λ hb gb sb=>wpAny_pure ?_)
 have tb:IsPair hb TO a b:=sb.extBut _ _ D.TOi1 (sa.extBut _ _ D.TOz hTO)
 refine wpAny_bind (wpAny_seqItems tb rfl (wpAny_bind (wpAny_updateSeq_pair tb λ hc tc sc=>wpAny_bind (wpAny_letGo (wpAny_pure ?_)))));replace tc:IsPair hc TO x b:=tc
 refine wpAny_bind (wpAny_bind (wpAny_onRaise ?_));show wpAny _ _ (Builtin.SmallTypes.nextOf (.ref i2) >>= _) _ _ _
 have up:∀c o,c≠z->c≠i1->c≠TO->s.heap.get? c=some o->hc.get? c=some o:=λ c o q1 q2 q3 e=>sc.extBut _ _ q3 (sb.extBut _ _ q2 (sa.extBut _ _ q1 e))
 refine wpAny_bind (Jl (g2.to λ o e=>up _ o D.i2z D.i12.symm D.TOi2.symm e) (s2.to λ o e=>up _ o D.l2z D.l2i1 D.l2TO e) hy λ hd gd sd=>wpAny_pure ?_)
 have td:IsPair hd TO x b:=sd.extBut _ _ D.TOi2 tc
 refine wpAny_bind (wpAny_seqItems td rfl (wpAny_bind (wpAny_updateSeq_pair td λ he te se=>wpAny_bind (wpAny_letGo (wpAny_pure (wpAny_pure ?_))))));replace te:IsPair he TO x y:=te
 refine wpAny_bind (wpAny_seqItems te rfl (wpAny_bind (wpAny_newTuple ?_)))
 have hsz:he.objs.size=s.heap.objs.size:=by rw [se.1,sd.1,sc.1,sb.1,sa.1]
 have ze:IsZip he z TI TO .ellipsis:=se.extBut _ _ D.TOz.symm (sd.extBut _ _ D.i2z.symm (sc.extBut _ _ D.TOz.symm (sb.extBut _ _ D.i1z.symm za)))
 have ke:∀c o,c≠z->c≠TO->c≠i1->c≠i2->s.heap.get? c=some o->he.get? c=some o:=λ c o q1 q2 q3 q4 e=>se.extBut _ _ q2 (sd.extBut _ _ q4 (up c o q1 q3 q2 e))
 have ge1:qV c1 he i1 l1 (n1+1):=((gb.to λ o e=>sc.extBut _ _ D.TOi1.symm e).to λ o e=>sd.extBut _ _ D.i12 e).to λ o e=>se.extBut _ _ D.TOi1.symm e
 have ge2:qV c2 he i2 l2 (n2+1):=gd.to λ o e=>se.extBut _ _ D.TOi2.symm e
 have zlt:z<he.objs.size:=Heap.lt_size ze
 show wpAny _ _ (Builtin.SmallTypes.ownedTupleHandOut (.ref z) (.ref he.objs.size) >>= _) _ _ _;refine wpAny_bind ?_;unfold Builtin.SmallTypes.ownedTupleHandOut
 have zf:IsZip (he.push { cls:=.type "tuple",data:=.seq #[x,y] }) z TI TO .ellipsis:=Heap.get?_push_of_some _ ze
 refine wpAny_bind (wpAny_setField_rec zf (by simp) λ hg zg sg=>?_);replace zg:IsZip hg z TI TO (rawInt he.objs.size):=zg
 refine wpAny_setField_rec zg (by simp) λ hk zk sk=>?_;replace zk:IsZip hk z TI TO (rawInt he.objs.size):=zk
 have fin:∀c o,c≠z->he.get? c=some o->hk.get? c=some o:=λ c o q e=>sk.extBut _ _ q (sg.extBut _ _ q (Heap.get?_push_of_some _ e))
 have tk:IsPair hk he.objs.size x y:=sk.extBut _ _ (Nat.ne_of_gt zlt) (sg.extBut _ _ (Nat.ne_of_gt zlt) (Heap.get?_push_size _ rfl))
 rw [hsz] at zk tk
 refine wpAny_pure ⟨_,rfl,?_⟩
 show Q (.ref he.objs.size) _;rw [hsz]
 exact hQ hk zk (fin _ _ D.TIz (ke _ _ D.TIz D.TITO D.TIi1 D.TIi2 hTI)) (fin _ _ D.TOz te) (ge1.to λ o e=>fin _ o D.i1z e) (ge2.to λ o e=>fin _ o D.i2z e) tk λ c o q1 q2 q3 q4 e=>fin c o q1 (ke c o q1 q2 q3 q4 e)
theorem LS {Q:Fin->Shared->Prop}(hh:A.handled=none)(D:ZipApart z TI TO i1 i2 l1 l2)(hz:IsZip s.heap z TI TO .none)(hTI:IsPair s.heap TI (.ref i1) (.ref i2))(hTO:IsPair s.heap TO a b)
  (g1:qV c1 s.heap i1 l1 n1)(g2:qV c2 s.heap i2 l2 n2)(s1:jz c1 s.heap l1 xs)(s2:jz c2 s.heap l2 ys)(hend:xs[n1]? =none∨ys[n2]? =none)
  (hE:∀h' e,(∀c o,c≠z->c≠TO->c≠i1->c≠i2->s.heap.get? c=some o->h'.get? c=some o)->(∃o,h'.get? e=some o/\o.cls=.type "StopIteration")->E (.ref e) { s with heap:=h' }):
  wpAny (model prog w) A (Builtin.«zip.__next__» ⟨[.ref z],[]⟩) Q E s:=by
 show wpAny _ _ (field (.ref z) 2 >>= _) _ _ _;refine wpAny_bind (wpAny_field hz rfl (x:=.bool false) rfl ?_)
 show wpAny _ _ (field (.ref z) 3 >>= _) _ _ _;refine wpAny_bind (wpAny_field hz rfl (x:=.ref TI) rfl (wpAny_bind (wpAny_seqItems hTI rfl ?_)))
 show wpAny _ _ (Builtin.SmallTypes.ownedTupleIsFree (.ref z) >>= _) _ _ _;refine wpAny_bind ?_;unfold Builtin.SmallTypes.ownedTupleIsFree
 refine wpAny_bind (wpAny_field hz rfl (x:=.none) rfl (wpAny_pure ?_));simp only [if_true];refine wpAny_bind (wpAny_rule (wpAny_bind (wpAny_field hz rfl (x:=.ref TO) rfl ?_)))
 refine wpAny_bind (wpAny_setField_rec hz (by simp) λ ha za sa=>?_);replace za:IsZip ha z TI TO .ellipsis:=za
 refine wpAny_bind ?_;simp only [List.zipIdx_cons,List.zipIdx_nil,List.forIn_cons,List.forIn_nil]
 refine wpAny_bind (wpAny_bind (wpAny_onRaise ?_));show wpAny _ _ (Builtin.SmallTypes.nextOf (.ref i1) >>= _) _ _ _
 have ga:=g1.to (h':=ha) λ o e=>sa.extBut _ _ D.i1z e
 have ya:=s1.to (h':=ha) λ o e=>sa.extBut _ _ D.l1z e
 cases hx:xs[n1]? with
 | none=>
  refine wpAny_bind (Wm hh ga ya hx λ hb e sb he=>?_)
  obtain ⟨oe,hoe,hce⟩:=he
  have zb:IsZip hb z TI TO .ellipsis:=sb _ _ D.i1z.symm za
  have hez:e≠z:=λ q=>by subst q;rw [zb] at hoe;cases hoe;simp at hce
  exact wpAny_setField_rec zb (by simp) λ hc _ sc=>hE hc e (λ c o q1 _ q3 _ q=>sc.extBut _ _ q1 (sb _ _ q3 (sa.extBut _ _ q1 q))) ⟨oe,sc.extBut _ _ hez hoe,hce⟩
 | some x=>
  have hy:ys[n2]? =none:=by
   rcases hend with q | q
   ·rw [hx] at q;cases q
   ·exact q
  refine wpAny_bind (Jl ga ya hx λ hb gb sb=>wpAny_pure ?_)
  have tb:IsPair hb TO a b:=sb.extBut _ _ D.TOi1 (sa.extBut _ _ D.TOz hTO)
  refine wpAny_bind (wpAny_seqItems tb rfl (wpAny_bind (wpAny_updateSeq_pair tb λ hc tc sc=>wpAny_bind (wpAny_letGo (wpAny_pure ?_)))))
  refine wpAny_bind (wpAny_bind (wpAny_onRaise ?_));show wpAny _ _ (Builtin.SmallTypes.nextOf (.ref i2) >>= _) _ _ _
  have up:∀c o,c≠z->c≠i1->c≠TO->s.heap.get? c=some o->hc.get? c=some o:=λ c o q1 q2 q3 e=>sc.extBut _ _ q3 (sb.extBut _ _ q2 (sa.extBut _ _ q1 e))
  refine wpAny_bind (Wm hh (g2.to λ o e=>up _ o D.i2z D.i12.symm D.TOi2.symm e) (s2.to λ o e=>up _ o D.l2z D.l2i1 D.l2TO e) hy λ hd e sd he=>?_)
  obtain ⟨oe,hoe,hce⟩:=he
  have zd:IsZip hd z TI TO .ellipsis:=sd _ _ D.i2z.symm (sc.extBut _ _ D.TOz.symm (sb.extBut _ _ D.i1z.symm za))
  have hez:e≠z:=λ q=>by subst q;rw [zd] at hoe;cases hoe;simp at hce
  exact wpAny_setField_rec zd (by simp) λ hf _ sf=>hE hf e (λ c o q1 q2 q3 q4 q=>sf.extBut _ _ q1 (sd _ _ q4 (up c o q1 q3 q2 q))) ⟨oe,sf.extBut _ _ hez hoe,hce⟩
theorem Ng {Q:Option Value->Shared->Prop}(D:ZipApart z TI TO i1 i2 l1 l2)(hz:IsZip s.heap z TI TO .none)(hTI:IsPair s.heap TI (.ref i1) (.ref i2))(hTO:IsPair s.heap TO a b)
  (g1:qV c1 s.heap i1 l1 n1)(g2:qV c2 s.heap i2 l2 n2)(s1:jz c1 s.heap l1 xs)(s2:jz c2 s.heap l2 ys)(hx:xs[n1]? =some x)(hy:ys[n2]? =some y)
  (hQ:∀h',IsZip h' z TI TO (rawInt s.heap.objs.size)->IsPair h' TI (.ref i1) (.ref i2)->IsPair h' TO x y->qV c1 h' i1 l1 (n1+1)->qV c2 h' i2 l2 (n2+1)->IsPair h' s.heap.objs.size x y->
   (∀c o,c≠z->c≠TO->c≠i1->c≠i2->s.heap.get? c=some o->h'.get? c=some o)->Q (some (.ref s.heap.objs.size)) { s with heap:=h' }):wpAny (model prog w) A (pyNext (.ref z)) Q E s:=by
 have hT:s.TypeIs (.ref z) "zip" := ⟨_,hz,rfl⟩
 unfold pyNext
 exact wpAny_bind (wpAny_attempt (wpAny_callSpecial?_slot (name:=Str.ofString "__next__") hT F.slot_zip_next (wpAny_call_entry F.slot_zip_next hT F.entry_zip_next
  (O4 D hz hTI hTO g1 g2 s1 s2 hx hy λ h' q1 q2 q3 q4 q5 q6 q7=>wpAny_pure (hQ h' q1 q2 q3 q4 q5 q6 q7)) (F.args_zip_next_1 _))))
theorem Nl {Q:Option Value->Shared->Prop}(hh:A.handled=none)(D:ZipApart z TI TO i1 i2 l1 l2)(hz:IsZip s.heap z TI TO .none)(hTI:IsPair s.heap TI (.ref i1) (.ref i2))(hTO:IsPair s.heap TO a b)
  (g1:qV c1 s.heap i1 l1 n1)(g2:qV c2 s.heap i2 l2 n2)(s1:jz c1 s.heap l1 xs)(s2:jz c2 s.heap l2 ys)(hend:xs[n1]? =none∨ys[n2]? =none)
  (hQ:∀h',(∀c o,c≠z->c≠TO->c≠i1->c≠i2->s.heap.get? c=some o->h'.get? c=some o)->Q none { s with heap:=h' }):wpAny (model prog w) A (pyNext (.ref z)) Q E s:=by
 have hT:s.TypeIs (.ref z) "zip" := ⟨_,hz,rfl⟩
 unfold pyNext
 refine wpAny_bind (wpAny_attempt (wpAny_callSpecial?_slot (name:=Str.ofString "__next__") hT F.slot_zip_next (wpAny_call_entry F.slot_zip_next hT F.entry_zip_next (LS hh D hz hTI hTO g1 g2 s1 s2 hend λ h' e hk he=>?_) (F.args_zip_next_1 _))))
 obtain ⟨o,ho,hc⟩:=he
 exact wpAny_bind (wpAny_isInstance (T := "StopIteration") (b:=true) ⟨o,ho,hc⟩ isSubtype_stop (wpAny_pure (hQ _ hk)))
end
noncomputable abbrev JU (h:Heap)(c1:Bool)(l1:Addr):Heap:=h.push { cls:=.type (Zf c1),data:=.fields #[.ref l1,.int 0 0] }
noncomputable abbrev JE (h:Heap)(c1 c2:Bool)(l1 l2:Addr):Heap:=(JU h c1 l1).push { cls:=.type (Zf c2),data:=.fields #[.ref l2,.int 0 0] }
noncomputable abbrev JQ (h:Heap)(c1 c2:Bool)(l1 l2:Addr):Heap:=(JE h c1 c2 l1 l2).push { cls:=.type "tuple",data:=.seq #[.ref h.objs.size,.ref (JU h c1 l1).objs.size] }
noncomputable abbrev JW (h:Heap)(c1 c2:Bool)(l1 l2:Addr):Heap:=(JQ h c1 c2 l1 l2).push { cls:=.type "tuple",data:=.seq #[.none,.none] }
noncomputable abbrev ZT (h:Heap)(c1 c2:Bool)(l1 l2:Addr):Heap:=(JW h c1 c2 l1 l2).push { cls:=.type "zip",data:=.fields #[.none,.bool false,.bool false,.ref (JE h c1 c2 l1 l2).objs.size,.ref (JQ h c1 c2 l1 l2).objs.size] }
theorem Rm (c1 c2:Bool)(l1 l2:Addr)(xs ys:Array Value):
  Meets (Builtin.«zip.__new__» ⟨[.type "zip",.ref l1,.ref l2],[]⟩) (λ _ R s=>jz c1 s.heap l1 xs/\jz c2 s.heap l2 ys/\R (.ok (.ret (.ref (JW s.heap c1 c2 l1 l2).objs.size))) { s with heap:=ZT s.heap c1 c2 l1 l2 }):=
 .of_wp λ prog w A R s h=>by
  obtain ⟨hp,g,d,tk,os⟩:=s;obtain ⟨q1,q2,h⟩:=h;have hsub:=sub_zip
  have k1:jz c1 (Shared.heap ⟨hp,g,d,tk,os⟩) l1 xs:=q1
  have k2:jz c2 (Shared.heap ⟨hp.push { cls:=.type (Zf c1),data:=.fields #[.ref l1,.int 0 0] },g,d,tk,os⟩) l2 ys:=q2.to λ o e=>Heap.get?_push_of_some _ e
  wp_walk using VD k1,VD k2
  exact ⟨_,rfl,h⟩
section
variable {prog:Program}{w:World}{A:Around}{E:Value->Shared->Prop}{s:Shared}{c1 c2:Bool}{l1 l2:Addr}{xs ys:Array Value}
theorem Ot {Q:Value->Shared->Prop}(s1:jz c1 s.heap l1 xs)(s2:jz c2 s.heap l2 ys)
  (h:∀h' n,n=s.heap.objs.size->IsZip h' (n+4) (n+2) (n+3) .none->IsPair h' (n+2) (.ref n) (.ref (n+1))->IsPair h' (n+3) .none .none->qV c1 h' n l1 0->qV c2 h' (n+1) l2 0->
   (∀c o,s.heap.get? c=some o->h'.get? c=some o)->Q (.ref (n+4)) { s with heap:=h' }):wpAny (model prog w) A (call (.type "zip") [.ref l1,.ref l2]) Q E s:=by
 refine callType_new F.called_zip (by decide) (F.typeCall_zip_2 _ _) (F.newCall_zip_2 _ _) (λ obj=>F.args_object_init_3 obj _ _) F.entry_zip_new (Rm c1 c2 l1 l2 xs ys) ⟨s1,s2,?_⟩
 have z1:(JU s.heap c1 l1).objs.size=s.heap.objs.size+1:=Heap.size_push ..
 have z2:(JE s.heap c1 c2 l1 l2).objs.size=s.heap.objs.size+2:=by rw [Heap.size_push,z1]
 have z3:(JQ s.heap c1 c2 l1 l2).objs.size=s.heap.objs.size+3:=by rw [Heap.size_push,z2]
 have z4:(JW s.heap c1 c2 l1 l2).objs.size=s.heap.objs.size+4:=by rw [Heap.size_push,z3]
 have y5:(ZT s.heap c1 c2 l1 l2).get? (JW s.heap c1 c2 l1 l2).objs.size=some _:=Heap.get?_push_size _ rfl
 have y4:(ZT s.heap c1 c2 l1 l2).get? (JQ s.heap c1 c2 l1 l2).objs.size=some _:=Heap.get?_push_of_some _ (Heap.get?_push_size _ rfl)
 have y3:(ZT s.heap c1 c2 l1 l2).get? (JE s.heap c1 c2 l1 l2).objs.size=some _:=Heap.get?_push_of_some _ (Heap.get?_push_of_some _ (Heap.get?_push_size _ rfl))
 have y2:(ZT s.heap c1 c2 l1 l2).get? (JU s.heap c1 l1).objs.size=some _:=Heap.get?_push_of_some _ (Heap.get?_push_of_some _ (Heap.get?_push_of_some _ (Heap.get?_push_size _ rfl)))
 have y1:(ZT s.heap c1 c2 l1 l2).get? s.heap.objs.size=some _:=Heap.get?_push_of_some _ (Heap.get?_push_of_some _ (Heap.get?_push_of_some _ (Heap.get?_push_of_some _ (Heap.get?_push_size _ rfl))))
 show _/\_
 rw [z2,z3,z4] at y5
 rw [z1,z2] at y3
 rw [z3] at y4
 rw [z1] at y2
 rw [z4]
 exact ⟨⟨_,y5,rfl⟩,h _ _ rfl y5 y3 y4 (.mk ⟨_,y1,rfl,rfl⟩) (.mk ⟨_,y2,rfl,rfl⟩) λ c o q=>
  Heap.get?_push_of_some _ (Heap.get?_push_of_some _ (Heap.get?_push_of_some _ (Heap.get?_push_of_some _ (Heap.get?_push_of_some _ q))))⟩
end
noncomputable def GG (c1 c2:Bool)(K:Frag)(p q:Addr):It:=
 ⟨λ i H=>∃xs ys x y,yq c1 K H p xs/\yq c2 K H q ys/\xs[i]? =some x/\ys[i]? =some y,
  λ i H v H'=>∃t x y,(∀xs,yq c1 K H p xs->xs[i]? =some x)/\(∀ys,yq c2 K H q ys->ys[i]? =some y)/\H t=none/\v=.ref t/\H'=upd H t (.tup [x,y]),
  λ i H=>∃xs ys,yq c1 K H p xs/\yq c2 K H q ys/\(xs[i]? =none∨ys[i]? =none)⟩
theorem P7 {P:Program}{w:World}{K:Frag}{elts:List Expr}{kk:Nat}{tpos:Pos}(c1 c2:Bool)(p q z TI TO i1 i2:Addr)(D:ZipApart z TI TO i1 i2 p q):
  Turn P w K (.Tuple elts kk tpos) (GG c1 c2 K p q) [z,TI,TO,i1,i2] z (λ i h=>IsZip h z TI TO .none/\IsPair h TI (.ref i1) (.ref i2)/\(∃a b,IsPair h TO a b)/\qV c1 h i1 p i/\qV c2 h i2 q i) where
 mem:=by simp
 obj:=λ i h st b hb=>by
  obtain ⟨hz,hTI,⟨a',b',hTO⟩,g1,g2⟩:=st
  simp only [List.mem_cons,List.not_mem_nil,or_false] at hb
  rcases hb with rfl | rfl | rfl | rfl | rfl
  ·exact ⟨_,hz,λ v e=>nomatch e⟩
  ·exact ⟨_,hTI,λ v e=>nomatch e⟩
  ·exact ⟨_,hTO,λ v e=>nomatch e⟩
  ·obtain ⟨o,ho,_,hd⟩:=g1.ob;exact ⟨o,ho,λ v e=>by rw [hd] at e;cases e⟩
  ·obtain ⟨o,ho,_,hd⟩:=g2.ob;exact ⟨o,ho,λ v e=>by rw [hd] at e;cases e⟩
 keep:=λ i h h' ⟨hz,hTI,⟨a',b',hTO⟩,g1,g2⟩ k=>⟨k z (by simp) _ hz,k TI (by simp) _ hTI,⟨a',b',k TO (by simp) _ hTO⟩,g1.to λ o e=>k i1 (by simp) o e,g2.to λ o e=>k i2 (by simp) o e⟩
 item:=by
  intro X hP hw hK hc i pins s σ H E I hf st hg;subst hP hw hK
  obtain ⟨hz,hTI,⟨a',b',hTO⟩,g1,g2⟩:=st
  obtain ⟨xs,ys,x,y,h1,h2,ex,ey⟩:=hg
  obtain ⟨its1,r1,sq1,_⟩:=I.sq h1
  obtain ⟨its2,r2,sq2,_⟩:=I.sq h2
  obtain ⟨u1,eu1,ru1⟩:=r1.get ex
  obtain ⟨u2,eu2,ru2⟩:=r2.get ey
  refine Ng D hz hTI hTO g1 g2 sq1 sq2 (x:=u1) (y:=u2) (by simpa using eu1) (by simpa using eu2) λ hh z1 z2 z3 z4 z5 z6 kp=>?_
  refine ⟨_,rfl,wpAny_letOwnedTupleGo_zip z1 λ hk zk sk=>?_⟩
  have lt:∀{c o},s.heap.get? c=some o->c≠s.heap.objs.size:=λ e=>Nat.ne_of_lt (Heap.lt_size e)
  have T2:IsPair hk s.heap.objs.size u1 u2:=sk.extBut _ _ (lt hz).symm z6
  have fre:∀b∈[z,TI,TO,i1,i2],b≠s.heap.objs.size:=λ b hb=>by
   simp only [List.mem_cons,List.not_mem_nil,or_false] at hb
   rcases hb with rfl | rfl | rfl | rfl | rfl
   ·exact lt hz
   ·exact lt hTI
   ·exact lt hTO
   ·obtain ⟨o,ho,_⟩:=g1.ob;exact lt ho
   ·obtain ⟨o,ho,_⟩:=g2.ob;exact lt ho
  refine ⟨.ref s.heap.objs.size,upd H s.heap.objs.size (.tup [x,y]),?_,rfl,⟨s.heap.objs.size,x,y,λ zs hzs=>by rw [I.sq_inj hzs h1];exact ex,λ zs hzs=>by rw [I.sq_inj hzs h2];exact ey,I.hok.fresh (Nat.le_refl _),rfl,rfl⟩,
   ⟨zk,sk.extBut _ _ D.TIz z2,⟨_,_,sk.extBut _ _ D.TOz z3⟩,z4.to λ o e=>sk.extBut _ _ D.i1z e,z5.to λ o e=>sk.extBut _ _ D.i2z e⟩,λ b hb=>?_⟩
  ·refine I.spun (fp:=[z,TI,TO,i1,i2]) (t':=s.toks) (λ b o hb eo=>?_) hf (Nat.le_refl _) ?_
   ·exact sk.extBut _ _ (λ e=>hb (by simp [e])) (kp b o (λ e=>hb (by simp [e])) (λ e=>hb (by simp [e])) (λ e=>hb (by simp [e])) (λ e=>hb (by simp [e])) eo)
   ·exact ⟨by show 2<=sizeLine;decide,[u1,u2],.cons ru1 (.cons ru2 .nil),_,T2,⟨rfl,rfl⟩,0,rfl⟩
  ·show upd H s.heap.objs.size _ b=none
   rw [qf (fre b hb)];exact (hf b hb).1
 done:=by
  intro X hP hw hK hc i pins s σ H E I hf st hg;subst hP hw hK
  obtain ⟨hz,hTI,⟨a',b',hTO⟩,g1,g2⟩:=st
  obtain ⟨xs,ys,h1,h2,hend⟩:=hg
  obtain ⟨its1,r1,sq1,_⟩:=I.sq h1
  obtain ⟨its2,r2,sq2,_⟩:=I.sq h2
  have hend':its1.toArray[i]? =none∨its2.toArray[i]? =none:=by
   rcases hend with e | e
   ·exact .inl (by simpa using r1.none_of e)
   ·exact .inr (by simpa using r2.none_of e)
  exact Nl (I.ok.hd hc) D hz hTI hTO g1 g2 sq1 sq2 hend' λ hh kp=>⟨rfl,I.spun0 (fp:=[z,TI,TO,i1,i2]) (t':=s.toks) (λ b o hb eo=>kp b o (λ e=>hb (by simp [e])) (λ e=>hb (by simp [e])) (λ e=>hb (by simp [e])) (λ e=>hb (by simp [e])) eo) hf⟩
 self:=λ _ _ _ _ _ st h=>wpAny_pyIter_zip st.1 h
section
variable {X:Cx}{xr:XR}{e a b:Expr}{m ma mb:Ev}{pos:Pos}
noncomputable def Hs (K:Frag)(ta:TA):TI:=λ σ H R=>ta σ H λ vs H1=>∃p q c1 c2 xs ys,vs=[.ref p,.ref q]/\yq c1 K H1 p xs/\yq c2 K H1 q ys/\R (GG c1 c2 K p q) H1
theorem Me {elts:List Expr}{kk:Nat}{tpos p:Pos}{ta:TA}(hg:Gl X "zip")(hm:X.mg "zip" = none)(ha:PA X [a,b] ta)(hs:starEach [a,b] X.env=(false,eval a X.env)::starEach [b] X.env)(hp:(backTo pos (starEach [b] X.env)).any (·.1)=false):
  PI X (.Tuple elts kk tpos) (.Call (.Name "zip" p) [a,b] [] pos) (Hs X.K ta):=by
 intro pins s σ H R I h
 refine Call_ (gy I hg hm boot_zip (PyProof.Rows.callWith_type1 (zO (ha pos pins s σ H _ I h) λ us s1 ⟨vs,H1,I1,r1,q1⟩=>?_) hs hp))
 obtain ⟨p,q,c1,c2,xs,ys,rfl,h1,h2,hR⟩:=q1
 obtain ⟨u1,u2,rfl,ru1,ru2⟩:=r1.two
 cases ru1;cases ru2
 obtain ⟨its1,rv1,sq1,_⟩:=I1.sq h1
 obtain ⟨its2,rv2,sq2,_⟩:=I1.sq h2
 obtain ⟨op,hop,_⟩:=sq1.ob
 obtain ⟨oq,hoq,_⟩:=sq2.ob
 have lp:p<s1.heap.objs.size:=Heap.lt_size hop
 have lq:q<s1.heap.objs.size:=Heap.lt_size hoq
 refine Ot sq1 sq2 λ h' n en z1 z2 z3 z4 z5 kp=>wpAny_pyIter_zip z1 ?_
 rw [<- en] at lp lq
 have ne1:∀(i j:Nat),i≠j->n+i≠n+j:=λ i j h e=>h (Nat.add_left_cancel e)
 have ne2:∀(c:Nat) (i:Nat),c<n->c≠n+i:=λ c i h e=>absurd h (by rw [e];exact Nat.not_lt.mpr (Nat.le_add_right n i))
 have D:ZipApart (n+4) (n+2) (n+3) (n+0) (n+1) p q:=⟨ne1 2 4 (by decide),ne1 3 4 (by decide),ne1 0 4 (by decide),ne1 1 4 (by decide),ne1 2 3 (by decide),ne1 2 0 (by decide),ne1 2 1 (by decide),ne1 3 0 (by decide),ne1 3 1 (by decide),ne1 0 1 (by decide),
  ne2 p 4 lp,ne2 p 3 lp,ne2 p 0 lp,ne2 p 1 lp,ne2 q 4 lq,ne2 q 3 lq,ne2 q 0 lq,ne2 q 1 lq⟩
 refine ⟨n+4,[n+4,n+2,n+3,n,n+1],_,_,H1,rfl,I1.kept (t':=s1.toks) kp,P7 c1 c2 p q _ _ _ _ _ D,⟨z1,z2,⟨_,_,z3⟩,z4,z5⟩,λ c hc=>?_,hR⟩
 have hc':s1.heap.objs.size<=c:=by
  rw [<- en]
  simp only [List.mem_cons,List.not_mem_nil,or_false] at hc
  rcases hc with rfl | rfl | rfl | rfl | rfl
  ·exact Nat.le_add_right _ _
  ·exact Nat.le_add_right _ _
  ·exact Nat.le_add_right _ _
  ·exact Nat.le_refl _
  ·exact Nat.le_add_right _ _
 exact I1.fpOk hc' (I1.hok.fresh hc')
noncomputable def zip2:Option W->Option W->Option W
 | some x,some y=>some (.tup [x,y])
 | _,_=>none
noncomputable def Gd (w w':W)(n:Nat):ji:=⟨λ A i=>match zT w A,zT w' A with
 | some us,some vs=>some (zip2 us[i]? vs[i]?)
 | _,_=>none,n⟩
theorem L1 {K:Frag}{φ:List Addr}{H:Hp}{w w':W}{p p':Addr}{n:Nat}(q:RV K φ H w (.ref p))(q':RV K φ H w' (.ref p')):gG K φ H (Gd w w' n) (GG (gA w) (gA w') K p p'):=λ i φ' H' A' lw S'=>by
 unfold Gd
 dsimp only
 cases es:zT w A' with
 | none=>exact ⟨λ _ z=>(by cases z),λ z=>(by cases z)⟩
 | some us=>
  cases es':zT w' A' with
  | none=>exact ⟨λ _ z=>(by cases z),λ z=>(by cases z)⟩
  | some vs=>
   dsimp only
   obtain ⟨xs,h1,h2⟩:=Kh q lw S' es
   obtain ⟨ys,h3,h4⟩:=Kh q' lw S' es'
   have non:∀{us:List W} {xs:List V},zx K φ' H' us xs->us[i]? =none->xs[i]? =none:=λ r e=>by
    rw [List.getElem?_eq_none_iff] at e ⊢;rw [<- r.length];exact e
   cases e1:us[i]? with
   | none=>exact ⟨λ _ z=>(by cases z),λ _=>⟨xs,ys,h1,h3,.inl (non h2 e1)⟩⟩
   | some x=>
    cases e2:vs[i]? with
    | none=>exact ⟨λ _ z=>(by cases z),λ _=>⟨xs,ys,h1,h3,.inr (non h4 e2)⟩⟩
    | some y=>
     refine ⟨λ u z=>?_,λ z=>(by cases z)⟩
     cases z
     obtain ⟨vx,f1,f2⟩:=h2.get e1
     obtain ⟨vy,f3,f4⟩:=h4.get e2
     refine ⟨⟨xs,ys,vx,vy,h1,h3,f1,f3⟩,λ xv H1 ⟨t,x',y',hx,hy,ht,ex,eH⟩=>?_⟩
     subst ex eH
     have g1:=hx xs h1
     have g2:=hy ys h3
     rw [f1] at g1;cases g1
     rw [f3] at g2;cases g2
     obtain ⟨a1,a2,a3⟩:=g7 S' ht (.cons f2 (.one f4))
     exact ⟨a1,a2,a3⟩
noncomputable def Uu (m m':Ev):Ei:=λ ρ A=>(m ρ A).bind λ w A1=>(m' ρ A1).bind λ w' A2=>match zT w A2,zT w' A2 with
 | some us,some _=>.ok (Gd w w' us.length) A2
 | _,_=>.bad
end
section
variable {X:Cx}{xr:XR}{K:Frag}{e a b c:Expr}{m ma mb mc:Ev}{pos:Pos}
noncomputable def wj:Ev:=λ _ A=>.ok (.ref A.length) (A++[.dct []])
noncomputable def Gp:W->Option Key
 | .int i=>some (.inl i)
 | _=>none
theorem zF.dct {φ:List Addr}{A:Hx}{H:Hp}{n:Nat}{kvs:List (Key × W)}{v:V}(S:zF K φ A H)(q:RV K φ H (.ref n) v)(e:A[n]? =some (.dct kvs)):∃p us,v=.ref p/\φ[n]? =some p/\H p=some (.dK us)/\us.map (·.1)=kvs.map (·.1)/\zx K φ H (kvs.map (·.2)) (us.map (·.2)):=by
 obtain ⟨p,rfl,h1⟩:=q
 obtain ⟨p',h2,us,h3,h4,h5⟩:=S.ob n _ e
 rw [h1] at h2;cases h2
 exact ⟨p,us,rfl,h1,h3,h4,h5⟩
end
section
variable {X:Cx}{pins:List (Addr × Obj)}{σ:St}{H:Hp}{s:Shared}
end
section
variable {X:Cx}{xr:XR}{e a b:Expr}{m ma mb:Ev}{pos:Pos}
end
mutual
noncomputable def W.beq:W->W->Bool
 | .non,.non=>true
 | .bl a,.bl b=>a==b
 | .int a,.int b=>decide (a=b)
 | .str a,.str b=>decide (a=b)
 | .tup a,.tup b=>QB a b
 | _,_=>false
noncomputable def QB:List W->List W->Bool
 | [],[]=>true
 | a::as,b::bs=>a.beq b&&QB as bs
 | _,_=>false
end
mutual
theorem W.eq_of:∀{a b:W},a.beq b=true->a=b
 | .non,.non,_=>rfl
 | .bl a,.bl b,h=>by have h':(a==b)=true:=h;rw [beq_iff_eq] at h';rw [h']
 | .int a,.int b,h=>by have h':decide (a=b)=true:=h;rw [decide_eq_true_iff] at h';rw [h']
 | .str a,.str b,h=>by have h':decide (a=b)=true:=h;rw [decide_eq_true_iff] at h';rw [h']
 | .tup a,.tup b,h=>by have h':QB a b=true:=h;rw [VO h']
 | .non,.bl _,h=>nomatch h | .non,.int _,h=>nomatch h | .non,.str _,h=>nomatch h | .non,.tup _,h=>nomatch h | .non,.ref _,h=>nomatch h
 | .bl _,.non,h=>nomatch h | .bl _,.int _,h=>nomatch h | .bl _,.str _,h=>nomatch h | .bl _,.tup _,h=>nomatch h | .bl _,.ref _,h=>nomatch h
 | .int _,.non,h=>nomatch h | .int _,.bl _,h=>nomatch h | .int _,.str _,h=>nomatch h | .int _,.tup _,h=>nomatch h | .int _,.ref _,h=>nomatch h
 | .str _,.non,h=>nomatch h | .str _,.bl _,h=>nomatch h | .str _,.int _,h=>nomatch h | .str _,.tup _,h=>nomatch h | .str _,.ref _,h=>nomatch h
 | .tup _,.non,h=>nomatch h | .tup _,.bl _,h=>nomatch h | .tup _,.int _,h=>nomatch h | .tup _,.str _,h=>nomatch h | .tup _,.ref _,h=>nomatch h
 | .ref _,.non,h=>nomatch h | .ref _,.bl _,h=>nomatch h | .ref _,.int _,h=>nomatch h | .ref _,.str _,h=>nomatch h | .ref _,.tup _,h=>nomatch h | .ref _,.ref _,h=>nomatch h
theorem VO:∀{a b:List W},QB a b=true->a=b
 | [],[],_=>rfl
 | a::as,b::bs,h=>by
  have h':(a.beq b&&QB as bs)=true:=h
  rw [Bool.and_eq_true] at h'
  rw [W.eq_of h'.1,VO h'.2]
 | [],_::_,h=>nomatch h
 | _::_,[],h=>nomatch h
end
section
variable {P:Program}{w:World}{K:Frag}{mg:Str->Option Value}{base:Heap}
noncomputable def FD (K:Frag)(x:Str)(st:Stmt):Prop:=∃f fd,jd K x x st f fd/\PySem.W.nsIn K mainGlobals x=some (some (.ref f))
theorem jX {x:Str}{st:Stmt}{f:Addr}{oc:Value}{od an:Option Addr}{osl:Array (Option Value)}{kV doc pm cdv ct:Value}(a:PySem.W.nsIn K mainGlobals x=some (some (.ref f)))
  (l:K.lookup f=some ⟨oc,od,.func (PySem.W.fnOf x x (gQ st) (kX st) (qH st) .none kV doc pm an cdv ct),osl⟩)(c:PySem.W.codeIn K cdv x=true)(k:PySem.W.keepIn K (.ref f)=true):FD K x st:=⟨f,_,Ll l c k,a⟩
noncomputable def CD (K:Frag)(x:Str)(i:Int):Prop:=∃t,PySem.W.nsIn K mainGlobals x=some (some (.int i t))
theorem Iq {x:Str}{i:Int}{t:Tok}(a:PySem.W.nsIn K mainGlobals x=some (some (.int i t))):CD K x i:=⟨t,a⟩
theorem kr {us:List Value}(h:us.length=1):∃a,us=[a]:=List.length_eq_one_iff.mp h
theorem wR {us:List Value}(h:us.length=2):∃a b,us=[a,b]:=by
 obtain ⟨a,t,rfl⟩:=List.exists_cons_of_length_eq_add_one h
 exact (kr (Nat.succ.inj h)).elim λ b e=>⟨a,b,by rw [e]⟩
theorem Hi {us:List Value}(h:us.length=3):∃a b c,us=[a,b,c]:=by
 obtain ⟨a,t,rfl⟩:=List.exists_cons_of_length_eq_add_one h
 obtain ⟨b,c,rfl⟩:=wR (Nat.succ.inj h)
 exact ⟨a,b,c,rfl⟩
noncomputable def Ud (f:Fn):Prop:=∀ns:List Int,ns.length<=63->∃A,f [.ref 0] [.ro (ns.map W.int)]=.ok (.bl true) A
theorem Pa {H:Hp}{a:Addr}{ns:List Int}(hO:JI H)(hS:qx K H a (ns.map V.int)):zF K [a] [.ro (ns.map W.int)] H:=by
 refine ⟨rfl,λ i j b o o' h1 h2 h3 h4 m1 _=>?_,λ n o h=>?_⟩
 ·have hi:i=0:=by have:=(List.getElem?_eq_some_iff.mp h3).1;simp at this;omega
  have hj:j=0:=by have:=(List.getElem?_eq_some_iff.mp h4).1;simp at this;omega
  omega
 ·have hn:n=0:=by have:=(List.getElem?_eq_some_iff.mp h).1;simp at this;omega
  subst hn
  simp at h
  subst h
  refine ⟨a,rfl,ns.map V.int,?_,zx.ints.mpr rfl⟩
  rcases hS with (z | z) | z
  ·rcases hO a with q | ⟨ob,xs,q⟩
   ·rw [z] at q;cases q
   ·rw [z] at q;cases q
  ·exact .inl z
  ·exact .inr z
theorem ID {l:PySem.W.OpenLaw}{k:Nat}{q:Program}{loose:List Str}{XP:(Str->Option Value)->Heap->Prop}{YP:World->Heap->Prop}{d:DefRec}{Kp:Params->Frag}{x:Str}{f:Fn}(ok:Ud f)
  (hn:l.most=some 63)(hdf:d.params.defaults=[])(hr:jo k callerA)(hY:∀(w:World) (h:Heap),YP w h->(Kp w.params).In h)
  (F:∀(w:World) (mg:Str->Option Value) (fa:Addr) (h:Heap),(Kp w.params).In h->h.Ns mainGlobals mg->mg d.name=some (.ref fa)->
   ∃fd:FuncData,(∀(s:Shared) (u:Value),BindsTo s fd ⟨[u],[]⟩ [(x,u)])/\∀base:Heap,(Kp w.params).In base->base.Ns mainGlobals mg->yi l.prog w (Kp w.params) mg base ku k fa fd [x] (wW (Kp w.params) 1 f)):
  PySem.W.WalkO q loose XP YP l.row.toRowW d [] (λ f vs=>PySem.call f vs):=
 L2.Nb (n:=63) (k:=k) (x:=x) (CX:=λ _=>ku) (sp:=λ w=>wW (Kp w.params) 1 f) hn (by decide) hdf hr hY F (λ w H a ns hl hO hS=>by
  refine ⟨rfl,[a],[.ro (ns.map W.int)],[.ref 0],Pa hO hS,.one ⟨a,rfl,rfl⟩,?_⟩
  obtain ⟨A,e⟩:=ok ns hl
  rw [e]
  exact λ φ' H' v _ _ r=>r) λ _ _ _ _ _ z=>z
end
end Mi
namespace Y
open PySem PySem.Spec PyProof.Rows L2 Mi
@[irreducible] noncomputable def YE (X:Cx)(xr:XR)(e:Expr)(m:Ev):Prop:=Mi.SE X xr e m
theorem WT:@YE=@Mi.SE:=by
 funext X xr e m
 unfold YE
 rfl
@[irreducible] noncomputable def YA (X:Cx)(xr:XR)(es:List Expr)(m:Ea):Prop:=Mi.SA X xr es m
theorem WA:@YA=@Mi.SA:=by
 funext X xr es m
 unfold YA
 rfl
@[irreducible] noncomputable def YT (X:Cx)(xr:XR)(e:Expr)(m:Ev):Prop:=Mi.ST X xr e m
theorem WE:@YT=@Mi.ST:=by
 funext X xr e m
 unfold YT
 rfl
@[irreducible] noncomputable def YW (X:Cx)(xr:XR)(e:Expr)(m:Ev):Prop:=Mi.SW X xr e m
theorem W6:@YW=@Mi.SW:=by
 funext X xr e m
 unfold YW
 rfl
@[irreducible] noncomputable def YS (X:Cx)(xr:XR)(st:Stmt)(m:Ex):Prop:=Mi.SS X xr st m
theorem W5:@YS=@Mi.SS:=by
 funext X xr st m
 unfold YS
 rfl
@[irreducible] noncomputable def yN (X:Cx)(xr:XR)(st:List Stmt)(m:Ex):Prop:=Mi.QE X xr st m
theorem Wc:@yN=@Mi.QE:=by
 funext X xr st m
 unfold yN
 rfl
@[irreducible] noncomputable def YI (X:Cx)(xr:XR)(tg e:Expr)(m:Ei):Prop:=Mi.SI X xr tg e m
theorem WZ:@YI=@Mi.SI:=by
 funext X xr tg e m
 unfold YI
 rfl
@[irreducible] noncomputable def YG (X:Cx)(tg:Expr)(m:Tg):Prop:=Mi.SG X tg m
theorem Wv:@YG=@Mi.SG:=by
 funext X tg m
 unfold YG
 rfl
@[irreducible] noncomputable def YF (X:Cx)(xr:XR)(e:Expr)(m:jt):Prop:=Mi.SF X xr e m
theorem WN:@YF=@Mi.SF:=by
 funext X xr e m
 unfold YF
 rfl
@[irreducible] noncomputable def YQ (X:Cx)(xr:XR)(e:Expr)(m:jt):Prop:=Mi.SQ X xr e m
theorem WS:@YQ=@Mi.SQ:=by
 funext X xr e m
 unfold YQ
 rfl
@[irreducible] noncomputable def wt (X:Cx)(es:List Expr)(m:Ev):Prop:=Mi.QI X es m
theorem Wf:@wt=@Mi.QI:=by
 funext X es m
 unfold wt
 rfl
@[irreducible] noncomputable def YM (X:Cx)(elt:Expr)(gens:List Comprehension)(sc:Scope)(cpos:Pos)(d:Nat)(em:Em):Prop:=Mi.SM X elt gens sc cpos d em
theorem Wx:@YM=@Mi.SM:=by
 funext X elt gens sc cpos d em
 unfold YM
 rfl
section
variable {X:Cx}{xr:XR}{K:Frag}{e a b c:Expr}{es:List Expr}{m ma mb mc:Ev}{m1 m2:Ex}{pos:Pos}{st:Stmt}{rest:List Stmt}
theorem zK:@YE=@Mi.SE/\@YA=@Mi.SA/\@YT=@Mi.ST/\@YW=@Mi.SW/\@YS=@Mi.SS/\@yN=@Mi.QE/\@YI=@Mi.SI/\@YG=@Mi.SG/\@YF=@Mi.SF/\@YQ=@Mi.SQ/\@wt=@Mi.QI/\@YM=@Mi.SM:=⟨WT,WA,WE,W6,W5,Wc,WZ,Wv,WN,WS,Wf,Wx⟩
theorem zo {mr:Ea}(ha:YE X xr e ma)(hr:YA X xr es mr)(hs:starEach (e::es) X.env=(false,eval e X.env)::starEach es X.env:=by rfl):YA X xr (e::es) (zh ma mr):=by
 (try simp only [zK] at *)
 exact PA.imp (qX ha hr hs) λ σ H Q ⟨φ,A,ρ,S,re,h⟩=>by
   refine tM.go S re (zU.mp h) λ w A1 φ1 H1 v h1 l1 S1 q1=>?_
   refine J8.go S1 (re.mono l1) (qe (zU.mp h1) (λ _ _ z=>z) λ _ _ z=>z.mono l1) λ w2 A2 φ2 H2 v2 h2 l2 S2 q2=>?_
   exact h2 φ2 H2 _ (l1.trans l2) S2 (.cons (q1.mono l2) q2)
theorem zu:YA X xr [] zp:=by
 (try simp only [zK] at *)
 exact PA.imp jL λ σ H Q ⟨φ,A,ρ,S,re,h⟩=>h φ H [] .refl S .nil
theorem qT (ha:YE X xr a ma)(hb:YE X xr b mb):YE X xr (.BinOp a .Add b pos) (zj zL ma mb):=by
 (try simp only [zK] at *)
 exact gT (M9.or (OM.or (OD.or LC))) Mc N8 ha hb
theorem Qr {p:Pos}{q:jt}(hc:X.calm=true)(hm:X.mg "all" = none)(ha:YQ X xr e q)(hg:Gl X "all" := by rfl)(he:starEach [e] X.env=(false,eval e X.env)::starEach [] X.env:=by rfl):
  YE X xr (.Call (.Name "all" p) [e] [] pos) (mQ Zg q):=by
 (try simp only [zK] at *)
 exact W0 (PZ hc) MB NP hm (by rfl) ha hg (by decide) (by decide) he (by rfl)
theorem gu {rest:List Expr}(ha:YE X xr a ma)(hb:YE X xr (.BoolOp .And (b::rest) pos) mb):YE X xr (.BoolOp .And (a::b::rest) pos) (yx ma mb):=by
 (try simp only [zK] at *)
 exact PE.imp (M8 ha hb) λ σ H Q ⟨φ,A,ρ,S,re,h⟩=>by
   refine tM.go S re (zU.mp h) λ w A1 φ1 H1 v h1 l1 S1 q1=>?_
   cases w with
   | bl k=>
    refine ⟨k,q1,?_⟩
    cases k with
    | true=>rw [if_pos rfl];exact ⟨φ1,A1,ρ,S1,re.mono l1,qe h1 (λ _ _ z=>z.mono l1) λ _ _ z=>z.mono l1⟩
    | false=>rw [if_neg Bool.false_ne_true];exact h1 φ1 H1 _ l1 S1 rfl
   | non=>cases h1
   | int _=>cases h1
   | str _=>cases h1
   | tup _=>cases h1
   | ref _=>cases h1
   | clo _ _ _=>cases h1
   | xc _=>cases h1
theorem jP {i j}:YE X xr (.Constant (.bool i) j pos) (zi (.bl i)):=by
 (try simp only [zK] at *)
 exact PE.imp L0 λ σ H Q ⟨φ,A,ρ,S,r,h⟩=>h φ H _ .refl S rfl
theorem yy {op:CmpOp}{g:W->W->Hx->R W}(h:yC X op g)(ha:YE X xr a ma)(hb:YE X xr b mb)(h1:op≠.In:=by decide)(h2:op≠.NotIn:=by decide):YE X xr (.Compare a [op] [b] pos) (zj g ma mb):=by
 (try simp only [zK] at *)
 exact let ⟨r,a1,a2,a3⟩:=h.ex;VS a1 a2 a3 ha hb (h.mks b h1 h2)
theorem LZ {op op':CmpOp}{g g':W->W->Hx->R W}(h:yC X op g)(h':yC X op' g')(ha:YE X xr a ma)(hb:YE X xr b mb)(hc:YE X xr c mc)(hm:lastMarks [op,op'] [b,c]=false:=by with_unfolding_all rfl):
  YE X xr (.Compare a [op,op'] [b,c] pos) (jw g g' ma mb mc):=by
 (try simp only [zK] at *)
 exact let ⟨r,a1,a2,a3⟩:=h.ex;let ⟨r',b1,b2,b3⟩:=h'.ex;PX a1 a2 a3 b1 b2 b3 ha hb hc hm
theorem qm {k n:Nat}{x:Str}{p:Pos}{f:Fn}{mr:Ea}(F:zM X.prog X.w X.K X.mg X.base k x n f)(hr:jo k X.A)(ha:YA X yW (e::es) mr)(hl:ZW mr n)(hg:Gl X x:=by rfl)
  (hdb:(x==("__debug__" : Str))=false:=by decide)(he:starEach (e::es) X.env=(false,eval e X.env)::starEach es X.env:=by rfl)(hpl:(backTo pos (starEach es X.env)).any (·.1)=false:=by rfl):
  YE X yW (.Call (.Name x p) (e::es) [] pos) (zH f mr):=by
 (try simp only [zK] at *)
 obtain ⟨fa,fd,ps,F,hm,hk,hb⟩:=F
 refine PE.imp (Na F hr hg hm hk hb .nil LX ha hdb he hpl) λ σ H Q ⟨φ,A,ρ,S,re,h⟩=>?_
 have h':=zU.mp h
 refine ⟨φ,A,ρ,S,re,?_⟩
 cases er:mr ρ A with
 | ok ws A1=>
  rw [er] at h'
  intro φ1 H1 vs l1 S1 q1
  have hv:vs.length=n:=by rw [<- q1.length];exact hl ρ A ws A1 er
  rw [List.append_nil]
  exact ⟨hv,φ1,A1,ws,S1,q1,qe h' (λ _ _ z=>z.mono l1) λ x A2 z φ2 H2 l2 S2=>(z φ2 H2 (l1.trans l2) S2).elim⟩
 | exc x A1=>rw [er] at h';exact h'
 | bad=>rw [er] at h';exact h'
theorem IJ {op:CmpOp}{g:W->W->Hx->R W}(h:Gj X op g)(ha:YE X xr a ma)(hb:YE X xr b mb)(hm:behindInMarks op b=false:=by rfl):YE X xr (.Compare a [op] [b] pos) (zj g ma mb):=by
 (try simp only [zK] at *)
 exact let ⟨r,a1,a2,a3⟩:=h.ex;VS a1 a2 a3 ha hb hm
theorem Wo:YE X xr (.Dict [] [] pos) wj:=by
 (try simp only [zK] at *)
 exact PE.imp P2 λ σ H Q ⟨φ,A,ρ,S,re,h⟩ p hp=>by
  obtain ⟨l,S'⟩:=S.alloc (o:=.dct []) hp (u:=.dK []) ⟨[],jO,rfl,.nil⟩
  exact h _ _ _ l S' ⟨p,rfl,by rw [<- S.len];simp⟩
theorem ZN (ha:YE X xr a ma)(hb:YE X xr b mb):YE X xr (.BinOp a .FloorDiv b pos) (zj we ma mb):=by
 (try simp only [zK] at *)
 exact gT N4 WH (Ws O8 λ _ _ _ _=>rfl) ha hb
theorem NS {x:Str}{i:Int}{t:Tok}(hg:Gl X x)(hm:X.mg x=some (.int i t))(hd:(x==("__debug__" : Str))=false:=by decide):YE X xr (.Name x pos) (zi (.int i)):=by
 (try simp only [zK] at *)
 exact PE.imp (N2 hg hm (v:=.int i) ⟨t,rfl⟩ hd) λ σ H Q ⟨φ,A,ρ,S,r,h⟩=>h φ H _ .refl S rfl
theorem L8 {c:Expr}(hc:YT X xr c mc)(ha:YE X xr a ma)(hb:YE X xr b mb):YE X xr (.IfExp c a b pos) (US mc ma mb):=by
 (try simp only [zK] at *)
 exact PE.imp (OG hc ha hb) λ σ H Q ⟨φ,A,ρ,S,re,h⟩=>by
   refine tT.go S re (zU.mp h) λ w A1 h1=>?_
   cases w with
   | bl k=>
    refine ⟨k,rfl,λ φ1 H1 l1 S1=>?_⟩
    cases k with
    | true=>rw [if_pos rfl];exact ⟨φ1,A1,ρ,S1,re.mono l1,qe h1 (λ _ _ z=>z.mono l1) λ _ _ z=>z.mono l1⟩
    | false=>rw [if_neg Bool.false_ne_true];exact ⟨φ1,A1,ρ,S1,re.mono l1,qe h1 (λ _ _ z=>z.mono l1) λ _ _ z=>z.mono l1⟩
   | non=>cases h1
   | int _=>cases h1
   | str _=>cases h1
   | tup _=>cases h1
   | ref _=>cases h1
   | clo _ _ _=>cases h1
   | xc _=>cases h1
theorem zq {i j}:YE X xr (.Constant (.int i) j pos) (zi (.int i)):=by
 (try simp only [zK] at *)
 exact PE.imp Lo λ σ H Q ⟨φ,A,ρ,S,r,h⟩=>h φ H _ .refl S rfl
theorem yK (t:Ty){x:Str}{p p':Pos}(hm:X.mg "isinstance" = none)(hm':X.mg x=none)(hx:bootBuiltins x=some (.type t.nm))(ha:YE X xr e m)(hg:Gl X "isinstance" := by rfl)(hg':Gl X x:=by rfl)
  (hn:x ≠ "__name__" := by decide)(hd:(x==("__debug__" : Str))=false:=by decide)
  (h1:starEach [e,.Name x p'] X.env=(false,eval e X.env)::starEach [.Name x p'] X.env:=by rfl)(h2:(backTo pos (starEach [.Name x p'] X.env)).any (·.1)=false:=by rfl):
  YE X xr (.Call (.Name "isinstance" p) [e,.Name x p'] [] pos) (jA t m):=by
 (try simp only [zK] at *)
 exact PE.imp (gc NG hg hm (by rfl) (qX ha (qX (KS hg' hm' hx (v:=.ty t.nm) rfl hn hd) jL) h1) (by decide) (by decide) h1 h2) λ σ H Q ⟨φ,A,ρ,S,re,h⟩=>by
   refine tM.go S re (zU.mp h) λ w A1 φ1 H1 v h1 l1 S1 q1=>?_
   cases et:jg w A1 with
   | none=>rw [et] at h1;exact h1.elim
   | some t'=>
    rw [et] at h1
    exact ⟨v,t',t,rfl,Vf S1 q1 et,h1 φ1 H1 _ l1 S1 rfl⟩
theorem qb (ha:YE X xr a ma)(hb:YE X xr b mb)(hs:Vs b:=by intro _ _;rfl):YE X xr (.Subscript a b pos) (zj zz ma mb):=by
 (try simp only [zK] at *)
 exact PE.imp (L6 MK ha hb hs) (zj.read L5 MJ)
theorem yf {p:Pos}{q:jt}(hm:X.mg "len" = none)(ha:YQ X xr e q)(hg:Gl X "len" := by rfl)(he:starEach [e] X.env=(false,eval e X.env)::starEach [] X.env:=by rfl):
  YE X xr (.Call (.Name "len" p) [e] [] pos) (mQ qh q):=by
 (try simp only [zK] at *)
 exact W0 T8 (λ _ _=>jq) N0 hm (by rfl) ha hg (by decide) (by decide) he (by rfl)
theorem jW {q:jt}(h:YF X xr e q):YE X xr e (z7 q):=by
 (try simp only [zK] at *)
 exact PE.imp h z7.read
theorem XG {p p' pos':Pos}(hc:X.calm=true)(hm:X.mg "list" = none)(hm':X.mg "range" = none)(ha:YE X xr a ma)(hg:Gl X "list" := by rfl)(hg':Gl X "range" := by rfl)(hs:starEach [a] X.env=[(false,eval a X.env)]:=by rfl)
  (hs':starEach [.Call (.Name "range" p') [a] [] pos'] X.env=(false,eval (.Call (.Name "range" p') [a] [] pos') X.env)::starEach [] X.env:=by rfl):
  YE X xr (.Call (.Name "list" p) [.Call (.Name "range" p') [a] [] pos'] [] pos) (ZK ma):=by
 (try simp only [zK] at *)
 exact PE.imp (ZA (Rc hc) hg hm (by rfl) (qX (Np hg' hm' (qX ha jL (by rw [hs];rfl)) hs) jL hs') (by decide) (by decide) hs' (by rfl)) λ σ H Q ⟨φ,A,ρ,S,re,h⟩=>by
   refine tM.go S re (zU.mp h) λ w A1 φ1 H1 v h1 l1 S1 q1=>?_
   cases w with
   | int j=>
    obtain rfl:=q1
    dsimp only at h1
    by_cases hj:(jk j&&decide (j.toNat<=zW))=true
    ·rw [if_pos hj] at h1
     rw [Bool.and_eq_true,decide_eq_true_iff] at hj
     refine ⟨j,rfl,λ p hp=>⟨p,j,rfl,jO,Zz hj.1,wD hj.2,λ l hl=>?_⟩⟩
     have ln:Le X.K φ1 H1 φ1 (upd H1 p (.rng 0 j)):=Le.new hp
     have rr:zx X.K φ1 (upd H1 p (.rng 0 j)) ((List.range j.toNat).map λ (i:Nat)=>W.int i) (Zh j.toNat):=by
      have:=(zx.ints (K:=X.K) (φ:=φ1) (H:=upd H1 p (.rng 0 j)) (ns:=(List.range j.toNat).map λ (i:Nat)=>(i:Int)) (vs:=Zh j.toNat)).mpr (by unfold Zh;simp)
      rw [List.map_map] at this
      exact this
     obtain ⟨b1,b2,b3⟩:=gn (S1.lay hp) hl rr
     exact h1 _ _ _ ((l1.trans ln).trans b1) b2 b3
    ·rw [if_neg hj] at h1;exact h1.elim
   | _=>exact h1.elim
theorem qY {mr:Ea}{n:Nat}(h:YA X xr es mr)(hl:ZW mr n)(hn:n<=zW:=by decide):YE X xr (.List es pos) (zY mr):=by
 (try simp only [zK] at *)
 exact MO h λ ρ A ws A' e=>by rw [hl ρ A ws A' e];exact wD hn
theorem KQ {p:Pos}{q:jt}(hc:X.calm=true)(hm:X.mg "max" = none)(ha:YQ X xr e q)(hg:Gl X "max" := by rfl)(he:starEach [e] X.env=(false,eval e X.env)::starEach [] X.env:=by rfl):
  YE X xr (.Call (.Name "max" p) [e] [] pos) (mQ j8 q):=by
 (try simp only [zK] at *)
 exact W0 (RR hc) Mk Nz hm (by rfl) ha hg (by decide) (by decide) he (by rfl)
theorem KY {p:Pos}(hc:X.calm=true)(hm:X.mg "min" = none)(ha:YE X xr a ma)(hb:YE X xr b mb)(hgl:Gl X "min" := by rfl)(h1:starEach [a,b] X.env=(false,eval a X.env)::starEach [b] X.env:=by rfl)(h2:starEach [b] X.env=(false,eval b X.env)::starEach [] X.env:=by rfl)(hpl:(backTo pos (starEach [b] X.env)).any (·.1)=false:=by rfl):
  YE X xr (.Call (.Name "min" p) [a,b] [] pos) (zj gz ma mb):=by
 (try simp only [zK] at *)
 exact WM (Pb hc) gB (λ φ A H x y u v Q S q1 q2 p=>by
   obtain ⟨i,j,e1,e2,q⟩:=gm (K:=X.K) (f:=λ i j=>.int (if j<i then j else i)) (g:=λ i j=>.int (if j<i then j else i)) (λ _ _ _ _=>rfl) φ A H x y u v Q S q1 q2 p
   subst e1;subst e2
   exact ⟨i,j,rfl,q⟩) hm (by rfl) ha hb hgl (by decide) (by decide) h1 h2 hpl
theorem gw (ha:YE X xr a ma)(hb:YE X xr b mb):YE X xr (.BinOp a .Mod b pos) (zj yD ma mb):=by
 (try simp only [zK] at *)
 exact gT Lg WH (Ws NQ λ _ _ _ _=>rfl) ha hb
theorem ka (ha:YE X xr a ma)(hb:YE X xr b mb):YE X xr (.BinOp a .Mult b pos) (zj qU ma mb):=by
 (try simp only [zK] at *)
 exact gT (Mn.or Ld) Ma OZ ha hb
theorem Jo (ha:YE X xr a ma):YE X xr (.UnaryOp .USub a pos) (q9 kJ ma):=by
 (try simp only [zK] at *)
 exact IU Mp (λ x A=>by unfold kJ;split;exact jq;exact qu) (λ φ A H x u Q S q p=>by
  cases u with
  | int i=>obtain rfl:=q;exact ⟨i,rfl,p φ H _ .refl S rfl⟩
  | _=>exact p.elim) ha
theorem Jt {j}:YE X xr (.Constant .none j pos) (zi .non):=by
 (try simp only [zK] at *)
 exact PE.imp Ml λ σ H Q ⟨φ,A,ρ,S,r,h⟩=>h φ H _ .refl S rfl
theorem V6 (ha:YE X xr a ma):YE X xr (.UnaryOp .Not a pos) (qK ma):=by
 (try simp only [zK] at *)
 exact PE.imp (LB ha) λ σ H Q ⟨φ,A,ρ,S,re,h⟩=>by
   refine tM.go S re (zU.mp h) λ w A1 φ1 H1 v h1 l1 S1 q1=>?_
   cases w with
   | bl k=>exact ⟨k,q1,h1 φ1 H1 _ l1 S1 rfl⟩
   | non=>cases h1
   | int _=>cases h1
   | str _=>cases h1
   | tup _=>cases h1
   | ref _=>cases h1
   | clo _ _ _=>cases h1
   | xc _=>cases h1
theorem gU {op}(h:YE X xr a ma):YE X xr (.BoolOp op [a] pos) ma:=by
 (try simp only [zK] at *)
 exact Lz h
theorem kZ (ha:YE X xr a ma)(hb:YE X xr b mb):YE X xr (.BinOp a .Sub b pos) (zj jS ma mb):=by
 (try simp only [zK] at *)
 exact gT MC gB (gm λ _ _ _ _=>rfl) ha hb
theorem zV {x1}{mr:Ea}{n:Nat}(h:YA X xr es mr)(hl:ZW mr n)(hn:n<=zW:=by decide):YE X xr (.Tuple es x1 pos) (zy mr):=by
 (try simp only [zK] at *)
 exact PE.imp (V4 h) λ σ H Q ⟨φ,A,ρ,S,re,h⟩=>by
   have h':=zU.mp h
   cases e:mr ρ A with
   | ok ws A'=>
    rw [e] at h'
    refine ⟨φ,A,ρ,S,re,?_⟩
    rw [e]
    intro φ1 H1 vs l1 S1 q1
    refine ⟨by rw [<- q1.length,hl ρ A ws A' e];exact wD hn,λ p hp=>?_⟩
    obtain ⟨a1,a2,a3⟩:=g7 S1 hp q1
    exact h' _ _ _ (l1.trans a1) a2 a3
   | exc x A'=>rw [e] at h';refine ⟨φ,A,ρ,S,re,?_⟩;rw [e];exact h'
   | bad=>rw [e] at h';exact h'.elim
theorem kC {p:Pos}{q:jt}(hm:X.mg "tuple" = none)(ha:YQ X xr e q)(hg:Gl X "tuple" := by rfl)(he:starEach [e] X.env=(false,eval e X.env)::starEach [] X.env:=by rfl):
  YE X xr (.Call (.Name "tuple" p) [e] [] pos) (mQ jF q):=by
 (try simp only [zK] at *)
 exact L3 Tz (λ _ _=>jq) N9 hm (by rfl) ha hg (by decide) (by decide) he (by rfl)
theorem zl (i:Nat){x:Str}(hN:X.N[i]? =some x:=by rfl)(hv:J3 X.env.scope x:=by first | exact Or.inl rfl | exact Or.inr (Or.inl rfl) | exact Or.inr (Or.inr rfl))(hd:(x==("__debug__" : Str))=false:=by decide)
  (hcd:(x==("__classdict__" : Str))=false:=by decide):YE X xr (.Name x pos) (zc i):=by
 (try simp only [zK] at *)
 exact PE.imp (Mf hN hv hd hcd) λ σ H Q ⟨φ,A,ρ,S,r,h⟩=>by
  unfold zc at h
  cases e:ρ[i]? with
  | none=>rw [e] at h;cases h
  | some o=>cases o with
   | none=>rw [e] at h;cases h
   | some w=>
    rw [e] at h
    obtain ⟨v,h1,h2⟩:=r.get i w e
    exact ⟨v,h1,h φ H v .refl S h2⟩
theorem qI {elt tg iter:Expr}{ifs:List Expr}{gs:List Comprehension}{sc:Scope}{mi:Ei}{tw:Tg}{mf:Ev}{em:Em}{N:List Str}(nl:Nat)(cap:List Nat)(hc:X.calm=true)(S:wF X sc)(hcap:Zc X.N N sc nl cap=true)(hw:YI X xr tg iter mi)
  (hin:∀s H fp,YG (jG X N sc s H fp yn) tg tw/\wt (jG X N sc s H fp yn) ifs mf/\YM (jG X N sc s H fp yn) elt (⟨tg,iter,ifs,0⟩::gs) sc pos 0 em)
  (ha:∀g',gs[0]? =some g'->g'.is_async=0:=by intro _ h;cases h<;>rfl)
  (hs:∀x,foldedSetIterable iter X.env x=pure x:=by intro _;rfl):YF X xr (.ListComp elt (⟨tg,iter,ifs,0⟩::gs) sc pos) (zR nl cap mi tw mf em):=by
 (try simp only [zK] at *)
 exact PE.imp (OU (g:=tG X.K tw) (ti:=tT X.K yW mf) (tm:=tE X.K em) hc S hcap ha hw hin hs) zR.read
theorem Jm (i j:Nat){x y:Str}{p q:Pos}{k:Nat}(hc:X.calm=true)(hN:X.N.Nodup)(hi:X.N[i]? =some x:=by rfl)(hx:Loc X.env.scope x:=by first | exact Or.inl rfl | exact Or.inr rfl)(hf:X.fn x=true∨X.env.scope.names.lookup x=some .local:=by first | exact .inl rfl | exact .inr rfl)
  (hj:X.N[j]? =some y:=by rfl)(hy:Loc X.env.scope y:=by first | exact Or.inl rfl | exact Or.inr rfl)(hg:X.fn y=true∨X.env.scope.names.lookup y=some .local:=by first | exact .inl rfl | exact .inr rfl):YG X (.Tuple [.Name x p,.Name y q] k pos) (wK i j):=by
 (try simp only [zK] at *)
 exact PG.imp (Lc hc (XT (K6 hN hi hx hf) (XT (K6 hN hj hy hg) Nf))) λ v σ H Q ⟨φ,A,ρ,w,ρ',S,re,qq,e,kk⟩=>by
   unfold wK at e
   split at e
   ·rename_i x1 y1
    have e':=Option.some.inj e
    subst e'
    obtain ⟨a,vs,rfl,hs,rs⟩:=qq
    obtain ⟨v1,r1,rfl,h1,v2,r2,rfl,h2,rfl⟩:=rs
    exact ⟨a,[v1,v2],rfl,hs,rfl,v1,[v2],rfl,v2,[],rfl,rfl,kk _ ((re.set h1).set h2)⟩
   ·cases e
theorem qg (i:Nat){x:Str}(hN:X.N.Nodup)(hi:X.N[i]? =some x:=by rfl)(hx:Loc X.env.scope x:=by first | exact Or.inl rfl | exact Or.inr rfl)(hf:X.fn x=true∨X.env.scope.names.lookup x=some .local:=by first | exact .inl rfl | exact .inr rfl):YG X (.Name x pos) (zD i):=by
 (try simp only [zK] at *)
 exact PG.imp (K6 hN hi hx hf) λ v σ H Q ⟨φ,A,ρ,w,ρ',S,re,q,e,k⟩=>by
   have e':ρ.set i (some w)=ρ':=Option.some.inj e
   subst e'
   exact k _ (re.set q)
theorem jQ {tg:Expr}(h:YE X xr e m):YI X xr tg e (qc m):=by
 (try simp only [zK] at *)
 exact PI.imp (MW h) λ σ H Rr ⟨φ,A,ρ,S,re,h⟩=>by
  refine tM.go S re (zU.mp h) λ w A1 φ1 H1 v h1 l1 S1 q1=>?_
  unfold JT at h1
  cases e:zT w A1 with
  | none=>rw [e] at h1;exact h1.elim
  | some ws=>
   rw [e] at h1
   dsimp only at h1
   cases w with
   | tup us=>
    obtain ⟨a,ys,rfl,e2,e3⟩:=q1
    refine ⟨a,rfl,.inr ⟨⟨ys,e2⟩,h1 φ1 H1 _ l1 S1 λ i φ' H' A' lw S'=>⟨λ w' ew=>?_,λ ew=>?_⟩⟩⟩
    ·have ew':us[i]? =some w':=Option.some.inj ew
     obtain ⟨y,h3,h4⟩:=(e3.monoW lw).get ew'
     refine ⟨⟨ys,y,lw.tp _ _ e2,h3⟩,λ x H3 yl=>?_⟩
     obtain ⟨e5,e6⟩:=yl
     subst e5
     have e7:=e6 ys (lw.tp _ _ e2)
     rw [h3] at e7;cases e7
     exact ⟨.refl,S',h4⟩
    ·have ew':us[i]? =none:=Option.some.inj ew
     refine ⟨ys,lw.tp _ _ e2,?_⟩
     rw [<- e3.length]
     exact List.getElem?_eq_none_iff.mp ew'
   | ref n=>
    obtain ⟨a,rfl,e2⟩:=q1
    have read:∀{φ' H' A' us},wX X.K φ1 H1 φ' H'->zF X.K φ' A' H'->zT (.ref n) A'=some us->∃ys,qx X.K H' a ys/\zx X.K φ' H' us ys:=λ {φ' H' A' us} lw S' es=>by
     obtain ⟨a',ys,ea,z,r⟩:=Q5 (w:=.ref n) (v:=.ref a) S' ⟨a,rfl,lw.ex _ _ e2⟩ es
     cases ea
     unfold zT at es
     dsimp only at es
     cases ec:A'[n]? with
     | none=>rw [ec] at es;cases es
     | some o=>
      rw [ec] at es
      obtain ⟨a',e3,r⟩:=S'.ob n o ec
      rw [lw.ex _ _ e2] at e3;cases e3
      cases o with
      | lst xs=>cases es;obtain ⟨ys,h1,h2⟩:=r;exact ⟨ys,qx.of h1,h2⟩
      | ro xs=>cases es;obtain ⟨ys,h1,h2⟩:=r;exact ⟨ys,h1.sq,h2⟩
      | dct xs=>cases es
      | tab _ _=>cases es
    obtain ⟨ys0,hq0,_⟩:=read ⟨λ _ _ h=>h,λ _ _ h=>h,λ _ _ _ h=>h⟩ S1 e
    refine ⟨a,rfl,.inl ⟨⟨ys0,hq0⟩,h1 φ1 H1 _ l1 S1 λ i φ' H' A' lw S'=>⟨λ w' ew=>?_,λ ew=>?_⟩⟩⟩
    ·dsimp only at ew
     cases es:zT (.ref n) A' with
     | none=>rw [es] at ew;cases ew
     | some us=>
      rw [es] at ew
      have ew':us[i]? =some w':=Option.some.inj ew
      obtain ⟨ys,hq,r⟩:=read lw S' es
      obtain ⟨y,h3,h4⟩:=r.get ew'
      refine ⟨⟨ys,y,hq,h3⟩,λ x H3 yl=>?_⟩
      obtain ⟨e5,e6⟩:=yl
      subst e5
      have e7:=e6 ys hq
      rw [h3] at e7;cases e7
      exact ⟨.refl,S',h4⟩
    ·dsimp only at ew
     cases es:zT (.ref n) A' with
     | none=>rw [es] at ew;cases ew
     | some us=>
      rw [es] at ew
      have ew':us[i]? =none:=Option.some.inj ew
      obtain ⟨ys,hq,r⟩:=read lw S' es
      refine ⟨ys,hq,?_⟩
      rw [<- r.length]
      exact List.getElem?_eq_none_iff.mp ew'
   | non=>cases e
   | bl _=>cases e
   | clo _ _ _=>cases e
   | xc _=>cases e
   | int _=>cases e
   | str _=>cases e
theorem Vj {elts:List Expr}{kk:Nat}{tpos p:Pos}(hg:Gl X "enumerate")(hm:X.mg "enumerate" = none)(ha:YE X xr a ma)(hs:starEach [a] X.env=[(false,eval a X.env)]:=by rfl):YI X xr (.Tuple elts kk tpos) (.Call (.Name "enumerate" p) [a] [] pos) (ZS ma):=by
 (try simp only [zK] at *)
 exact PI.imp (ON hg hm (qX ha jL (by rw [hs];rfl)) hs) λ σ H Rr ⟨φ,A,ρ,S,re,h⟩=>by
   refine tM.go S re (zU.mp h) λ w A1 φ1 H1 v h1 l1 S1 q1=>?_
   cases es:zT w A1 with
   | none=>rw [es] at h1;exact h1.elim
   | some ws=>
    rw [es] at h1
    obtain ⟨p,ys,rfl,z1,z2⟩:=Jf S1 q1 es
    exact ⟨p,gA w,ys,rfl,z1,h1 φ1 H1 _ l1 S1 (IQ q1)⟩
theorem jv {tg:Expr}{p:Pos}(hg:Gl X "range")(hm:X.mg "range" = none)(ha:YE X xr a ma)(hs:starEach [a] X.env=[(false,eval a X.env)]:=by rfl):YI X xr tg (.Call (.Name "range" p) [a] [] pos) (qB ma):=by
 (try simp only [zK] at *)
 exact PI.imp (RW hg hm (qX ha jL (by rw [hs];rfl)) hs) λ σ H Rr ⟨φ,A,ρ,S,re,h⟩=>by
   refine tM.go S re (zU.mp h) λ w A1 φ1 H1 v h1 l1 S1 q1=>?_
   cases w with
   | int j=>
    obtain rfl:=q1
    dsimp only at h1
    by_cases hj:jk j=true
    ·rw [if_pos hj] at h1
     obtain ⟨b1,b2⟩:=Zz hj
     exact ⟨j,rfl,b1,b2,h1 φ1 H1 _ l1 S1 Lu⟩
    ·rw [if_neg hj] at h1;exact h1.elim
   | non=>exact h1.elim
   | bl _=>exact h1.elim
   | str _=>exact h1.elim
   | tup _=>exact h1.elim
   | ref _=>exact h1.elim
   | clo _ _ _=>exact h1.elim
   | xc _=>exact h1.elim
theorem LA {elts:List Expr}{kk:Nat}{tpos p:Pos}(hg:Gl X "zip")(hm:X.mg "zip" = none)(ha:YE X xr a ma)(hb:YE X xr b mb)(hs:starEach [a,b] X.env=(false,eval a X.env)::starEach [b] X.env:=by rfl)(hs2:starEach [b] X.env=(false,eval b X.env)::starEach [] X.env:=by rfl)(hp:(backTo pos (starEach [b] X.env)).any (·.1)=false:=by rfl):
  YI X xr (.Tuple elts kk tpos) (.Call (.Name "zip" p) [a,b] [] pos) (Uu ma mb):=by
 (try simp only [zK] at *)
 exact PI.imp (Me hg hm (qX ha (qX hb jL hs2) hs) hs hp) λ σ H Rr ⟨φ,A,ρ,S,re,h⟩=>by
   refine tM.go S re (zU.mp h) λ w A1 φ1 H1 v h1 l1 S1 q1=>?_
   refine tM.go S1 (re.mono l1) (qe (zU.mp h1) (λ _ _ z=>z) λ _ _ z=>z.mono l1) λ w2 A2 φ2 H2 v2 h2 l2 S2 q2=>?_
   cases es:zT w A2 with
   | none=>rw [es] at h2;exact h2.elim
   | some us=>
    cases es':zT w2 A2 with
    | none=>rw [es,es'] at h2;exact h2.elim
    | some vs=>
     rw [es,es'] at h2
     have q1':=q1.mono l2
     obtain ⟨p,xs,rfl,z1,z2⟩:=Jf S2 q1' es
     obtain ⟨p',ys,rfl,z3,z4⟩:=Jf S2 q2 es'
     exact ⟨p,p',gA w,gA w2,xs,ys,rfl,z1,z3,h2 φ2 H2 _ (l1.trans l2) S2 (L1 q1' q2)⟩
theorem qA {elt:Expr}{gens:List Comprehension}{sc:Scope}{d:Nat}{me:Ev}(hx:∀e s,X.xe e s->False)(he:YE X yW elt me)(hg:gens[d+1]? =none):YM X elt gens sc pos d (zN me):=by
 (try simp only [zK] at *)
 exact yP.imp (Of hx he hg) λ D σ H Q ⟨φ,A,ρ,acc,ys,S,re,hD,nD,ra,h⟩=>by
   refine tM.go S re (KI (zU.mp h)) λ w A1 φ1 H1 v h1 l1 S1 q1=>?_
   obtain ⟨d1,n1⟩:=l1.off hD nD
   by_cases hz:acc.length<zW
   ·rw [if_pos hz] at h1
    have hl:=ra.length
    refine ⟨ys,d1,?_,?_⟩
    ·rw [<- hl]
     have:sizeLine=16777216:=sizeLine_eq
     unfold zW at hz
     omega
    ·exact h1 φ1 _ σ _ (l1.toD.trans (j4.upd d1)) n1 (S1.off d1 n1) ⟨re.len,λ i w e=>let ⟨v,a,b⟩:=re.get i w e;⟨v,a,(b.mono l1).monoD (j4.upd d1)⟩⟩ jO
      (((ra.mono l1).monoD (j4.upd d1)).append (.one (q1.monoD (j4.upd d1))))
   ·rw [if_neg hz] at h1;exact h1.elim
theorem LP {elt tg iter:Expr}{ifs:List Expr}{gens:List Comprehension}{sc:Scope}{d:Nat}{mi:Ei}{tw:Tg}{mf:Ev}{em:Em}(hx:∀e s,X.xe e s->False)(hc:X.calm=true)(hg:gens[d+1]? =some ⟨tg,iter,ifs,0⟩)(ha:∀g',gens[d+2]? =some g'->g'.is_async=0)
  (hw:YI X yW tg iter mi)(hgt:YG X tg tw)(hi:wt X ifs mf)(hm:YM X elt gens sc pos (d+1) em)(hs:∀x,foldedSetIterable iter X.env x=pure x:=by intro _;rfl):YM X elt gens sc pos d (ZR mi tw mf em):=by
 (try simp only [zK] at *)
 exact yP.imp (Pj hx hc hg ha hw hgt hi hm hs) λ D σ H Q ⟨φ,A,ρ,acc,ys,S,re,hD,nD,ra,h⟩=>by
   refine ⟨φ,A,ρ,S,re,qe (KI (zU.mp h)) (λ j A1 h1 φ1 H1 J l1 S1 jr=>?_) λ _ _ z=>z⟩
   obtain ⟨d1,n1⟩:=l1.off hD nD
   exact jn.read jr S1 (re.mono l1) d1 n1 (ra.mono l1) (qe h1 (λ p A2 h2 φ2 H2 σ2 zs l2 n2 S2 re2 d2 r2=>h2 φ2 H2 σ2 zs (l1.toD.trans l2) n2 S2 re2 d2 r2) λ _ _ z=>z)
theorem jl (h:YE X xr e m):YQ X xr e (zS m):=by
 (try simp only [zK] at *)
 exact PE.imp h λ σ H Q ⟨φ,A,ρ,S,re,h⟩=>by
  refine tM.go S re (zU.mp h) λ w A1 φ1 H1 v h1 l1 S1 q1=>?_
  cases e:zT w A1 with
  | none=>rw [e] at h1;exact h1.elim
  | some ws=>
   rw [e] at h1
   obtain ⟨a,ys,rfl,e2,e3⟩:=Q5 S1 q1 e
   exact h1 φ1 H1 a ys l1 S1 e2 e3
theorem yw {q:jt}(h:YF X xr e q):YQ X xr e q:=by
 (try simp only [zK] at *)
 exact PE.imp h λ σ H Q ⟨φ,A,ρ,S,re,h⟩=>
  ⟨φ,A,ρ,S,re,qe h (λ ws A1 h1 φ1 H1 D ys l1 S1 h0 hD nD r=>h1 φ1 H1 D ys l1 S1 (.inl (qx.of hD)) r) λ _ _ z=>z⟩
theorem zw (h1:YS X xr st m1)(h2:yN X xr rest m2):yN X xr (st::rest) (zr m1 m2):=by
 (try simp only [zK] at *)
 exact yj.imp (P0 h1 h2) λ D σ H ⟨φ,A,ρ,S,re,h⟩=>by
   refine ⟨φ,A,ρ,S,re,qe (zU.mp h) (λ fl A1 h1=>?_) λ _ _ z=>z⟩
   cases fl with
   | nx ρ1=>exact λ φ' H' σ' l S' r'=>⟨φ',A1,ρ1,S',r',qe h1 (λ _ _ z=>z.mono l) λ _ _ z=>z.mono l⟩
   | rt w=>exact h1
   | bk ρ1=>exact h1
   | ct ρ1=>exact h1
theorem KW (he:YE X xr e m)(hs:swapsWith e none pos.line X.env=pure false:=by rfl):YS X xr (.Expr e pos) (Zo m):=by
 (try simp only [zK] at *)
 exact PS.imp (Ny he hs) λ D σ H ⟨φ,A,ρ,S,re,h⟩=>tM.go S re (zU.mp h) λ w A1 φ1 H1 v h1 l1 S1 q1=>h1 φ1 H1 σ l1 S1 (re.mono l1)
theorem kE {tg iter:Expr}{body:List Stmt}{mi:Ei}{tw:Tg}(hp:PassesOwn (model X.prog X.w) X.A X.env X.xe)(hc:X.calm=true)(hi:YI X xr tg iter mi)(hg:YG X tg tw)(hb:yN X xr body m1)
  (hs:∀x,foldedSetIterable iter X.env x=pure x:=by intro _;rfl):YS X xr (.For tg iter body [] pos) (jZ mi tw m1):=by
 (try simp only [zK] at *)
 exact PS.imp (M3 hp hc hi hg hb hs) λ D σ H ⟨φ,A,ρ,S,re,h⟩=>by
   refine ⟨φ,A,ρ,S,re,qe (zU.mp h) (λ j A1 h1 φ1 H1 J l1 S1 jr=>?_) λ _ _ z=>z⟩
   refine ⟨λ i f σ' H'=>UQ X.K xr j (turn tw m1) D φ1 H1 f i σ' H',
    ⟨j.len,φ1,A1,ρ,.refl,S1,re.mono l1,qe h1 (λ _ _ z=>z.mono l1) λ _ _ z=>z.mono l1⟩,?_⟩
   rintro i f σ2 H2 ⟨φ2,A2,ρ2,l2,S2,re2,h2⟩
   obtain ⟨j1,j2⟩:=jr i φ2 H2 A2 ⟨l2.ex,l2.tp,l2.fz⟩ S2
   cases ej:j.at_ A2 i with
   | none=>cases f<;>(unfold jC at h2;rw [ej] at h2;exact h2.elim)
   | some o=>
    cases o with
    | none=>
     left
     refine ⟨j2 ej,?_⟩
     cases f<;>(unfold jC at h2;rw [ej] at h2;exact h2 φ2 H2 σ2 .refl S2 re2)
    | some w=>
     right
     obtain ⟨go,yl⟩:=j1 w ej
     cases f with
     | zero=>unfold jC at h2;rw [ej] at h2;exact h2.elim
     | succ f=>
      unfold jC at h2
      rw [ej] at h2
      refine ⟨go,λ σ' H'=>UQ X.K xr j (turn tw m1) D φ1 H1 f (i+1) σ' H',λ σ' H' z=>⟨f,Nat.lt_succ_self _,z⟩,λ x H3 y=>?_⟩
      obtain ⟨l3,S3,q3⟩:=yl x H3 y
      have h3:=zU.mp h2
      unfold turn at h3
      cases et:tw w ρ2 with
      | none=>rw [et] at h3;exact h3.elim
      | some ρ3=>
       rw [et] at h3
       refine ⟨φ2,A2,ρ2,w,ρ3,S3,re2.mono l3,q3,et,λ σ3 re3=>?_⟩
       refine ⟨φ2,A2,ρ3,S3,re3,qe h3 (λ fl A4 h4=>?_) λ _ _ z=>z.mono l3⟩
       cases fl with
       | nx ρ4=>exact λ φ4 H4 σ4 l4 S4 re4=>⟨φ4,A4,ρ4,(l2.trans l3).trans l4,S4,re4,qe h4 (λ _ _ z=>z.mono (l3.trans l4)) λ _ _ z=>z.mono (l3.trans l4)⟩
       | ct ρ4=>exact λ φ4 H4 σ4 l4 S4 re4=>⟨φ4,A4,ρ4,(l2.trans l3).trans l4,S4,re4,qe h4 (λ _ _ z=>z.mono (l3.trans l4)) λ _ _ z=>z.mono (l3.trans l4)⟩
       | bk ρ4=>exact λ φ4 H4 σ4 l4 S4 re4=>h4 φ4 H4 σ4 (l3.trans l4) S4 re4
       | rt w4=>exact λ φ4 H4 v4 l4 S4 q4=>h4 φ4 H4 v4 (l3.trans l4) S4 q4
theorem jD {sa sb:List Stmt}(hc:YT X xr c mc)(ha:yN X xr sa m1)(hb:yN X xr sb m2):YS X xr (.If c sa sb pos) (qw mc m1 m2):=by
 (try simp only [zK] at *)
 exact PS.imp (Io hc ha hb) λ D σ H ⟨φ,A,ρ,S,re,h⟩=>by
   refine tT.go S re (zU.mp h) λ w A1 h1=>?_
   cases w with
   | bl k=>
    refine ⟨k,rfl,λ φ1 H1 l1 S1=>?_⟩
    cases k with
    | true=>rw [if_pos rfl];exact ⟨φ1,A1,ρ,S1,re.mono l1,qe h1 (λ _ _ z=>z.mono l1) λ _ _ z=>z.mono l1⟩
    | false=>rw [if_neg Bool.false_ne_true];exact ⟨φ1,A1,ρ,S1,re.mono l1,qe h1 (λ _ _ z=>z.mono l1) λ _ _ z=>z.mono l1⟩
   | non=>cases h1
   | int _=>cases h1
   | str _=>cases h1
   | tup _=>cases h1
   | ref _=>cases h1
   | clo _ _ _=>cases h1
   | xc _=>cases h1
theorem zI:yN X xr [] zB:=by
 (try simp only [zK] at *)
 exact yj.imp Nc λ D σ H ⟨φ,A,ρ,S,re,h⟩=>h φ H σ .refl S re
theorem qp (he:YE X xr e m):YS X xr (.Return (some e) pos) (z8 m):=by
 (try simp only [zK] at *)
 exact PS.imp (LU he) λ D σ H ⟨φ,A,ρ,S,re,h⟩=>tM.go S re (zU.mp h) λ w A1 φ1 H1 v h1 l1 S1 q1=>h1 φ1 H1 v l1 S1 q1
theorem qt (i:Nat){x:Str}{pos':Pos}(hN:X.N.Nodup)(he:YE X xr e m)(hi:X.N[i]? =some x:=by rfl)(hx:Loc X.env.scope x:=by first | exact Or.inl rfl | exact Or.inr rfl)(hs:swapsWith e (some (.Name x pos')) pos.line X.env=pure false:=by rfl)
  (hf:X.fn x=true∨X.env.scope.names.lookup x=some .local:=by first | exact .inl rfl | exact .inr rfl):YS X xr (.Assign [.Name x pos'] e pos) (zX i m):=by
 (try simp only [zK] at *)
 exact PS.imp (MD hN hi hx he hs hf) zX.read
theorem Xm (i:Nat){x:Str}{elt tg iter:Expr}{ifs:List Expr}{gs:List Comprehension}{sc:Scope}{mi:Ei}{tw:Tg}{mf:Ev}{em:Em}{N:List Str}{px spos:Pos}(nl:Nat)(cap:List Nat)(hN:X.N.Nodup)
  (hc:X.calm=true)(S:wF X sc)(hcap:Zc X.N N sc nl cap=true)(hw:YI X xr tg iter mi)
  (hin:∀s H fp,YG (jG X N sc s H fp yn) tg tw/\wt (jG X N sc s H fp yn) ifs mf/\YM (jG X N sc s H fp yn) elt (⟨tg,iter,ifs,0⟩::gs) sc pos 0 em)
  (hi':X.N[i]? =some x:=by rfl)(hx:X.env.scope.names.lookup x=some .local:=by rfl)
  (hsw:swapsWith (.ListComp elt (⟨tg,iter,ifs,0⟩::gs) sc pos) (some (.Name x px)) spos.line X.env=pure true:=by rfl)
  (ha:∀g',gs[0]? =some g'->g'.is_async=0:=by intro _ h;cases h<;>rfl)
  (hs:∀x,foldedSetIterable iter X.env x=pure x:=by intro _;rfl):YS X xr (.Assign [.Name x px] (.ListComp elt (⟨tg,iter,ifs,0⟩::gs) sc pos) spos) (zX i (z7 (zR nl cap mi tw mf em))):=by
 (try simp only [zK] at *)
 exact PS.imp (L2.Ra (g:=tG X.K tw) (ti:=tT X.K yW mf) (tm:=tE X.K em) hN hi' hx hsw hc S hcap ha hw hin hs) λ D σ H h=>zR.read σ H _ (z7.read σ H _ (zX.read D σ H h))
theorem gg (h:YW X xr e m):YT X xr e m:=by
 (try simp only [zK] at *)
 exact PW.pt h
theorem jE {op:CmpOp}{g:W->W->Hx->R W}(h:yC X op g)(ha:YE X xr a ma)(hb:YE X xr b mb)(h1:op≠.In:=by decide)(h2:op≠.NotIn:=by decide):YT X xr (.Compare a [op] [b] pos) (zj g ma mb):=by
 (try simp only [zK] at *)
 exact let ⟨r,a1,a2,a3⟩:=h.ex;V2 a1 a2 a3 ha hb (h.mks b h1 h2)
theorem Wy {op op':CmpOp}{g g':W->W->Hx->R W}(h:yC X op g)(h':yC X op' g')(ha:YE X xr a ma)(hb:YE X xr b mb)(hc:YE X xr c mc)(hm:lastMarks [op,op'] [b,c]=false:=by with_unfolding_all rfl):
  YT X xr (.Compare a [op,op'] [b,c] pos) (jw g g' ma mb mc):=by
 (try simp only [zK] at *)
 exact let ⟨r,a1,a2,a3⟩:=h.ex;let ⟨r',b1,b2,b3⟩:=h'.ex;PK a1 a2 a3 b1 b2 b3 ha hb hc hm
theorem Iv {op:CmpOp}{g:W->W->Hx->R W}(h:Gj X op g)(ha:YE X xr a ma)(hb:YE X xr b mb)(hm:behindInMarks op b=false:=by rfl):YT X xr (.Compare a [op] [b] pos) (zj g ma mb):=by
 (try simp only [zK] at *)
 exact let ⟨r,a1,a2,a3⟩:=h.ex;V2 a1 a2 a3 ha hb hm
theorem wH (ha:YT X xr a ma):YT X xr (.UnaryOp .Not a pos) (qK ma):=by
 (try simp only [zK] at *)
 exact PT.imp (Md ha) λ σ H Q ⟨φ,A,ρ,S,re,h⟩=>by
   refine tT.go S re (zU.mp h) λ w A1 h1=>?_
   cases w with
   | bl k=>obtain ⟨b,e,q⟩:=h1;cases e;exact ⟨k,rfl,λ φ1 H1 l1 S1=>q φ1 H1 l1 S1⟩
   | non=>cases h1
   | int _=>cases h1
   | str _=>cases h1
   | tup _=>cases h1
   | ref _=>cases h1
   | clo _ _ _=>cases h1
   | xc _=>cases h1
theorem gr (h:YE X xr e m)(he:∀whole,isTrue e X.env whole=(do let v <- whole;standAt e.pos;holding [v] (truthy v)):=by intro _;rfl):YT X xr e m:=by
 (try simp only [zK] at *)
 exact PT.imp (Lq h he) λ σ H Q h=>h.toM
theorem qE:wt X [] (zi (.bl true)):=by
 (try simp only [zK] at *)
 exact λ pins s σ H Q I ⟨φ,A,ρ,S,re,h⟩=>Pu pins s σ H Q I (by
  obtain ⟨b,e,q⟩:=h
  cases e
  exact q φ H .refl S)
theorem Vn (h:YT X yW c mc):wt X [c] mc:=by
 (try simp only [zK] at *)
 exact P1 h
theorem My {rest:List Expr}(ha:YT X xr a ma)(hb:YW X xr (.BoolOp .And (b::rest) pos) mb):YW X xr (.BoolOp .And (a::b::rest) pos) (yx ma mb):=by
 (try simp only [zK] at *)
 exact PW.imp (pw_and ha hb) λ σ H Q ⟨φ,A,ρ,S,re,h⟩=>by
   refine tT.go S re (zU.mp h) λ w A1 h1=>?_
   cases w with
   | bl k=>
    refine ⟨k,rfl,λ φ1 H1 l1 S1=>?_⟩
    cases k with
    | true=>rw [if_pos rfl];exact tT.mono S1 l1 re h1
    | false=>rw [if_neg Bool.false_ne_true];obtain ⟨b,e,q⟩:=h1;cases e;exact q φ1 H1 l1 S1
   | non=>cases h1
   | int _=>cases h1
   | str _=>cases h1
   | tup _=>cases h1
   | ref _=>cases h1
   | clo _ _ _=>cases h1
   | xc _=>cases h1
theorem Nr (ha:YT X xr a ma):YW X xr (.BoolOp .And [a] pos) ma:=by
 (try simp only [zK] at *)
 exact pw_and1 ha
theorem Zb {rest:List Expr}(ha:YT X xr a ma)(hb:YW X xr (.BoolOp .Or (b::rest) pos) mb):YW X xr (.BoolOp .Or (a::b::rest) pos) (jH ma mb):=by
 (try simp only [zK] at *)
 exact PW.imp (pw_or ha hb) λ σ H Q ⟨φ,A,ρ,S,re,h⟩=>by
   refine tT.go S re (zU.mp h) λ w A1 h1=>?_
   cases w with
   | bl k=>
    refine ⟨k,rfl,λ φ1 H1 l1 S1=>?_⟩
    cases k with
    | false=>rw [if_neg Bool.false_ne_true];exact tT.mono S1 l1 re h1
    | true=>rw [if_pos rfl];obtain ⟨b,e,q⟩:=h1;cases e;exact q φ1 H1 l1 S1
   | non=>cases h1
   | int _=>cases h1
   | str _=>cases h1
   | tup _=>cases h1
   | ref _=>cases h1
   | clo _ _ _=>cases h1
   | xc _=>cases h1
theorem gZ (ha:YT X xr a ma):YW X xr (.BoolOp .Or [a] pos) ma:=by
 (try simp only [zK] at *)
 exact pw_or1 ha
theorem yb {P:Program}{w:World}{K:Frag}{mg:Str->Option Value}{base:Heap}{x:Str}{st:Stmt}{f:Addr}{fd:FuncData}{N ps:List Str}{k:Nat}{m:Ex}(F:jd K x x st f fd)(hm:mg x=some (.ref f))(S:ju N ps (qH st))
  (hb:∀(kV doc pm:Value) (an:Option Addr) (cdv ct:Value) (us:List Value),us.length=ps.length->bindArgs (PySem.W.fnOf x x (gQ st) (kX st) (qH st) .none kV doc pm an cdv ct) ⟨us,[]⟩=pure (ps.zip us))
  (hbody:∀(cdv:Value) (A:Around) (outer:List Env) (s:Shared) (H:Hp) (E:XK),jo k (A.deeper (envOfC x (qH st) s.heap.objs.size f cdv))->yN (gF ku P w K mg base N x (qH st) f cdv A outer s H E).nox yW (kX st) m):
  zM P w K mg base (k+1) x ps.length (qi N.length m):=by
 (try simp only [zK] at *)
 refine ⟨f,fd,ps,?_,hm,F.kp,F.binds hb⟩
 refine F.ok S (λ vs H Q E h=>h.len) λ cdv A outer s H vs Q E hr ⟨hl,φ,A1,ws,Sm,r,h⟩=>⟨_,hbody cdv A outer s H E hr,?_⟩
 refine ⟨φ,A1,ws.map some++List.replicate (N.length - ws.length) none,Sm,RE.start r,?_⟩
 have h':=zU.mp h
 show R.post _ (FB K φ H _) _
 cases er:m (ws.map some++List.replicate (N.length - ws.length) none) A1 with
 | ok fl A2=>
  rw [er] at h'
  cases fl with
  | rt w=>exact h'
  | nx ρ=>exact λ φ' H' σ' l S' _=>h' φ' H' .non l S' rfl
  | bk ρ=>exact h'.elim
  | ct ρ=>exact h'.elim
 | exc y A2=>
  rw [er] at h'
  exact h'.elim
 | bad=>rw [er] at h';exact h'.elim
theorem HG {P:Program}{w:World}{K:Frag}{mg:Str->Option Value}{base:Heap}{x:Str}{st:Stmt}{f:Addr}{fd:FuncData}{N ps:List Str}{k:Nat}{m:Ex}(F:jd K x x st f fd)(S:ju N ps (qH st))
  (hbody:∀(cdv:Value) (A:Around) (outer:List Env) (s:Shared) (H:Hp) (E:XK),jo k (A.deeper (envOfC x (qH st) s.heap.objs.size f cdv))->yN (gF ku P w K mg base N x (qH st) f cdv A outer s H E).nox yW (kX st) m):
  yi P w K mg base ku (k+1) f fd ps (wW K ps.length (qi N.length m)):=by
 (try simp only [zK] at *)
 refine F.ok S (λ vs H Q E h=>h.len) λ cdv A outer s H vs Q E hr ⟨hl,φ,A1,ws,Sm,r,h⟩=>⟨_,hbody cdv A outer s H E hr,?_⟩
 refine ⟨φ,A1,ws.map some++List.replicate (N.length - ws.length) none,Sm,RE.start r,?_⟩
 have h':=zU.mp h
 show R.post _ (FB K φ H _) _
 cases er:m (ws.map some++List.replicate (N.length - ws.length) none) A1 with
 | ok fl A2=>
  rw [er] at h'
  cases fl with
  | rt w=>exact h'
  | nx ρ=>exact λ φ' H' σ' l S' _=>h' φ' H' .non l S' rfl
  | bk ρ=>exact h'.elim
  | ct ρ=>exact h'.elim
 | exc y A2=>rw [er] at h';exact h'.elim
 | bad=>rw [er] at h';exact h'.elim
theorem Wj {p:Pos}(hm:X.mg "abs" = none)(ha:YE X xr e m)(hgl:Gl X "abs" := by rfl)(he:starEach [e] X.env=(false,eval e X.env)::starEach [] X.env:=by rfl):YE X xr (.Call (.Name "abs" p) [e] [] pos) (q9 QA m):=by
 (try simp only [zK] at *)
 exact IA Oe (λ w A=>by unfold QA;split;exact jq;exact qu) (λ φ A H x u Q S q p=>by
   cases u with
   | int i=>obtain rfl:=q;exact ⟨i,rfl,p φ H _ .refl S rfl⟩
   | _=>exact p.elim) hm (by rfl) ha hgl (by decide) (by decide) he (by rfl)
theorem Ks {apos cpos:Pos}(ho:YE X xr a ma)(he:YE X xr b mb)(hs:starEach [b] X.env=(false,eval b X.env)::starEach [] X.env:=by rfl)
  (hbase:attributeBase a "append" X.env (eval a X.env)=eval a X.env:=by rfl)
  (hfew:((backTo cpos (starEach [b] X.env)).all (λ x=>!x.1)&&(backToKw cpos (keywordEach [] X.env)).all (λ x=>x.1.isSome)
   && decide ([b].length+([]:List Keyword).length+(if ([]:List Keyword).isEmpty then 0 else 1)<30))=true:=by rfl)(hline:(apos.endLine==cpos.line)=true:=by rfl):
  YE X xr (.Call (.Attribute a "append" apos) [b] [] cpos) (yF kD ma mb):=by
 (try simp only [zK] at *)
 exact W3 PySem.F.slot_list_append PySem.F.type_list_append XB RI (λ φ A H x y u v Q S q1 q2 p=>by
   unfold kD at p
   cases u with
   | ref n=>
    dsimp only at p
    cases e1:A[n]? with
    | none=>rw [e1] at p;exact p.elim
    | some o=>cases o with
     | lst ws=>
      rw [e1] at p
      dsimp only at p
      by_cases hz:ws.length<zW
      ·rw [if_pos hz] at p
       obtain ⟨l,vs,rfl,f1,g1,r1⟩:=S.lst q1 e1
       refine ⟨l,vs,y,rfl,rfl,g1,?_,?_⟩
       ·rw [<- r1.length]
        have:sizeLine=16777216:=sizeLine_eq
        unfold zW at hz
        omega
       ·have ln:Le X.K φ H φ (upd H l (.lst (vs++[y]))):=Le.upd f1 (λ xs z=>by rw [g1] at z;cases z) (λ _ _ z=>by rw [g1] at z;cases z)
        obtain ⟨w1,w2⟩:=S.write (o:=.lst ws) (o':=.lst (ws++[v])) e1 rfl rfl f1 ⟨_,jO,(r1.mono ln).append (.one (q2.mono ln))⟩
        exact p _ _ _ w1 w2 rfl
      ·rw [if_neg hz] at p;exact p.elim
     | _=>rw [e1] at p;exact p.elim
   | _=>exact p.elim) ho he hs hbase hfew hline
theorem ZE {p:Pos}(hm:X.mg "int" = none)(ha:YE X xr e m)(hgl:Gl X "int" := by rfl)(he:starEach [e] X.env=(false,eval e X.env)::starEach [] X.env:=by rfl):YE X xr (.Call (.Name "int" p) [e] [] pos) (q9 wO m):=by
 (try simp only [zK] at *)
 exact LV Ph (λ w A=>by unfold wO;split;exact jq;exact jq;exact qu) (λ φ A H x u Q S q p=>by
   cases u with
   | int i=>obtain rfl:=q;exact .inl ⟨i,rfl,p φ H _ .refl S rfl⟩
   | bl k=>obtain rfl:=q;exact .inr ⟨k,rfl,p φ H _ .refl S rfl⟩
   | _=>exact p.elim) hm (by rfl) ha hgl (by decide) (by decide) he (by rfl)
theorem OQ {p:Pos}(hc:X.calm=true)(hm:X.mg "max" = none)(ha:YE X xr a ma)(hb:YE X xr b mb)(hgl:Gl X "max" := by rfl)(h1:starEach [a,b] X.env=(false,eval a X.env)::starEach [b] X.env:=by rfl)(h2:starEach [b] X.env=(false,eval b X.env)::starEach [] X.env:=by rfl)(hpl:(backTo pos (starEach [b] X.env)).any (·.1)=false:=by rfl):
  YE X xr (.Call (.Name "max" p) [a,b] [] pos) (zj W2 ma mb):=by
 (try simp only [zK] at *)
 exact WM (Rq hc) gB (λ φ A H x y u v Q S q1 q2 p=>by
   obtain ⟨i,j,e1,e2,q⟩:=gm (K:=X.K) (f:=λ i j=>.int (if j > i then j else i)) (g:=λ i j=>.int (if j > i then j else i)) (λ _ _ _ _=>rfl) φ A H x y u v Q S q1 q2 p
   subst e1;subst e2
   exact ⟨i,j,rfl,q⟩) hm (by rfl) ha hb hgl (by decide) (by decide) h1 h2 hpl
theorem P5 {apos cpos:Pos}(ho:YE X xr a ma)(he:YE X xr b mb)(hs:starEach [b] X.env=(false,eval b X.env)::starEach [] X.env:=by rfl)
  (hbase:attributeBase a "pop" X.env (eval a X.env)=eval a X.env:=by rfl)
  (hfew:((backTo cpos (starEach [b] X.env)).all (λ x=>!x.1)&&(backToKw cpos (keywordEach [] X.env)).all (λ x=>x.1.isSome)
   && decide ([b].length+([]:List Keyword).length+(if ([]:List Keyword).isEmpty then 0 else 1)<30))=true:=by rfl)(hline:(apos.endLine==cpos.line)=true:=by rfl):
  YE X xr (.Call (.Attribute a "pop" apos) [b] [] cpos) (yF k9 ma mb):=by
 (try simp only [zK] at *)
 exact W3 PySem.F.slot_list_pop PySem.F.type_list_pop PC Ox (λ φ A H x y u v Q S q1 q2 p=>by
   unfold k9 at p
   cases u with
   | ref n=>cases v with
    | int i=>
     obtain rfl:=q2
     dsimp only at p
     cases e1:A[n]? with
     | none=>rw [e1] at p;exact p.elim
     | some o=>cases o with
      | lst ws=>
       rw [e1] at p
       dsimp only at p
       by_cases hz:jk i=true
       ·rw [if_pos hz] at p
        obtain ⟨b1,b2⟩:=Zz hz
        cases e2:seqIndex? i ws.length with
        | none=>rw [e2] at p;exact p.elim
        | some k=>
         rw [e2] at p
         dsimp only at p
         cases e3:ws[k]? with
         | none=>rw [e3] at p;exact p.elim
         | some w=>
          rw [e3] at p
          obtain ⟨l,vs,rfl,f1,g1,r1⟩:=S.lst q1 e1
          obtain ⟨y,h1,h2⟩:=r1.get e3
          have ln:Le X.K φ H φ (upd H l (.lst (vs.eraseIdx k))):=Le.upd f1 (λ xs z=>by rw [g1] at z;cases z) (λ _ _ z=>by rw [g1] at z;cases z)
          obtain ⟨w1,w2⟩:=S.write (o:=.lst ws) (o':=.lst (ws.eraseIdx k)) e1 rfl rfl f1 ⟨_,jO,(r1.erase k).mono ln⟩
          exact ⟨l,vs,i,k,y,rfl,rfl,g1,by omega,by omega,by rw [<- r1.length];exact e2,h1,p _ _ _ w1 w2 (h2.mono w1)⟩
       ·rw [if_neg hz] at p;exact p.elim
      | _=>rw [e1] at p;exact p.elim
    | _=>exact p.elim
   | _=>cases v<;>exact p.elim) ho he hs hbase hfew hline
theorem Wg (ha:YE X xr a ma)(hb:YE X xr b mb):YE X xr (.BinOp a .Pow b pos) (zj Zl ma mb):=by
 (try simp only [zK] at *)
 exact gT Ln WH (Ws O3 λ _ _ _ _=>rfl) ha hb
theorem V9 {x j}:YE X xr (.Constant (.str x) j pos) (zi (.str x)):=by
 (try simp only [zK] at *)
 exact PE.imp LF λ σ H Q ⟨φ,A,ρ,S,r,h⟩=>h φ H _ .refl S rfl
theorem VZ (ha:YE X xr a ma)(hb:YE X xr b mb):YE X xr (.BinOp a .BitXor b pos) (zj Gb ma mb):=by
 (try simp only [zK] at *)
 exact gT LJ gB (gm λ _ _ _ _=>rfl) ha hb
theorem ZI {p:Pos}{q:jt}(hm:X.mg "list" = none)(ha:YQ X xr e q)(hg:Gl X "list" := by rfl)(he:starEach [e] X.env=(false,eval e X.env)::starEach [] X.env:=by rfl):
  YE X xr (.Call (.Name "list" p) [e] [] pos) (z7 q):=by
 (try simp only [zK] at *)
 exact PE.imp (ZA T5 hg hm (by rfl) (qX ha jL he) (by decide) (by decide) he (by rfl)) λ σ H Q ⟨φ,A,ρ,S,re,h⟩=>by
   refine ⟨φ,A,ρ,S,re,qe (zU.mp h) (λ ws A1 h1 φ1 H1 a ys l1 S1 z r=>?_) λ _ _ z=>z⟩
   refine ⟨a,ys,rfl,z,λ l hl=>?_⟩
   obtain ⟨a1,a2,a3⟩:=gn S1 hl r
   exact h1 _ _ _ (l1.trans a1) a2 a3
theorem gv {o i:Expr}{mo mi:Ev}{tpos:Pos}(he:YE X xr e m)(ho:YE X xr o mo)(hi:YE X xr i mi)
  (hs:swapsWithSole [.Subscript o i tpos] e pos.line X.env=pure false:=by rfl)(hw:swappedStores [.Subscript o i tpos] e X.env=pure none:=by rfl)
  (h1:(assignEach [.Subscript o i tpos] X.env).map (·.2)=[assign (.Subscript o i tpos) X.env]:=by rfl)
  (ha:∀v,assign (.Subscript o i tpos) X.env v=(do
   let ov <- holding [v] (eval o X.env)
   let iv <- holding [v,ov] (eval i X.env)
   standAt tpos
   holding [v,ov,iv] (setItem ov iv v)
   release [v,ov,iv] []):=by intro _;rfl):YS X xr (.Assign [.Subscript o i tpos] e pos) (jK j3 m mo mi):=by
 (try simp only [zK] at *)
 exact X7 set_list Lv NC he ho hi hs hw h1 ha
theorem PR (f:Nat){body:List Stmt}(hp:PassesOwn (model X.prog X.w) X.A X.env X.xe)(hc:YT X xr c mc)(hb:yN X xr body m1):YS X xr (.While c body [] pos) (Wh f mc m1):=by
 (try simp only [zK] at *)
 exact PS.imp (PJ hp hc hb) λ D σ H ⟨φ,A,ρ,S,re,h⟩=>by
   refine ⟨λ f σ' H'=>∃φ2 A2 ρ2,Le X.K φ H φ2 H'/\zF X.K φ2 A2 H'/\RE X.K φ2 H' ρ2 σ'/\(wU mc m1 f ρ2 A2).post (FB X.K φ2 H' D) (EB X.K φ2 H' xr),⟨f,φ,A,ρ,.refl,S,re,h⟩,?_⟩
   rintro f σ2 H2 ⟨φ2,A2,ρ2,l2,S2,re2,h2⟩
   cases f with
   | zero=>exact h2.elim
   | succ f=>
    unfold wU at h2
    refine tT.go S2 re2 (zU.mp h2) λ w A3 h3=>?_
    cases w with
    | bl k=>
     refine ⟨k,rfl,λ φ3 H3 l3 S3=>?_⟩
     cases k with
     | true=>
      rw [if_pos rfl]
      refine ⟨λ σ' H'=>∃φ2 A2 ρ2,Le X.K φ H φ2 H'/\zF X.K φ2 A2 H'/\RE X.K φ2 H' ρ2 σ'/\(wU mc m1 f ρ2 A2).post (FB X.K φ2 H' D) (EB X.K φ2 H' xr),λ σ' H' z=>⟨f,Nat.lt_succ_self _,z⟩,?_⟩
      refine ⟨φ3,A3,ρ2,S3,re2.mono l3,qe (zU.mp h3) (λ fl A4 h4=>?_) λ _ _ z=>z.mono l3⟩
      cases fl with
      | nx ρ4=>exact λ φ4 H4 σ4 l4 S4 re4=>⟨φ4,A4,ρ4,(l2.trans l3).trans l4,S4,re4,qe h4 (λ _ _ z=>z.mono (l3.trans l4)) λ _ _ z=>z.mono (l3.trans l4)⟩
      | ct ρ4=>exact λ φ4 H4 σ4 l4 S4 re4=>⟨φ4,A4,ρ4,(l2.trans l3).trans l4,S4,re4,qe h4 (λ _ _ z=>z.mono (l3.trans l4)) λ _ _ z=>z.mono (l3.trans l4)⟩
      | bk ρ4=>exact λ φ4 H4 σ4 l4 S4 re4=>h4 φ4 H4 σ4 (l3.trans l4) S4 re4
      | rt w4=>exact λ φ4 H4 v4 l4 S4 q4=>h4 φ4 H4 v4 (l3.trans l4) S4 q4
     | false=>
      rw [if_neg Bool.false_ne_true]
      exact h3 φ3 H3 σ2 l3 S3 (re2.mono l3)
    | non=>cases h3
    | int _=>cases h3
    | str _=>cases h3
    | tup _=>cases h3
    | ref _=>cases h3
    | clo _ _ _=>cases h3
    | xc _=>cases h3
end
end Y
set_option maxHeartbeats 400000
namespace Mi
open PySem L2
section
variable {ρ ρ1 ρ2:En}{A A1 A2 A3:Hx}{w x y z:W}{m ma mb mc:Ev}{m1 m2:Ex}{i n:Nat}{f:Fn}{ws:List W}{fl:Fl}
theorem zA (h:ρ[i]? =some (some w)):zc i ρ A=.ok w A:=by unfold zc;rw [h]
theorem qv:zi w ρ A=.ok w A:=rfl
theorem zJ {g:W->W->Hx->R W}(h1:ma ρ A=.ok x A1)(h2:mb ρ A1=.ok y A2):zj g ma mb ρ A=g x y A2:=by unfold zj;rw [h1,zE,h2,zE]
theorem wG {k:Bool}(h:ma ρ A=.ok (.bl k) A1):qK ma ρ A=.ok (.bl (!k)) A1:=by unfold qK;rw [h,zE]
theorem g8 (h:ma ρ A=.ok (.bl true) A1):yx ma mb ρ A=mb ρ A1:=by unfold yx;rw [h,zE]
theorem Qq (h:ma ρ A=.ok (.bl false) A1):yx ma mb ρ A=.ok (.bl false) A1:=by unfold yx;rw [h,zE]
theorem Qu (h:ma ρ A=.ok (.bl true) A1):jH ma mb ρ A=.ok (.bl true) A1:=by unfold jH;rw [h,zE]
theorem wJ (h:ma ρ A=.ok (.bl false) A1):jH ma mb ρ A=mb ρ A1:=by unfold jH;rw [h,zE]
theorem jj {a:Ea}(h:a ρ A=.ok ws A1):zH f a ρ A=f ws A1:=by unfold zH;rw [h,zE]
theorem je:zp ρ A=.ok [] A:=rfl
theorem qR {r:Ea}(h1:ma ρ A=.ok x A1)(h2:r ρ A1=.ok ws A2):zh ma r ρ A=.ok (x::ws) A2:=by unfold zh;rw [h1,zE,h2,zE]
theorem KR {a:Ea}(h:a ρ A=.ok ws A1):zy a ρ A=.ok (.tup ws) A1:=by unfold zy;rw [h,zE]
theorem j5 {a:Ea}(h:a ρ A=.ok ws A1):zY a ρ A=.ok (.ref A1.length) (A1++[.lst ws]):=by unfold zY;rw [h,zE]
theorem zQ (h:m1 ρ A=.ok (.nx ρ1) A1):zr m1 m2 ρ A=m2 ρ1 A1:=by unfold zr;rw [h,zE]
theorem z9 (h:m1 ρ A=.ok (.rt w) A1):zr m1 m2 ρ A=.ok (.rt w) A1:=by unfold zr;rw [h,zE]
theorem jB:zB ρ A=.ok (.nx ρ) A:=rfl
theorem qz (h:m ρ A=.ok w A1):zX i m ρ A=.ok (.nx (ρ.set i (some w))) A1:=by unfold zX;rw [h,zE]
theorem MY (h:m ρ A=.ok w A1):Zo m ρ A=.ok (.nx ρ) A1:=by unfold Zo;rw [h,zE]
theorem qS (h:m ρ A=.ok w A1):z8 m ρ A=.ok (.rt w) A1:=by unfold z8;rw [h,zE]
theorem yv (h:mc ρ A=.ok (.bl true) A1):qw mc m1 m2 ρ A=m1 ρ A1:=by unfold qw;rw [h,zE]
theorem ym (h:mc ρ A=.ok (.bl false) A1):qw mc m1 m2 ρ A=m2 ρ A1:=by unfold qw;rw [h,zE]
theorem yB {mi:Ei}{tw:Tg}{j:ji}(h:mi ρ A=.ok j A1):jZ mi tw m1 ρ A=jC j (turn tw m1) j.len 0 ρ A1:=by unfold jZ;rw [h,zE]
theorem yt {tw:Tg}(h:tw w ρ=some ρ1):turn tw m1 w ρ A=m1 ρ1 A:=by unfold turn;rw [h]
theorem Xl {j:ji}{st:W->Ex}(h:j.at_ A i=some none):jC j st n i ρ A=.ok (.nx ρ) A:=by
 cases n with
 | zero=>unfold jC;rw [h]
 | succ n=>unfold jC;rw [h]
theorem Vh {j:ji}{st:W->Ex}(h:j.at_ A i=some (some w))(hs:st w ρ A=.ok (.nx ρ1) A1):jC j st (n+1) i ρ A=jC j st n (i+1) ρ1 A1:=by
 rw [jC,h];dsimp only;rw [hs,zE]
theorem Oz {j:ji}{st:W->Ex}(h:j.at_ A i=some (some w))(hs:st w ρ A=.ok (.rt x) A1):jC j st (n+1) i ρ A=.ok (.rt x) A1:=by
 rw [jC,h];dsimp only;rw [hs,zE]
theorem ZG {k:Int}(h:m ρ A=.ok (.int k) A1)(hk:jk k=true):qB m ρ A=.ok (yh 0 k.toNat) A1:=by unfold qB;rw [h,zE];dsimp only;rw [if_pos hk]
theorem gp {lo:Int}{k:Nat}(h:i<k):(yh lo k).at_ A i=some (some (.int (lo+i))):=by unfold yh;dsimp only;rw [if_pos h]
theorem gf {lo:Int}{k:Nat}(h:¬i<k):(yh lo k).at_ A i=some none:=by unfold yh;dsimp only;rw [if_neg h]
theorem qQ (h:m1 (ws.map some++List.replicate (n - ws.length) none) A=.ok (.rt w) A1):qi n m1 ws A=.ok w A1:=by unfold qi;rw [h];rfl
theorem Jq {w:W}(hn:jc ws=true)(hw:w.nr=true)(h:f ws []=.ok w A1):iso f ws A=.ok w A:=by
 unfold iso
 rw [if_pos hn,h]
 cases w with
 | ref k=>cases hw
 | _=>dsimp only;rw [if_pos hw]
end
end Mi
set_option maxHeartbeats 400000
namespace Mi
open PySem L2
theorem Oc {j:ji}{ifs me:Ev}{c:En}{A:Hx}{N:Nat}{item g:Nat->W}{keep:Nat->Bool}(hat:∀i,i<N->j.at_ A i=some (some (item i)))(hend:j.at_ A N=some none)
  (hi:∀i,i<N->ifs (some (item i)::c) A=.ok (.bl (keep i)) A)(he:∀i,i<N->keep i=true->me (some (item i)::c) A=.ok (g i) A):
  ∀(n i:Nat) (x:Option W) (acc:List W),i+n=N->acc.length+n<=zW->∃y,jn j (zD 0) ifs (zN me) n i (x::c) acc A=.ok (y::c,acc++((List.range' i n).filter keep).map g) A:=by
 intro n
 induction n with
 | zero=>
  intro i x acc h _
  have:i=N:=by omega
  subst this
  refine ⟨x,?_⟩
  unfold jn
  rw [hend]
  simp
 | succ n ih=>
  intro i x acc h hl
  have hlt:i<N:=by omega
  rw [jn,hat i hlt]
  dsimp only [zD,List.set]
  rw [hi i hlt,zE]
  rw [List.range'_succ]
  cases hk:keep i with
  | true=>
   dsimp only
   obtain ⟨y,e⟩:=ih (i+1) (some (item i)) (acc++[g i]) (by omega) (by rw [List.length_append,List.length_singleton];omega)
   refine ⟨y,?_⟩
   have ee:zN me (some (item i)::c) acc A=.ok (some (item i)::c,acc++[g i]) A:=by
    unfold zN
    rw [he i hlt hk,zE,if_pos (by omega)]
   rw [ee,zE]
   dsimp only
   rw [e,List.filter_cons_of_pos hk,List.map_cons,List.append_assoc]
   rfl
  | false=>
   dsimp only
   obtain ⟨y,e⟩:=ih (i+1) (some (item i)) acc (by omega) (by omega)
   exact ⟨y,by rw [e,List.filter_cons_of_neg (by rw [hk];exact Bool.false_ne_true)]⟩
theorem Xe {cap:List Nat}{mi:Ei}{j:ji}{ifs me:Ev}{ρ:En}{A:Hx}{N:Nat}{item g:Nat->W}{keep:Nat->Bool}(hm:mi ρ A=.ok j A)(hj:j.len=N)(hN:N<=zW)
  (hat:∀i,i<N->j.at_ A i=some (some (item i)))(hend:j.at_ A N=some none)(hi:∀i,i<N->ifs (some (item i)::cap.map λ i=>(ρ[i]?).join) A=.ok (.bl (keep i)) A)
  (he:∀i,i<N->keep i=true->me (some (item i)::cap.map λ i=>(ρ[i]?).join) A=.ok (g i) A):
  zR 1 cap mi (zD 0) ifs (zN me) ρ A=.ok (((List.range N).filter keep).map g) A:=by
 obtain ⟨y,e⟩:=Oc hat hend hi he N 0 none [] (Nat.zero_add N) (by simpa using hN)
 unfold zR
 rw [hm,zE,hj]
 have hc:Za 1 cap ρ=none::cap.map λ i=>(ρ[i]?).join:=rfl
 rw [hc,e,List.nil_append,<- List.range_eq_range']
 rfl
theorem gO {cap:List Nat}{mi:Ei}{j:ji}{me:Ev}{ρ:En}{A:Hx}{N:Nat}{item g:Nat->W}(hm:mi ρ A=.ok j A)(hj:j.len=N)(hN:N<=zW)
  (hat:∀i,i<N->j.at_ A i=some (some (item i)))(hend:j.at_ A N=some none)(he:∀i,i<N->me (some (item i)::cap.map λ i=>(ρ[i]?).join) A=.ok (g i) A):
  zR 1 cap mi (zD 0) (zi (.bl true)) (zN me) ρ A=.ok ((List.range N).map g) A:=by
 have h:=Xe (ifs:=zi (.bl true)) (keep:=λ _=>true) hm hj hN hat hend (λ _ _=>rfl) λ i hi _=>he i hi
 have f:(List.range N).filter (λ _=>true)=List.range N:=List.filter_eq_self.mpr λ _ _=>rfl
 rw [f] at h
 exact h
theorem yS {g:List W->Hx->R W}{q:jt}{ρ:En}{A A1:Hx}{ws:List W}(h:q ρ A=.ok ws A1):mQ g q ρ A=g ws A1:=by unfold mQ;rw [h,zE]
theorem kU {q:jt}{ρ:En}{A A1:Hx}{ws:List W}(h:q ρ A=.ok ws A1):z7 q ρ A=.ok (.ref A1.length) (A1++[.lst ws]):=by unfold z7;rw [h,zE]
theorem yQ {m:Ev}{ρ:En}{A A1:Hx}{w:W}{ws:List W}(h:m ρ A=.ok w A1)(hs:zT w A1=some ws):zS m ρ A=.ok ws A1:=by unfold zS;rw [h,zE,hs]
open PySem PySem.Spec PyProof.Rows L2
section
variable {M:Model}{A:Around}{E:Value->Shared->Prop}{s:Shared}{env:Env}{outer:List Env}{L e:Addr}{C:Value}{H:Hp}{g:Heap}
end
section
variable {X:Cx}{g:Heap}{xr:XR}{e a b c:Expr}{es:List Expr}{m ma mb mc:Ev}{m1 m2:Ex}{pos:Pos}{st:Stmt}
end
section
variable {P:Program}{w:World}{K:Frag}{mg:Str->Option Value}{base:Heap}
end
section
variable {X:Cx}{g:Heap}{xr:XR}{e:Expr}{es:List Expr}{mr:Ea}{x:Str}{np cpos pos:Pos}{C:Addr}{B newId initId:String}{bmB:List Value}{n:Nat}
end
noncomputable def mJ:List Ev->Str->Ev
 | [],acc=>λ _ A=>.ok (.str acc) A
 | m::ms,acc=>λ ρ A=>(m ρ A).bind λ w A1=>match w with
  | .str y=>if (acc++y).length<=sizeLine then mJ ms (acc++y) ρ A1 else .bad
  | _=>.bad
section
variable {X:Cx}{xr:XR}{e v₁ v₂:Expr}{es:List Expr}{m m₁ m₂:Ev}{ms:List Ev}{pos:Pos}
inductive SJ (X:Cx)(xr:XR):List Expr->List Ev->Prop where
 | nil:SJ X xr [] []
 | cons {e:Expr} {es:List Expr} {m:Ev} {ms:List Ev} (h:SE X xr e m) (r:SJ X xr es ms):SJ X xr (e::es) (m::ms)
end
section
variable {M:Model}{A:Around}{E:Value->Shared->Prop}{s:Shared}{e C D:Addr}{oe:Obj}{bmB bmD:List Value}{newId newD:String}{Q:Bool->Shared->Prop}
end
section
variable {X:Cx}{pins:List (Addr × Obj)}{σ:St}{H0 H:Hp}{s0 s:Shared}{ea C L:Addr}{M:Model}{A:Around}{E:Value->Shared->Prop}
end
section
variable {X:Cx}{pins:List (Addr × Obj)}{σ:St}{H0 H:Hp}{s0 s:Shared}{ea C L:Addr}
end
section
variable {X:Cx}{pins:List (Addr × Obj)}{σ:St}{H:Hp}{s:Shared}{M:Model}{A:Around}{E:Value->Shared->Prop}
end
end Mi
namespace Mi
open PySem PySem.W PySem.Spec PySem.Calls PyProof.Rows Builtin Builtin.ObjectAttr Builtin.Getset_descriptor
section
variable {prog:Program}{w:World}{A:Around}{E:Value->Shared->Prop}{s:Shared}{K:Frag}{x D:Addr}{name:Str}
end
end Mi
namespace Mi
open PySem PySem.Spec PyProof.Rows L2
section
variable {X:Cx}{pins:List (Addr × Obj)}{σ:St}{H:Hp}{s:Shared}{A:Around}{E:Value->Shared->Prop}{Q:Value->Shared->Prop}{c:Value}{b:Bool}{ea C:Addr}
end
section
variable {P:Program}{w:World}{K:Frag}{mg:Str->Option Value}{base:Heap}{N:List Str}{qual:Str}{scope:Scope}{f:Addr}{cd:Value}{cl:List (Str × Addr)}{A:Around}{outer:List Env}{s:Shared}{H:Hp}{E:XK}
end
open Classical in
section
variable {K:Frag}{φ:List Addr}{H:Hp}{ρ:En}{σ:St}
end
section
variable {X:Cx}{xr:XR}{L D:Addr}{i j l kk:Nat}{x n y xD:Str}{cs:List Str}{PG:Nat->Obj->Addr->Obj->List V->Prop}{lam:Nat->Fn}{bmD:List Value}{newD:String}{np cp ep dp yp np2 ap hp pos:Pos}
end
section
variable {X:Cx}{xr:XR}{e:Expr}{m:Ev}{pos p p':Pos}{f:Str->Option Bool}{x:Str}
end
section
variable {X:Cx}{xr:XR}{n k:Nat}{q:Str}{P c:Addr}{params:Arguments}{body:Expr}{scope:Scope}{clos:List (Str × Addr)}{pos:Pos}
end
section
variable {K:Frag}{X:Cx}{pos:Pos}
end
section
variable {P:Program}{w:World}{K:Frag}{mg:Str->Option Value}{base:Heap}{j:Nat}{q:Str}{ls:List Lm}{env:Env}{σ:St}
end
open Classical in
open Classical in
section
variable {X:Cx}{pins:List (Addr × Obj)}{σ:St}{H:Hp}{s:Shared}
variable {H3:Hp}{s3:Shared}{fp:List Addr}{N:List Str}{sc:Scope}{ls:List Lm}{j kk i:Nat}{q x f:Str}{ρ0:En}{RF:Nat->List W->Hx->R W}{p p2 pos:Pos}
end
section
variable {X:Cx}{xr:XR}{N:List Str}{sc:Scope}{ls:List Lm}{j kk i nl:Nat}{q x f:Str}{RF:Nat->List W->Hx->R W}{p p2 p3 p4 pos:Pos}{iter:Expr}{mi:Ei}{tw:Tg}
end
section
variable {P:Program}{w:World}{K:Frag}{mg:Str->Option Value}{base:Heap}
end
section
variable {K:Frag}{cs:List Str}{top x nm:Str}
end
section
variable {X:Cx}{g:Heap}{xr:XR}{e:Expr}{es:List Expr}{mr:Ea}{x top:Str}{np cpos pos:Pos}{n:Nat}
end
section
variable {X:Cx}{xr:XR}{e:Expr}{es:List Expr}{m:Ev}{ms:List Ev}
end
section
variable {X:Cx}{xr:XR}{n k:Nat}{q:Str}{Pt c:Addr}{ls:List Lm}{t:Lm}{pos:Pos}
end
theorem IT {P:Program}{w:World}{K:Frag}{mg:Str->Option Value}{base:Heap}{x:Str}{st:Stmt}{f:Addr}{fd:FuncData}{ps:List Str}{k:Nat}(F:jd K x x st f fd)(hm:mg x=some (.ref f))
  (hb:∀(kV doc pm:Value) (an:Option Addr) (cdv ct:Value) (us:List Value),us.length=ps.length->bindArgs (PySem.W.fnOf x x (gQ st) (kX st) (qH st) .none kV doc pm an cdv ct) ⟨us,[]⟩=pure (ps.zip us)):zM P w K mg base k x ps.length (λ _ _=>.bad):=
 ⟨f,fd,ps,⟨λ vs H Q E h=>h.1,λ A outer s H args us vs Q E _ _ _ _ h=>by obtain ⟨_,_,_,_,_,_,z⟩:=h;exact z.elim⟩,hm,F.kp,F.binds hb⟩
theorem NO {K:Frag}(t a b:Ty):PySem.W.kitAny K (.type t.nm) [.type a.nm,.type b.nm]=some (yo t a || yo t b):=by
 unfold PySem.W.kitAny
 rw [Jj]
 cases yo t a with
 | true=>rfl
 | false=>
  dsimp only
  unfold PySem.W.kitAny
  rw [Jj]
  cases yo t b<;>rfl
section
variable {X:Cx}{xr:XR}{e a b:Expr}{m ma mb:Ev}{pos p p1 p2 pt:Pos}{x x1 x2:Str}{kt:Nat}
theorem Zq.kitx {pins:List (Addr × Obj)}{σ:St}{H:Hp}{s:Shared}{x:V}{u:Value}{t:Ty}(I:Inv X pins σ H s)(r:RelV x u)(h:Zq X.K H x t):∃Hq:Heap->Prop,PySem.W.KitX X.K u (.type t.nm) Hq/\Hq s.heap/\u≠.builtin "__main__.__loader__#opaque" := by
 rcases h with h | ⟨a,xs,rfl,h,rfl⟩
 ·generalize hT:Value.type t.nm=T at h
  cases h with
  | non=>cases (show u=Value.none from r);exact ⟨_,PySem.W.kitx_none,True.intro,λ z=>nomatch z⟩
  | bl y=>cases (show u=Value.bool y from r);exact ⟨_,PySem.W.kitx_bool,True.intro,λ z=>nomatch z⟩
  | int i=>obtain ⟨t,q⟩:=(show ∃t,u=Value.int i t from r);cases q;exact ⟨_,PySem.W.kitx_int,True.intro,λ z=>nomatch z⟩
  | str y=>obtain ⟨t,q⟩:=(show ∃t,u=Value.str y t from r);cases q;exact ⟨_,PySem.W.kitx_str,True.intro,λ z=>nomatch z⟩
  | flt y=>obtain ⟨t,q⟩:=(show ∃t,u=Value.float y t from r);cases q;exact ⟨_,PySem.W.kitx_float,True.intro,λ z=>nomatch z⟩
  | @lst a xs ea=>
   cases (show u=Value.ref a from r)
   obtain ⟨_,_,n,_,h1⟩:=(show qP X.prog X.w H s.heap a (.lst xs) from I.hok a _ ea)
   exact ⟨_,PySem.W.kitx_list,⟨_,h1,rfl⟩,λ z=>nomatch z⟩
  | @frz a ob xs ea=>
   cases (show u=Value.ref a from r)
   obtain ⟨_,_,_,n,_,h1⟩:=(show qP X.prog X.w H s.heap a (.frz ob (.lst xs)) from I.hok a _ ea)
   exact ⟨_,PySem.W.kitx_list,⟨_,h1,rfl⟩,λ z=>nomatch z⟩
  | @tup a xs ea=>
   cases (show u=Value.ref a from r)
   obtain ⟨_,_,_,p⟩:=(show qP X.prog X.w H s.heap a (.tup xs) from I.hok a _ ea)
   obtain ⟨o,h1,h2,_⟩:=p
   exact ⟨_,PySem.W.kitx_tuple,⟨o,h1,h2.1⟩,λ z=>nomatch z⟩
  | @dK a kvs ea=>
   cases (show u=Value.ref a from r)
   obtain ⟨_,_,_,_,o,_,_,h1,h2,_⟩:=(show qP X.prog X.w H s.heap a (.dK kvs) from I.hok a _ ea)
   exact ⟨_,PySem.W.kitx_dict,⟨o,h1,h2.1⟩,λ z=>nomatch z⟩
  | @dT a kvs ea=>
   cases (show u=Value.ref a from r)
   obtain ⟨_,_,_,_,o,_,_,h1,h2,_⟩:=(show qP X.prog X.w H s.heap a (.dT kvs) from I.hok a _ ea)
   exact ⟨_,PySem.W.kitx_dict,⟨o,h1,h2.1⟩,λ z=>nomatch z⟩
  | ins=>cases hT
 ·cases (show u=Value.ref a from r)
  obtain ⟨its,_,⟨o,h1,h2,_⟩,_⟩:=I.tuple h
  exact ⟨_,PySem.W.kitx_tuple,⟨o,h1,h2⟩,λ z=>nomatch z⟩
noncomputable def Hr (K:Frag)(a b:Ty):List V->Hp->VK->Prop:=λ xs H Q=>∃x t l,xs=[x,.ref l]/\qd K H l [.ty (Ty.nm a),.ty (Ty.nm b)]/\Zq K H x t/\Q (.bl (yo t a || yo t b)) H
theorem OJ {a b:Ty}:jx X (.builtin "isinstance") (Hr X.K a b):=by
 intro pins s σ H xs us Q I r h
 obtain ⟨x,t,l,rfl,hs,ht,q⟩:=h
 obtain ⟨u,u',rfl,ru,ru'⟩:=vals2 r
 cases (show u'=Value.ref l from ru')
 obtain ⟨its,rv,⟨o,h1,h2,k,h3⟩,_⟩:=I.tuple hs
 obtain ⟨u1,u2,rfl,r1,r2⟩:=vals2 rv
 cases (show u1=Value.type a.nm from r1)
 cases (show u2=Value.type b.nm from r2)
 obtain ⟨Hq,Z,hz,ne⟩:=ht.kitx I ru
 obtain ⟨o1,o2,o3,o4⟩:=o
 cases (show o1=_ from h2)
 cases (show o3=_ from h3)
 exact PySem.W.kia_tup Z I.kIn hz h1 (NO t a b) ne λ tk=>⟨.bl (yo t a || yo t b),H,I.tok tk,rfl,q⟩
noncomputable def UA (t t2:Ty)(m:Ev):Ev:=λ ρ A=>(m ρ A).bind λ w A1=>match jg w A1 with
 | some t'=>.ok (.bl (yo t' t || yo t' t2)) A1
 | none=>.bad
noncomputable def JM (m:Ev)(tw:Tg):Ex:=λ ρ A=>(m ρ A).bind λ w A1=>match tw w ρ with
 | some ρ'=>.ok (.nx ρ') A1
 | none=>.bad
noncomputable def Gn (i j:Nat)(ma mb:Ev):Ex:=λ ρ A=>(ma ρ A).bind λ x A1=>(mb ρ A1).bind λ y A2=>.ok (.nx ((ρ.set i (some x)).set j (some y))) A2
end
section
variable {X:Cx}{xr:XR}{i kk:Nat}{x:Str}{PG:PFam}{lam:Nat->Fn}{np cp:Pos}
end
open Classical in
section
variable {X:Cx}{pins:List (Addr × Obj)}{σ:St}{H:Hp}{s:Shared}{ls:List Lm}{j kk n:Nat}{q x:Str}{e:Expr}{es:List Expr}{p pos:Pos}{mr:Ea}{f0:Fn}{fG:PFam->Fn}
end
section
variable {X:Cx}{xr:XR}{a b c:Expr}{ma mb mc:Ev}{pos:Pos}
end
section
variable {prog:Program}{w:World}{A:Around}{E:Value->Shared->Prop}{s:Shared}
noncomputable abbrev yV (led:Bool):Obj:={ cls:=.type "set",dict:=none,data:=.set #[] 0 (.fresh 0 0 led) }
end
theorem intsAre_of:∀{ns:List Int} {its:List Value},Vals (ns.map V.int) its->IntsAre its ns:=by
 intro ns
 induction ns with
 | nil=>intro its h;cases h;exact .nil
 | cons n ns ih=>
  intro its h
  cases h with
  | cons r t=>obtain ⟨tk,rfl⟩:=r;exact .cons n tk (ih t)
section
variable {X:Cx}{xr:XR}{e:Expr}{m:Ev}{pos:Pos}
end
section
variable {X:Cx}{xr:XR}{a b:Expr}{ma mb:Ev}{pos:Pos}
end
section
variable {X:Cx}{xr:XR}{e:Expr}{m:Ev}{pos:Pos}
theorem RY:jx X (.builtin "len") (λ xs H Q=>∃p us,xs=[.ref p]/\H p=some (.dK us)/\Q (.int us.length) H):=by
 intro pins s σ H xs us Q I r h
 obtain ⟨p,kvs,rfl,hq,q⟩:=h
 obtain ⟨u,rfl,ru⟩:=vals1 r
 cases ru
 obtain ⟨hz,hd,vs,kv,dd⟩:=WU I.hok hq
 have hl:=ZP
 have hs:sizeLine=16777216:=sizeLine_eq
 have hlen:=KV.length kv
 refine PySem.call_len_dict hd dd (by omega) ?_
 exact ⟨.int kvs.length,H,I.tok _,⟨_,by rw [hlen]⟩,q⟩
noncomputable def Jy (m:Ev):Ev:=λ ρ A=>(m ρ A).bind λ w A1=>match w with
 | .ref n=>match A1[n]? with
  | some (.dct kvs)=>.ok (.int kvs.length) A1
  | _=>.bad
 | _=>.bad
end
section
variable {X:Cx}{xr:XR}{K:Frag}{a b:Expr}{ma mb:Ev}{pos:Pos}
end
section
open PySem.SeqAt
open PySem.AutoSeq1 (wpAny_loadPart')
open PySem.MeetsSeq PySem.MeetsSeq2 PySem.MeetsSeq3
end
section
variable {prog:Program}{w:World}{A:Around}{E:Value->Shared->Prop}{s:Shared}
end
section
variable {prog:Program}{w:World}{A:Around}{I S:Addr}{fp wr:List Addr}{n:Nat}{P:Nat->Value->Prop}{St:Nat->Heap->Prop}
end
section
variable {X:Cx}{xr:XR}{K:Frag}{e:Expr}{pos:Pos}{pins:List (Addr × Obj)}{σ:St}{H:Hp}{s:Shared}{φ:List Addr}
end
section
variable {X:Cx}{xr:XR}{K:Frag}{a b e:Expr}{ma mb:Ev}{pos:Pos}
theorem Py {A:Hx}{w:W}{ds:List PyData}(h:zZ A 8 w=some (.list ds)):PyData.canLayAll0 ds=true/\PyData.depthAll ds<=8:=by
 obtain ⟨h1,h2⟩:=Kq 8 w _ h
 simp only [PyData.canLay0,PyData.depth] at h1 h2
 exact ⟨h1,by omega⟩
noncomputable def HK:W->W->Hx->R W:=λ x y A=>match zZ A 8 x,zZ A 8 y with
 | some d,some (.list ds)=>.ok (.bl (ds.any λ z=>PyData.eqv z d)) A
 | _,_=>.bad
noncomputable def wb (p:PyData->Bool):List PyData->Option Nat
 | []=>none
 | d::ds=>if p d then some 0 else (wb p ds).map (· + 1)
theorem Vd {p:PyData->Bool}:∀{ds:List PyData} {j:Nat},wb p ds=some j->∃h:j<ds.length,p ds[j]=true/\∀m (hm:m<ds.length),m<j->p ds[m]=false
 | [],_,e=>by cases e
 | d::ds,j,e=>by
  unfold wb at e
  by_cases hd:p d=true
  ·rw [if_pos hd] at e
   cases e
   exact ⟨Nat.zero_lt_succ _,hd,λ m _ z=>absurd z (Nat.not_lt_zero _)⟩
  ·rw [if_neg hd] at e
   cases e1:wb p ds with
   | none=>rw [e1] at e;cases e
   | some j'=>
    rw [e1] at e
    cases e
    obtain ⟨h1,h2,h3⟩:=Vd e1
    refine ⟨Nat.succ_lt_succ h1,h2,λ m hm z=>?_⟩
    cases m with
    | zero=>exact Bool.eq_false_iff.mpr hd
    | succ m=>exact h3 m (Nat.lt_of_succ_lt_succ hm) (Nat.lt_of_succ_lt_succ z)
noncomputable def OO (K:Frag):V->List V->Hp->VK->Prop:=λ x vs H Q=>∃φ A u v y d ds j,vs=[y]/\zF K φ A H/\RV K φ H u x/\RV K φ H v y/\zZ A 8 u=some (.list ds)/\zZ A 8 v=some d/\wb (λ z=>PyData.eqv z d) ds=some j/\j<1000000/\Q (.int j) H
theorem Rl (hu:X.A.units+64<cLine):Gw X "list.index" (OO X.K):=by
 intro pins s σ H x vs v us Q I rx rv h
 obtain ⟨φ,A,w1,w2,y,d,ds,j,rfl,S,q1,q2,e1,e2,ej,hj,q⟩:=h
 obtain ⟨u,rfl,ru⟩:=rv.one
 obtain ⟨as,h1⟩:=ZH I S 8 w1 x v _ q1 rx e1
 obtain ⟨bs,h2⟩:=ZH I S 8 w2 y u d q2 ru e2
 obtain ⟨g1,g2⟩:=Kq 8 w2 d e2
 obtain ⟨g3,g4⟩:=Py e1
 obtain ⟨f1,f2,f3⟩:=Vd ej
 cases h1 with
 | list a1 a2 a3 a4=>
  rename_i l o items n as'
  obtain ⟨cls,dd,data,sl⟩:=o
  simp only at a2 a3
  subst a2 a3
  have hm:=SeqAt.readsAll_map _ _ _ g3 a4
  have hlen:items.size=ds.length:=by rw [<- hm];simp
  have at_:∀m (h:m<items.size) (h':m<ds.length),SeqAt.readOf s.heap items[m]=ds[m]:=λ m h h'=>by
   have e:(items.toList.map (SeqAt.readOf s.heap))[m]? =ds[m]?:=by rw [hm]
   rw [List.getElem?_map,List.getElem?_eq_getElem h',Array.getElem?_toList,Array.getElem?_eq_getElem h] at e
   exact Option.some.inj e
  refine call_meets F.slot_list_index ⟨_,a1,rfl⟩ F.entry_list_index (F.args_list_index_2 _ _)
   (SeqAt.list_indexAt l items n dd sl u (λ z=>PyData.eqv (SeqAt.readOf s.heap z) d) j (by omega) (by omega) (by rw [at_ j (by omega) f1];exact f2) (λ m h z=>by rw [at_ m h (by omega)];exact f3 m (by omega) z)) ⟨a1,SeqAt.items_eqAt a4 h2 g3 g1 (by omega),?_⟩
  exact ⟨.int j,H,I.tok _,⟨_,rfl⟩,q⟩
noncomputable def k8:W->W->Hx->R W:=λ x y A=>match zZ A 8 x,zZ A 8 y with
 | some (.list ds),some d=>(match wb (λ z=>PyData.eqv z d) ds with
  | some j=>if j<1000000 then .ok (.int j) A else .bad
  | none=>.bad)
 | _,_=>.bad
theorem PM:∀x y A,ql (k8 x y A):=λ x y A=>by
 unfold k8
 split
 ·split
  ·exact wa jq qu
  ·exact qu
 ·exact qu
end
section
variable {X:Cx}{xr:XR}{K:Frag}{e:Expr}{m:Ev}{pos:Pos}
end
end Mi
namespace Mi
open PySem
noncomputable def zP (n:Nat):List Nat:=(List.range 8).filter λ i=>n.testBit i
noncomputable def qy (led:Bool)(n:Nat):SetTable:=if (zP n).length<5 then ⟨7,(zP n).toArray,#[],0,led,0,true⟩ else ⟨31,(zP n).toArray,#[],0,led,1,true⟩
noncomputable def qO (n v:Nat):Nat:=n ||| (1 <<< v)
noncomputable def kK (n v:Nat):Nat:=((zP n).filter λ i=>decide (i<v)).length
noncomputable def yz (led:Bool)(n v:Nat):SetTable:={ qy led n with place:=(zP (qO n v)).toArray }
noncomputable def JD (led:Bool)(n v:Nat):Bool:=n.testBit v || (((qy led n).freeSlot (v:Int)==some (v,false))&&((qy led n).put v==(yz led n v,kK n v))&&(zP (qO n v)==(zP n).take (kK n v)++v::(zP n).drop (kK n v))&&
 (yz led n v).fits (zP (qO n v)).length&&((yz led n v).tooFull==((zP (qO n v)).length==5))&&
 (if (zP (qO n v)).length==5 then (yz led n v).relaid ((zP (qO n v)).map λ (i:Nat)=>(i:Int)).toArray 20==some (qy led (qO n v),#[0,1,2,3,4]) else qy led (qO n v)==yz led n v)&&
 (qy led (qO n v)).fits (zP (qO n v)).length&&decide (qO n v<256))
theorem O2:((List.range 256).all λ n=>(List.range 8).all λ v=>JD true n v&&JD false n v)=true:=by decide +kernel
open PySem PySem.Spec PyProof.Rows
inductive qM:List (Int × Value)->List Nat->Prop
 | nil:qM [] []
 | cons {es:List (Int × Value)} {vs:List Nat} (v:Nat) (tk:Tok) (h:qM es vs):qM (((v:Int),.int (v:Int) tk)::es) (v::vs)
theorem qM.length {es:List (Int × Value)}{vs:List Nat}(h:qM es vs):es.length=vs.length:=by
 induction h with
 | nil=>rfl
 | cons v tk h ih=>simp [ih]
theorem qM.map1 {es:List (Int × Value)}{vs:List Nat}(h:qM es vs):es.map (·.1)=vs.map λ (i:Nat)=>(i:Int):=by
 induction h with
 | nil=>rfl
 | cons v tk h ih=>simp [ih]
theorem qM.take {es:List (Int × Value)}{vs:List Nat}(h:qM es vs):∀k,qM (es.take k) (vs.take k):=by
 induction h with
 | nil=>intro k;simp;exact .nil
 | cons v tk h ih=>
  intro k
  cases k with
  | zero=>exact .nil
  | succ k=>exact .cons v tk (ih k)
theorem qM.drop {es:List (Int × Value)}{vs:List Nat}(h:qM es vs):∀k,qM (es.drop k) (vs.drop k):=by
 induction h with
 | nil=>intro k;simp;exact .nil
 | cons v tk h ih=>
  intro k
  cases k with
  | zero=>exact .cons v tk h
  | succ k=>exact ih k
theorem qM.app {es es':List (Int × Value)}{vs vs':List Nat}(h:qM es vs)(h':qM es' vs'):qM (es++es') (vs++vs'):=by
 induction h with
 | nil=>exact h'
 | cons v tk h ih=>exact .cons v tk ih
theorem Xg:∀v,v<8->hashInt ((v:Nat):Int)=(v:Int):=by decide
section
variable {prog:Program}{w:World}
theorem qM.elems {es:List (Int × Value)}{vs:List Nat}(h:qM es vs)(hv:∀v∈vs,v<8):ElemsOf (intKind prog w) es:=by
 induction h with
 | nil=>intro e he;cases he
 | cons v tk h ih=>
  intro e he
  rcases List.mem_cons.mp he with rfl | he
  ·exact ⟨⟨(v:Int),intKind_is _ _ _ _,(Xg v (hv v (List.mem_cons_self ..))).symm⟩,rfl⟩
  ·exact ih (λ u hu=>hv u (List.mem_cons_of_mem _ hu)) e he
theorem qM.find {es:List (Int × Value)}{vs:List Nat}(h:qM es vs)(v:Nat):(es.findIdx? λ e=>(intKind prog w).is (v:Int) e.2)=vs.findIdx? λ u=>decide (u=v):=by
 induction h with
 | nil=>rfl
 | cons u tk h ih=>
  rw [List.findIdx?_cons,List.findIdx?_cons,ih]
  have:(intKind prog w).is (v:Int) (Value.int (u:Int) tk)=decide (u=v):=by
   show Value.isInt (v:Int) (Value.int (u:Int) tk)=_
   unfold Value.isInt
   rw [Bool.eq_iff_iff]
   simp
   omega
  rw [this]
end
theorem Wk {n v:Nat}:v∈zP n↔v<8/\n.testBit v=true:=by
 unfold zP
 rw [List.mem_filter,List.mem_range]
noncomputable def jT (h:Heap)(a:Addr)(led:Bool)(n:Nat):Prop:=∃o es ep,h.get? a=some o/\o.ExactSet/\o.data=.set es ep (qy led n)/\qM es.toList (zP n)/\n<256
theorem jT.keep {h h':Heap}{a:Addr}{led:Bool}{n:Nat}(x:jT h a led n)(k:∀o,h.get? a=some o->h'.get? a=some o):jT h' a led n:=
 let ⟨o,es,ep,ho,r⟩:=x;⟨o,es,ep,k o ho,r⟩
theorem PL {n v:Nat}(hn:n<256)(hv:v<8)(led:Bool):JD led n v=true:=by
 have h:=List.all_eq_true.mp (List.all_eq_true.mp O2 n (List.mem_range.mpr hn)) v (List.mem_range.mpr hv)
 rw [Bool.and_eq_true] at h
 cases led
 ·exact h.2
 ·exact h.1
theorem PD:((List.range 256).all λ n=>(qy true n).fits (zP n).length&&(qy false n).fits (zP n).length)=true:=by decide +kernel
theorem Kv (led:Bool)(n:Nat):(qy led n).plain=true:=by unfold qy;split<;>rfl
theorem N6 (led:Bool)(n:Nat):(qy led n).led=led:=by unfold qy;split<;>rfl
theorem XN (led:Bool)(n:Nat):(qy led n).place=(zP n).toArray:=by unfold qy;split<;>rfl
theorem fits_of {n:Nat}(hn:n<256)(led:Bool):(qy led n).fits (zP n).length=true:=by
 have h:=List.all_eq_true.mp PD n (List.mem_range.mpr hn)
 rw [Bool.and_eq_true] at h
 cases led
 ·exact h.2
 ·exact h.1
theorem ZM (n:Nat):(zP n).length<=8:=by
 unfold zP
 exact Nat.le_trans (List.length_filter_le _ _) (by simp)
structure JO (led:Bool)(n v:Nat):Prop where
 free:(qy led n).freeSlot (v:Int)=some (v,false)
 put:(qy led n).put v=(yz led n v,kK n v)
 vs:zP (qO n v)=(zP n).take (kK n v)++v::(zP n).drop (kK n v)
 fits:(yz led n v).fits (zP (qO n v)).length=true
 full:(yz led n v).tooFull=((zP (qO n v)).length==5)
 W9:(zP (qO n v)).length=5->(yz led n v).relaid ((zP (qO n v)).map λ (i:Nat)=>(i:Int)).toArray 20=some (qy led (qO n v),#[0,1,2,3,4])
 less:(zP (qO n v)).length≠5->qy led (qO n v)=yz led n v
 lt:qO n v<256
theorem Rn {n v:Nat}(hn:n<256)(hv:v<8)(led:Bool)(hb:n.testBit v=false):JO led n v:=by
 have h:=PL hn hv led
 unfold JD at h
 rw [hb,Bool.false_or] at h
 simp only [Bool.and_eq_true,beq_iff_eq,decide_eq_true_iff] at h
 obtain ⟨⟨⟨⟨⟨⟨⟨h1,h2⟩,h3⟩,h4⟩,h5⟩,h6⟩,h7⟩,h8⟩:=h
 refine ⟨h1,h2,h3,h4,h5,λ e=>?_,λ e=>?_,h8⟩
 ·rw [if_pos e] at h6;exact of_decide_eq_true (by simpa using h6)
 ·rw [if_neg e] at h6;simpa using h6
noncomputable def jU (n v:Nat):Nat:=if n.testBit v then n else qO n v
section
variable {prog:Program}{w:World}{A:Around}{E:Value->Shared->Prop}{s:Shared}
theorem Pl {es:Array (Int × Value)}{n v:Nat}{led:Bool}{x:Value}(f:JO led n v)(he:qM es.toList (zP n)):layNew (qy led n) es (v:Int) x=(SetTable.insertAt es (kK n v) ((v:Int),x),yz led n v,false,false):=by
 have hsz:(SetTable.insertAt es (kK n v) ((v:Int),x)).size=(zP (qO n v)).length:=by
  rw [<- Array.length_toList,SetTable.toList_insertAt,f.vs,List.length_append,List.length_append,List.length_cons,List.length_cons,List.length_take,List.length_take,List.length_drop,List.length_drop,he.length]
 unfold layNew
 rw [f.free]
 dsimp only
 rw [f.put]
 dsimp only
 rw [hsz]
 unfold SetTable.orStandIn
 rw [if_pos f.fits,f.fits]
 rfl
theorem NL {es:Array (Int × Value)}{n v:Nat}{led:Bool}(f:JO led n v)(h5:(zP (qO n v)).length=5)(he:qM es.toList (zP (qO n v))):relayAll (yz led n v) es 20=(es,qy led (qO n v),false):=by
 have hm:es.map (·.1)=((zP (qO n v)).map λ (i:Nat)=>(i:Int)).toArray:=by
  apply Array.toList_inj.mp
  rw [Array.toList_map,he.map1]
 have hsz:es.size=5:=by rw [<- Array.length_toList,he.length,h5]
 have hfm:(#[0,1,2,3,4]:Array Nat).filterMap (es[·]?)=es:=by
  apply Array.toList_inj.mp
  rw [Array.toList_filterMap]
  have h0:es.toList.length=5:=by rw [Array.length_toList];exact hsz
  have hg:∀i,es[i]? =es.toList[i]?:=λ i=>by rw [Array.getElem?_toList]
  simp only [hg]
  generalize es.toList=l at h0
  obtain ⟨a,b,c,d,e,rfl⟩:∃a b c d e,l=[a,b,c,d,e]:=by
   match l,h0 with
   | [a,b,c,d,e],_=>exact ⟨a,b,c,d,e,rfl⟩
  rfl
 unfold relayAll
 rw [hm,f.W9 h5]
 dsimp only
 rw [hfm]
 have hc:coversAll #[0,1,2,3,4] es.size=true:=by rw [hsz];decide +kernel
 have hf:(qy led (qO n v)).fits es.size=true:=by rw [hsz,<- h5];exact fits_of f.lt led
 rw [hc,hf]
 rfl
theorem qM.insert {es:Array (Int × Value)}{n v:Nat}{led:Bool}{tk:Tok}(f:JO led n v)(he:qM es.toList (zP n)):qM (SetTable.insertAt es (kK n v) ((v:Int),.int (v:Int) tk)).toList (zP (qO n v)):=by
 rw [SetTable.toList_insertAt,f.vs]
 exact (he.take _).app (.cons v tk (he.drop _))
theorem Xo {h:Heap}{a:Addr}{o:Obj}{es es':Array (Int × Value)}{ep:Nat}{t:SetTable}{t':SetTable}(ho:h.get? a=some o)(hd:o.data=.set es ep t):(h.update a (Obj.putSet es' t')).get? a=some { o with data:=.set es' (ep+1) t' }:=by
 have:=Heap.get?_update_self (Obj.putSet es' t') ho (by rw [putSet_of es' t' hd];rfl)
 rw [putSet_of es' t' hd] at this;exact this
theorem Rh {a:Addr}{led:Bool}{n v:Nat}{tk:Tok}{Q:Bool->Shared->Prop}(hS:jT s.heap a led n)(hv:v<8)
  (h:∀h' b,Heap.SameBut a s.heap h'->jT h' a led (jU n v)->Q b { s with heap:=h' }):
  wpAny (model prog w) A (setAddHashed a (.int (v:Int) tk) ((intKind prog w).hash (v:Int))) Q E s:=by
 obtain ⟨o,es,ep,ho,hex,hd,he,hn⟩:=hS
 have hlen:es.size=(zP n).length:=by rw [<- Array.length_toList,he.length]
 have hf:(qy led n).fits es.size=true:=by rw [hlen];exact fits_of hn led
 have hel:ElemsOf (intKind prog w) es.toList:=he.elems λ u hu=>(Wk.mp hu).1
 have hb:es.size<scanBound:=by rw [hlen];have:=ZM n;unfold scanBound;omega
 unfold setAddHashed setAddHashedIn
 refine wpAny_holding (wpAny_bind (wpAny_setState_of ho hd hf ?_))
 dsimp only
 rw [byScan_of (x:=.int (v:Int) tk) rfl hb hel]
 simp only [↓reduceIte]
 unfold setAddByScan
 refine wpAny_bind ?_
 refine wpAny_bind (wpAny_rule ?_)
 refine wpAny_bind (wpAny_setScan_of (knd:=intKind prog w) (intKind_is _ _ _ _) ho hd hf hel ?_)
 rw [he.find]
 cases hr:(zP n).findIdx? λ u=>decide (u=v) with
 | some j=>
  dsimp only
  have hb:n.testBit v=true:=by
   obtain ⟨hj,hpj,_⟩:=List.findIdx?_eq_some_iff_getElem.mp hr
   have:=of_decide_eq_true hpj
   exact (Wk.mp (this ▸ List.getElem_mem hj)).2
  refine wpAny_pure (wpAny_pure ?_)
  have e:s={ s with heap:=s.heap }:=by cases s;rfl
  rw [e]
  refine h s.heap false (Heap.SameBut.refl a s.heap) ?_
  unfold jU
  rw [if_pos hb]
  exact ⟨o,es,ep,ho,hex,hd,he,hn⟩
 | none=>
  dsimp only
  have hb:n.testBit v=false:=by
   cases hk:n.testBit v with
   | false=>rfl
   | true=>
    have:=List.findIdx?_eq_none_iff.mp hr v (Wk.mpr ⟨hv,hk⟩)
    simp at this
  have f:=Rn hn hv led hb
  have hh:(intKind prog w).hash (v:Int)=(v:Int):=Xg v hv
  rw [hh]
  rw [Pl f he]
  have he1:=he.insert (tk:=tk) f
  have hl1:(SetTable.insertAt es (kK n v) ((v:Int),Value.int (v:Int) tk)).size=(zP (qO n v)).length:=by rw [<- Array.length_toList,he1.length]
  generalize SetTable.insertAt es (kK n v) ((v:Int),Value.int (v:Int) tk)=es1 at he1 hl1
  dsimp only
  refine wpAny_bind (wpAny_pure ?_)
  have hp:(yz led n v).plain=true:=by unfold yz;exact Kv led n
  rw [hp]
  simp only [↓reduceIte]
  refine wpAny_bind ?_
  rw [hashByValue_scannable 8 (x:=.int (v:Int) tk) rfl]
  refine wpAny_pure ?_
  have hpk:plainKind (.int (v:Int) tk)=true:=rfl
  rw [hpk]
  simp only [↓reduceIte]
  have hz1:es1.size<=sizeLine:=by rw [hl1,sizeLine_eq];have:=ZM (qO n v);omega
  refine wpAny_bind (wpAny_storeSet_of ho hd ?_ hz1)
  have ho1:=Xo (es':=es1) (t':=yz led n v) ho hd
  have hsb1:=Heap.SameBut.update s.heap a (Obj.putSet es1 (yz led n v))
  rw [f.full]
  by_cases h5:(zP (qO n v)).length=5
  ·have hg:SetTable.grown es1.size=20:=by rw [hl1,h5];rfl
   rw [hg,NL f h5 he1,h5]
   simp only [Bool.not_false,Bool.true_and,beq_self_eq_true,↓reduceIte]
   refine wpAny_bind (wpAny_pure ?_)
   refine wpAny_bind (wpAny_storeSet_of ho1 rfl ?_ hz1)
   refine wpAny_pure ?_
   dsimp only
   refine wpAny_pure ?_
   have ho2:=Xo (es':=es1) (t':=qy led (qO n v)) ho1 rfl
   refine h _ true (hsb1.trans (Heap.SameBut.update _ a _)) ?_
   unfold jU
   rw [hb]
   exact ⟨_,es1,ep+1+1,ho2,hex,rfl,he1,f.lt⟩
  ·have hq:((zP (qO n v)).length==5)=false:=by simpa using h5
   rw [hq]
   simp only [Bool.not_false,Bool.and_false,Bool.false_eq_true,↓reduceIte]
   refine wpAny_pure ?_
   dsimp only
   refine wpAny_pure ?_
   refine h _ true hsb1 ?_
   unfold jU
   rw [hb,if_neg Bool.false_ne_true,]
   refine ⟨_,es1,ep+1,ho1,hex,?_,he1,f.lt⟩
   rw [f.less h5]
end
noncomputable abbrev jf (w:World):Bool:=!w.params.followText "set-order"
noncomputable def wN (val:Nat->Nat)(i:Nat):Nat:=((List.range i).map val).foldl jU 0
theorem Rp (val:Nat->Nat)(i:Nat):wN val (i+1)=jU (wN val i) (val i):=by
 unfold wN
 rw [List.range_succ,List.map_append,List.foldl_append]
 rfl
section
variable {prog:Program}{w:World}{A:Around}{E:Value->Shared->Prop}{s:Shared}
theorem TB (a:Value){Q1:Value->Shared->Prop}(h:Q1 (.ref s.heap.objs.size) { s with heap:=s.heap.push (yV (jf w)) }):
  codeAny (model prog w) A (.call (.builtin "set.__new__") ⟨[.type "set",a],[]⟩) (wants Q1 E) s:=by
 refine codeAny_of_tree ?_
 show wpAny _ A.in1 (do checkBuiltinCall "set.__new__" ⟨[.type "set",a],[]⟩;again (.builtin "set.__new__" ⟨[.type "set",a],[]⟩)) _ _ s
 refine wpAny_bind (wpAny_of_eq (F.newCall_set_1 a) (wpAny_pure ⟨plainId_quiet F.plain_set_new _,codeAny_builtin F.entry_set_new ?_⟩))
 rw [Around.under_plainId F.plain_set_new _]
 unfold Builtin.«set.__new__» Builtin.Frozenset.newClass
 have hsub:=sub_set_self
 obtain ⟨hp,g,d,tk,os⟩:=s
 dsimp only
 wp_walk
 refine wpAny_askSetting (wpAny_pure ?_)
 dsimp only
 simp only [newObj]
 refine wpAny_bind (wpAny_alloc (wpAny_pure ?_))
 exact wpAny_pure h
end
section
variable {prog:Program}{w:World}{A:Around}{R:Result->Shared->Prop}{I:Addr}{fp wr:List Addr}{G:Array GenState->Array GenState->Prop}{n:Nat}{P:Nat->Value->Prop}{St:Nat->Shared->Prop}
theorem R6 (W:WalksS prog w A.in1 I fp wr G n P St)(S:Addr)(hSf:S∉fp)(led:Bool)(val:Nat->Nat)(hval:∀i v,P i v->∃t,v=.int ((val i:Nat):Int) t)(h8:∀i,i<n->val i<8):
  ∀(k i:Nat) (s:Shared),n - i=k->i<=n->St i s->jT s.heap S led (wN val i)->
   (∀s',Moved (S::wr) G s s'->jT s'.heap S led (wN val n)->R (.ok (.ret .none)) s')->
   codeAny (model prog w) A (.builtin "set.update.loop" ⟨[.ref S,.ref I],[]⟩) R s:=by
 have hSw:S∉wr:=λ h=>hSf (W.sub _ h)
 have hsub:∀b∈wr,b∈S::wr:=λ b hb=>List.mem_cons_of_mem _ hb
 intro k
 induction k with
 | zero=>
  intro i s hk hi hst hS hR
  have hin:i=n:=by omega
  subst hin
  refine codeAny_builtin F.entry_set_update_loop ?_
  rw [Around.under_plainId F.plain_set_update_loop _]
  show wpAny _ A.in1 (pyNext (.ref I) >>= _) _ _ s
  refine wpAny_bind (W.done s _ _ hst λ s' hm=>?_)
  show wpAny _ A.in1 (ret Value.none) _ _ s'
  exact wpAny_pure (hR s' (hm.mono hsub) (hS.keep λ o ho=>hm.heap S _ hSw ho))
 | succ k ih=>
  intro i s hk hi hst hS hR
  have hlt:i<n:=by omega
  refine codeAny_builtin F.entry_set_update_loop ?_
  rw [Around.under_plainId F.plain_set_update_loop _]
  show wpAny _ A.in1 (pyNext (.ref I) >>= _) _ _ s
  refine wpAny_bind (W.item i s _ _ hlt hst λ v s' hP hst' hm=>?_)
  obtain ⟨t,rfl⟩:=hval i v hP
  have hS':jT s'.heap S led (wN val i):=hS.keep λ o ho=>hm.heap S _ hSw ho
  show wpAny _ A.in1 (holding [Value.int ((val i:Nat):Int) t] (setAdd S (.int ((val i:Nat):Int) t)) >>= _) _ _ s'
  refine wpAny_bind (wpAny_holding ?_)
  unfold setAdd
  refine wpAny_holding ?_
  refine wpAny_bind ((intKind prog w).pyHash (k:=((val i:Nat):Int)) (intKind_is _ _ _ _) ?_)
  refine Rh (s:={ s' with toks:=s'.toks+1 }) hS' (h8 i hlt) λ h' b hsb hS2=>?_
  have hSi:jT h' S led (wN val (i+1)):=by rw [Rp];exact hS2
  refine wpAny_pure ⟨plainId_quiet F.plain_set_update_loop _,ih (i+1) _ (by omega) hlt (W.frame _ s' _ _ hst' (Nat.le_succ _) λ b hb o e=>?_) hSi λ s'' hm'' hS''=>?_⟩
  ·rw [hsb.2 b (λ h:b=S=>hSf (by rw [<- h];exact hb))];exact e
  ·refine hR s'' (Moved.trans W.gtrans ((hm.mono hsub).then_heap (Nat.le_succ _) λ b o hb e=>?_) hm'') hS''
   rw [hsb.2 b (λ h:b=S=>hb (by rw [h];exact List.mem_cons_self))];exact e
end
section
variable {prog:Program}{w:World}{A:Around}{E:Value->Shared->Prop}{s:Shared}
theorem ML (led:Bool){h:Heap}{a:Addr}(g:h.get? a=some (yV led)):jT h a led 0:=
 ⟨_,#[],0,g,⟨rfl,rfl,rfl⟩,(by cases led<;>rfl),.nil,by decide⟩
theorem Tv {led:Bool}{l:Addr}{its:List Value}{vs:List Nat}{Q:Value->Shared->Prop}(hh:A.handled=none)(ht:s.heap.IsList l its.toArray)(hv:IntsAre its (vs.map λ (v:Nat)=>(v:Int)))(h8:∀v∈vs,v<8)
  (h:∀(h':Heap) (tk:Nat),jT h' s.heap.objs.size led (vs.foldl jU 0)->
   (∀b o,b<s.heap.objs.size->s.heap.get? b=some o->h'.get? b=some o)->Q .none { s with heap:=h',toks:=tk }):
  codeAny (model prog w) A (.call (.builtin "set.__init__") ⟨[.ref s.heap.objs.size,.ref l],[]⟩) (wants Q E) { s with heap:=s.heap.push (yV led) }:=by
 have hlen:its.length=vs.length:=by
  have:∀{its:List Value} {ns:List Int},IntsAre its ns->its.length=ns.length:=λ h=>by
   induction h with
   | nil=>rfl
   | cons _ _ _ ih=>simp [ih]
  rw [this hv,List.length_map]
 have gS:(s.heap.push (yV led)).get? s.heap.objs.size=some (yV led):=Heap.get?_push_size _ rfl
 refine codeAny_call_builtin F.called_set.init.plain F.entry_set_init (check_set_init_1 ⟨_,gS,rfl⟩ ?_)
 obtain ⟨ob,h1,h2,n,h3⟩:=ht
 obtain ⟨oc,od,odt,osl⟩:=ob
 dsimp only at h2 h3
 cases h2;cases h3
 have g1:=Heap.get?_push_of_some (yV led) h1
 have n1:=F.sub_list_set
 have n2:=F.sub_list_frozenset
 have n3:(Value.type "list" == Value.type "dict")=false:=by decide
 have T1:(s.heap.push (yV led)).IsList l its.toArray:=⟨_,g1,rfl,n,rfl⟩
 unfold Builtin.«set.__init__» noKeywords Builtin.Frozenset.updateFrom
 generalize hp:pyIter=PI
 wp_walk
 subst hp
 refine wpAny_pyIter_list T1 (wpAny_bind (wpAny_runValue ?_))
 have lt:l<s.heap.objs.size:=Heap.lt_size h1
 have sz:(s.heap.push (yV led)).objs.size=s.heap.objs.size+1:=Heap.size_push ..
 have ne:l≠(s.heap.push (yV led)).objs.size:=by rw [sz];exact Nat.ne_of_lt (Nat.lt_succ_of_lt lt)
 have W:=(Walks.list (prog:=prog) (w:=w) (A:=A.in1.in1) (by simp [hh]) (s.heap.push (yV led)).objs.size l ne its.toArray).toS
 have esz:its.toArray.size=vs.length:=by rw [List.size_toArray];exact hlen
 rw [esz] at W
 have off:s.heap.objs.size∉[(s.heap.push (yV led)).objs.size,l]:=by
  rw [sz];intro hm
  rcases List.mem_cons.mp hm with z | hm
  ·exact Nat.ne_of_lt (Nat.lt_succ_self _) z
  ·exact Nat.ne_of_gt lt (List.mem_singleton.mp hm)
 have hacc:wN (λ i=>vs.getD i 0) vs.length=vs.foldl jU 0:=by
  unfold wN
  congr 1
  apply List.ext_getElem
  ·simp
  ·intro i h1 h2
   have hi:i<vs.length:=by simpa using h2
   simp [List.getD_eq_getElem?_getD,List.getElem?_eq_getElem hi]
 refine R6 W s.heap.objs.size off led (λ i=>vs.getD i 0) (λ i v e=>?_) (λ i hi=>?_) vs.length 0 _ rfl (Nat.zero_le _) ⟨⟨_,Heap.get?_push_size _ rfl,rfl,rfl⟩,T1.push _⟩ ?_ ?_
 ·obtain ⟨t,e2⟩:=IntsAre.int_at hv i v (by simpa using e)
  refine ⟨t,e2.trans ?_⟩
  have hi:i<vs.length:=by
   have:=(List.getElem?_eq_some_iff.mp (show its[i]? =some v by simpa using e)).1
   omega
  congr 1
  simp [List.getD_eq_getElem?_getD,List.getElem?_map,List.getElem?_eq_getElem hi]
 ·rw [List.getD_eq_getElem?_getD,List.getElem?_eq_getElem hi]
  exact h8 _ (List.getElem_mem hi)
 ·exact ML led (Heap.get?_push_of_some _ gS)
 ·intro s' mv S'
  rw [hacc] at S'
  obtain ⟨h',g',d',tk',os'⟩:=s'
  have e1:g'=s.gens:=mv.gens
  have e2:d'=s.drawn:=mv.drawn
  have e3:os'=s.os:=mv.os
  subst e1 e2 e3
  refine wpAny_pure ?_
  show wpAny _ _ (ret Value.none) _ _ _
  refine wpAny_pure (h h' tk' S' λ b o lb e=>mv.heap b o (λ hm=>?_) (Heap.get?_push_of_some _ (Heap.get?_push_of_some _ e)))
  rcases List.mem_cons.mp hm with z | hm
  ·exact Nat.ne_of_lt lb z
  ·exact Nat.ne_of_lt (Nat.lt_succ_of_lt lb) ((List.mem_singleton.mp hm).trans sz)
theorem Ts {l:Addr}{its:List Value}{vs:List Nat}{Q:Value->Shared->Prop}(hh:A.handled=none)(ht:s.heap.IsList l its.toArray)(hv:IntsAre its (vs.map λ (v:Nat)=>(v:Int)))(h8:∀v∈vs,v<8)
  (h:∀(h':Heap) (tk:Nat),jT h' s.heap.objs.size (jf w) (vs.foldl jU 0)->
   (∀b o,b<s.heap.objs.size->s.heap.get? b=some o->h'.get? b=some o)->Q (.ref s.heap.objs.size) { s with heap:=h',toks:=tk }):
  wpAny (model prog w) A (call (.type "set") [.ref l]) Q E s:=by
 obtain ⟨c,tl,hmro⟩:=F.called_set.mro
 have a1:=F.called_set.made
 have a2:=F.called_set.sub
 have a3:=F.called_set.notType
 have a4:=F.called_set.canCreate
 have a5:=F.typeCall_set_1 (.ref l)
 refine wpAny_call (codeAny_of_tree ?_)
 show wpAny _ _ (callAny (.type "set") _) _ _ _
 refine wpAny_pure ⟨Code.quiet_builtin _ (by decide +kernel),codeAny_builtin F.entry_type_call ?_⟩
 rw [Around.under_plain (weight_type_call_type "set" [.ref l] []) rfl]
 repeat (any_goals (first | assumption | wp_step))
 refine codeAny_mono (TB (.ref l) (E:=E) (Q1:=λ u s1=>u=.ref s.heap.objs.size/\s1={ s with heap:=s.heap.push (yV (jf w)) }) ⟨rfl,rfl⟩) λ r s1 hr=>?_
 cases r with
 | error e=>exact hr
 | ok fl=>
  cases fl with
  | ret u=>
   obtain ⟨rfl,rfl⟩:=hr
   have T:Shared.TypeIs { s with heap:=s.heap.push (yV (jf w)) } (.ref s.heap.objs.size) "set" := ⟨_,Heap.get?_push_size _ rfl,rfl⟩
   have b1:=F.called_set.init.lookup
   have b2:=F.called_set.init.bind (.ref s.heap.objs.size)
   repeat (any_goals (first | assumption | wp_step))
   refine codeAny_mono (Tv (E:=E) (Q:=λ v s2=>v=.none/\∃h' tk,s2={ s with heap:=h',toks:=tk }/\jT h' s.heap.objs.size (jf w) (vs.foldl jU 0)/\
    ∀b o,b<s.heap.objs.size->s.heap.get? b=some o->h'.get? b=some o) (by simp [hh]) ht hv h8 λ h' tk S' k'=>⟨rfl,h',tk,rfl,S',k'⟩) λ r2 s2 hr2=>?_
   cases r2 with
   | error e=>exact hr2
   | ok fl2=>
    cases fl2 with
    | ret v=>
     obtain ⟨rfl,h',tk,rfl,S',k'⟩:=hr2
     repeat (any_goals (first | assumption | wp_step))
     exact h _ _ S' k'
    | _=>exact hr2.elim
  | _=>exact hr.elim
end
theorem Xr {α:Type}:∀{l:List α} {k:Nat} {w:α},l[k]? =some w->l.Perm (w::l.eraseIdx k)
 | [],_,_,h=>by simp at h
 | x::l,0,w,h=>by
  simp at h
  subst h
  simp
 | x::l,k+1,w,h=>by
  rw [List.getElem?_cons_succ] at h
  rw [List.eraseIdx_cons_succ]
  exact ((Xr h).cons x).trans (List.Perm.swap w x _)
theorem Nh {α:Type}(next:Nat->Nat):∀(f k:Nat) (left:List α) (out:Array α),left.length=f->(pickOrder.go next f k left out).toList.Perm (out.toList++left):=by
 intro f
 induction f with
 | zero=>
  intro k left out h
  have:left=[]:=List.length_eq_zero_iff.mp h
  subst this
  unfold pickOrder.go
  simp
 | succ f ih=>
  intro k left out h
  have hlt:next k % left.length<left.length:=Nat.mod_lt _ (by omega)
  unfold pickOrder.go
  rw [List.getElem?_eq_getElem hlt]
  dsimp only
  refine (ih (k+1) _ _ (by rw [List.length_eraseIdx_of_lt hlt];omega)).trans ?_
  rw [Array.toList_push,List.append_assoc]
  exact List.Perm.append_left _ (Xr (List.getElem?_eq_getElem hlt)).symm
theorem Pc {α:Type}(next:Nat->Nat)(xs:Array α):(pickOrder next xs).toList.Perm xs.toList:=by
 unfold pickOrder
 have:=Nh next xs.size 0 xs.toList #[] (by simp)
 simpa using this
namespace F
theorem Tr:entryFor table "set.__iter__" = some Builtin.«frozenset.__iter__»:=entryFor_alias (id' := "frozenset.__iter__") (by kernel_rfl) rfl (by decide +kernel) (by kernel_rfl)
theorem UZ:entryFor table "set_iterator.__iter__" = some Builtin.«dict_keyiterator.__iter__»:=entryFor_alias (id' := "dict_keyiterator.__iter__") (by kernel_rfl) rfl (by decide +kernel) (by kernel_rfl)
theorem GO:Manifest.owners.lookup (String.ofList ['r','o','t','a','r','e','t','i','_','t','e','s'].reverse)=some Manifest.sig_set_iterator:=by kernel_rfl
theorem Zt:Slot "set_iterator" "__next__" "set_iterator.__next__" :=
 .of (owner := "set_iterator") (n := "__next__") (by rw [typeLookup_type,builtinLookup_eq_fast];kernel_rfl) (by decide +kernel) (by decide +kernel) (by decide +kernel)
  (by first | exact .inl (by decide +kernel) | exact .inr (by decide +kernel)) (by rw [isSubtype_type];kernel_rfl)
theorem GJ:entryFor table "set_iterator.__next__" = some Builtin.«set_iterator.__next__»:=entryFor_of_tree (by kernel_rfl)
theorem GI (a:Value):argsOk "set_iterator.__next__" ⟨[a],[]⟩:=by
 unfold argsOk;rw [signature?_of (id := "set_iterator.__next__") (n:=['_','_','t','x','e','n','_','_']) (o:=['r','o','t','a','r','e','t','i','_','t','e','s']) (by kernel_rfl) GO];kernel_rfl
theorem UY (a:Value):argsOk "set_iterator.__iter__" ⟨[a],[]⟩:=by
 unfold argsOk;rw [signature?_of (id := "set_iterator.__iter__") (n:=['_','_','r','e','t','i','_','_']) (o:=['r','o','t','a','r','e','t','i','_','t','e','s']) (by kernel_rfl) GO];kernel_rfl
theorem GK:Slot "set_iterator" "__iter__" "set_iterator.__iter__" :=
 .of (owner := "set_iterator") (n := "__iter__") (by rw [typeLookup_type,builtinLookup_eq_fast];kernel_rfl) (by decide +kernel) (by decide +kernel) (by decide +kernel)
  (by first | exact .inl (by decide +kernel) | exact .inr (by decide +kernel)) (by rw [isSubtype_type];kernel_rfl)
end F
noncomputable def Qv (n i:Nat):Nat:=match i with
 | 0=>0
 | i+1=>(zP n).getD i 0+1
noncomputable def V5 (n i:Nat):Bool:=decide ((zP n).length<i) || (SetTable.below (zP n).toArray (Qv n i)==i)
theorem Oo:((List.range 256).all λ n=>(List.range 9).all λ i=>V5 n i)=true:=by decide +kernel
theorem Oh {n i:Nat}(hn:n<256)(hi:i<=(zP n).length):SetTable.below (zP n).toArray (Qv n i)=i:=by
 have h8:=ZM n
 have h:=List.all_eq_true.mp (List.all_eq_true.mp Oo n (List.mem_range.mpr hn)) i (List.mem_range.mpr (by omega))
 unfold V5 at h
 rw [decide_eq_false (by omega),Bool.false_or,beq_iff_eq] at h
 exact h
noncomputable def gP (h:Heap)(I S:Addr)(slot i n ep:Nat):Prop:=∃o,h.get? I=some o/\o.cls=.type "set_iterator" /\ o.data=.fields #[.int slot 0,.int i 0,.ref S,.int n 0,.int ep 0]
noncomputable def j9 (w:World)(a:Addr)(ep:Nat)(es:Array (Int × Value)):Array (Int × Value):=if w.params.followText "set-order" then pickOrder (w.params.setOrder a ep) es else es
theorem Qd (w:World)(a:Addr)(ep:Nat)(es:Array (Int × Value)):(j9 w a ep es).toList.Perm es.toList:=by
 unfold j9
 split
 ·exact Pc _ _
 ·exact List.Perm.refl _
noncomputable def yL (w:World)(n i:Nat):Nat:=if w.params.followText "set-order" then 0 else Qv n i
section
variable {prog:Program}{w:World}{A:Around}{E:Value->Shared->Prop}{s:Shared}{a:Addr}{o:Obj}{es:Array (Int × Value)}{ep n:Nat}
theorem YK {Q:Bool->Shared->Prop}(h:Q (w.params.followText "set-order") s):wpAny (model prog w) A setsByText Q E s:=by
 unfold setsByText
 exact wpAny_bind (wpAny_askSetting (wpAny_pure h))
theorem Tb {Q:Value->Shared->Prop}(ho:s.heap.get? a=some o)(hex:o.ExactSet)(hd:o.data=.set es ep (qy (jf w) n))(he:qM es.toList (zP n))(hn:n<256)
  (hQ:Q (.ref s.heap.objs.size) { s with heap:=s.heap.push { cls:=.type "set_iterator",data:=.fields #[.int 0 0,.int 0 0,.ref a,.int es.size 0,.int ep 0] } }):
  wpAny (model prog w) A (pyIter (.ref a)) Q E s:=by
 have hT:s.TypeIs (.ref a) "set" := ⟨o,ho,hex.1⟩
 have hlen:es.size=(zP n).length:=by rw [<- Array.length_toList,he.length]
 have hf:(qy (jf w) n).fits es.size=true:=by rw [hlen];exact fits_of hn _
 refine wpAny_pyIter_slot hT PySem.F.slot_set_iter (wpAny_call_entry PySem.F.slot_set_iter hT F.Tr ?_ (PySem.F.args_set_iter_1 _))
 unfold Builtin.«frozenset.__iter__»
 show wpAny _ _ (Builtin.Frozenset.sizeOf a >>= _) _ _ s
 unfold Builtin.Frozenset.sizeOf
 refine wpAny_bind (wpAny_bind (wpAny_setEntries_of ho hd hf (wpAny_pure ?_)))
 unfold setDrawn
 refine wpAny_bind (wpAny_bind (wpAny_setState_of ho hd hf ?_))
 dsimp only
 refine wpAny_bind (YK (wpAny_pure ?_))
 rw [if_neg (λ h=>by
  have h2:(!w.params.followText "set-order" && (!(qy (jf w) n).plain&&decide (es.size > 1)))=true:=h
  rw [Kv] at h2
  simp at h2)]
 refine wpAny_bind (wpAny_pure ?_)
 refine wpAny_bind (wpAny_setEpoch_of ho hd hf ?_)
 exact wpAny_bind (wpAny_newObj_type (wpAny_pure ⟨_,rfl, "set_iterator",_,⟨_,Heap.get?_push_size _ rfl,rfl⟩,F.Zt.lookup,hQ⟩))
theorem GV {i:Nat}{Q:Option (Value × Nat)->Shared->Prop}(ho:s.heap.get? a=some o)(hd:o.data=.set es ep (qy (jf w) n))(he:qM es.toList (zP n))(hn:n<256)(hi:i<=es.size)
  (h:Q (((j9 w a ep es)[i]?).map λ e=>(e.2,yL w n (i+1))) s):wpAny (model prog w) A (setNext a (yL w n i) i ep) Q E s:=by
 have hlen:es.size=(zP n).length:=by rw [<- Array.length_toList,he.length]
 have hf:(qy (jf w) n).fits es.size=true:=by rw [hlen];exact fits_of hn _
 unfold setNext
 refine wpAny_bind (wpAny_setState_of ho hd hf ?_)
 dsimp only
 refine wpAny_bind (YK ?_)
 unfold j9 yL at h
 cases ht:w.params.followText "set-order" with
 | true=>
  rw [ht] at h
  simp only [↓reduceIte] at h ⊢
  have hep:¬((ep != ep)=true):=by simp
  rw [if_neg hep]
  unfold setWalk
  refine wpAny_bind (wpAny_bind (wpAny_setState_of ho hd hf ?_))
  dsimp only
  refine wpAny_bind (YK ?_)
  rw [ht]
  simp only [↓reduceIte]
  refine wpAny_bind (wpAny_askSetting (wpAny_pure (wpAny_pure ?_)))
  unfold yL
  rw [ht]
  exact h
 | false=>
  rw [ht] at h
  simp only [Bool.false_eq_true,↓reduceIte] at h ⊢
  rw [if_neg (λ h=>by
   have h2:(!(qy (jf w) n).plain&&decide (es.size > 1))=true:=h
   rw [Kv] at h2
   simp at h2)]
  have hled:(qy (jf w) n).led=true:=by rw [N6];unfold jf;rw [ht];rfl
  refine wpAny_bind ?_
  show wpAny _ _ (if (!(qy (jf w) n).led&&!es.isEmpty)=true then unsupported "set:maker-not-led" else pure ()) _ _ _
  rw [hled]
  simp only [Bool.not_true,Bool.false_and,Bool.false_eq_true,↓reduceIte]
  refine wpAny_pure ?_
  have hb:SetTable.below (qy (jf w) n).place (yL w n i)=i:=by
   rw [XN]
   unfold yL
   rw [ht]
   exact Oh hn (by omega)
  rw [hb,XN]
  refine wpAny_pure ?_
  by_cases hlt:i<es.size
  ·have hv:(zP n)[i]? =some ((zP n)[i]'(by omega)):=List.getElem?_eq_getElem (by omega)
   have hp:(zP n).toArray[i]? =some ((zP n)[i]'(by omega)):=by rw [List.getElem?_toArray];exact hv
   have hee:es[i]? =some es[i]:=Array.getElem?_eq_getElem hlt
   rw [hee] at h
   rw [hee,hp]
   dsimp only
   have hs:Qv n (i+1)=(zP n)[i]'(by omega)+1:=by
    show (zP n).getD i 0+1=_
    rw [List.getD_eq_getElem?_getD,hv]
    rfl
   rw [hs] at h
   exact h
  ·have hee:es[i]? =none:=Array.getElem?_eq_none (by omega)
   rw [hee] at h
   rw [hee]
   exact h
theorem U0 {I:Addr}{i:Nat}{e:Int × Value}{Q:Option Value->Shared->Prop}(hit:gP s.heap I a (yL w n i) i es.size ep)(ho:s.heap.get? a=some o)(hex:o.ExactSet)(hd:o.data=.set es ep (qy (jf w) n))(he:qM es.toList (zP n))(hn:n<256)(hx:(j9 w a ep es)[i]? =some e)
  (hQ:∀h',gP h' I a (yL w n (i+1)) (i+1) es.size ep->Heap.SameBut I s.heap h'->Q (some e.2) { s with heap:=h' }):
  wpAny (model prog w) A (pyNext (.ref I)) Q E s:=by
 obtain ⟨oi,hoi,hc,hdi⟩:=id hit
 have hT:s.TypeIs (.ref I) "set_iterator" := ⟨oi,hoi,hc⟩
 have hlen:es.size=(zP n).length:=by rw [<- Array.length_toList,he.length]
 have hf:(qy (jf w) n).fits es.size=true:=by rw [hlen];exact fits_of hn _
 unfold pyNext
 refine wpAny_bind (wpAny_attempt (wpAny_callSpecial?_slot (name:=Str.ofString "__next__") hT F.Zt
  (wpAny_call_entry F.Zt hT F.GJ ?_ (F.GI _))))
 unfold Builtin.«set_iterator.__next__»
 show wpAny _ _ (fieldsOf (.ref I) >>= _) _ _ s
 refine wpAny_bind (wpAny_fieldsOf hoi hdi ?_)
 dsimp only
 refine wpAny_bind (wpAny_setEntries_of ho hd hf ?_)
 rw [if_neg (by simp)]
 have hi:i<es.size:=by
  have h1:=(Array.getElem?_eq_some_iff.mp hx).1
  have h2:=(Qd w a ep es).length_eq
  simp at h2
  omega
 simp only [Int.toNat_natCast]
 refine wpAny_bind (GV ho hd he hn (Nat.le_of_lt hi) ?_)
 rw [hx]
 dsimp only [Option.map_some]
 refine wpAny_bind (wpAny_setField hoi hdi (by simp) ?_)
 have h1:(s.heap.update I (Obj.mapFields (·.setIfInBounds 0 (rawInt (yL w n (i+1)))))).get? I=some (Obj.mapFields (·.setIfInBounds 0 (rawInt (yL w n (i+1)))) oi):=Heap.get?_update_self _ hoi (Obj.isFreed_of_fields (Obj.data_mapFields hdi _))
 refine wpAny_bind (wpAny_setField h1 (Obj.data_mapFields hdi _) (by simp) ?_)
 refine wpAny_pure ⟨e.2,rfl,wpAny_pure (hQ _ ?_ ((Heap.SameBut.update ..).trans (Heap.SameBut.update ..)))⟩
 refine ⟨_,Heap.get?_update_self _ h1 (Obj.isFreed_of_fields (Obj.data_mapFields (Obj.data_mapFields hdi _) _)),(Obj.cls_mapFields ..).trans ((Obj.cls_mapFields ..).trans hc),?_⟩
 rw [Obj.data_mapFields (Obj.data_mapFields hdi _)]
 simp [rawInt]
theorem U1 {I:Addr}{Q:Option Value->Shared->Prop}(hh:A.handled=none)(hit:gP s.heap I a (yL w n es.size) es.size es.size ep)(ho:s.heap.get? a=some o)(hex:o.ExactSet)(hd:o.data=.set es ep (qy (jf w) n))(he:qM es.toList (zP n))(hn:n<256)
  (hQ:∀h',Heap.ExtBut I s.heap h'->Q none { s with heap:=h' }):wpAny (model prog w) A (pyNext (.ref I)) Q E s:=by
 obtain ⟨oi,hoi,hc,hdi⟩:=id hit
 have hT:s.TypeIs (.ref I) "set_iterator" := ⟨oi,hoi,hc⟩
 have hlen:es.size=(zP n).length:=by rw [<- Array.length_toList,he.length]
 have hf:(qy (jf w) n).fits es.size=true:=by rw [hlen];exact fits_of hn _
 unfold pyNext
 refine wpAny_bind (wpAny_attempt (wpAny_callSpecial?_slot (name:=Str.ofString "__next__") hT F.Zt
  (wpAny_call_entry F.Zt hT F.GJ ?_ (F.GI _))))
 unfold Builtin.«set_iterator.__next__»
 show wpAny _ _ (fieldsOf (.ref I) >>= _) _ _ s
 refine wpAny_bind (wpAny_fieldsOf hoi hdi ?_)
 dsimp only
 refine wpAny_bind (wpAny_setEntries_of ho hd hf ?_)
 rw [if_neg (by simp)]
 simp only [Int.toNat_natCast]
 refine wpAny_bind (GV ho hd he hn (Nat.le_refl _) ?_)
 have hx:(j9 w a ep es)[es.size]? =none:=Array.getElem?_eq_none (by
  have h2:=(Qd w a ep es).length_eq
  simp at h2
  omega)
 rw [hx]
 dsimp only [Option.map_none]
 refine wpAny_bind (wpAny_setField hoi hdi (by simp) ?_)
 show wpAny _ _ (newExc (.type "StopIteration") [] >>= _) _ _ _
 refine wpAny_bind ?_
 simp only [newExc,newTuple]
 refine wpAny_bind (wpAny_newObj_type ?_ (by size_fits))
 refine wpAny_bind (m:=firstArgMember _ _) (wpAny_of_eq (a:=Value.none) (by first | rfl | (simp only [firstArgMember];rfl)) ?_)
 refine wpAny_newObj_type ?_ (by size_fits)
 simp only [raiseNew]
 refine wpAny_bind (wpAny_handled ?_)
 first | rw [show A.in1.handled=none from hh] | rw [hh]
 refine wpAny_bind (wpAny_pure (wpAny_throw ?_))
 refine wpAny_bind (wpAny_isInstance (T := "StopIteration") (b:=true) ⟨_,Heap.get?_push_size _ rfl,rfl⟩ isSubtype_stop ?_)
 exact wpAny_pure (hQ _ (((Heap.SameBut.update ..).extBut.push _).push _))
end
theorem gP.typeIs {s:Shared}{I S:Addr}{slot i n ep:Nat}(h:gP s.heap I S slot i n ep):s.TypeIs (.ref I) "set_iterator" := let ⟨o,ho,hc,_⟩:=h;⟨o,ho,hc⟩
section
variable {prog:Program}{w:World}{A:Around}{E:Value->Shared->Prop}{s:Shared}{a:Addr}{o:Obj}{es:Array (Int × Value)}{ep n:Nat}
theorem U2 {I S:Addr}{slot i m e:Nat}{Q:Value->Shared->Prop}(hit:gP s.heap I S slot i m e)(h:Q (.ref I) s):wpAny (model prog w) A (pyIter (.ref I)) Q E s:=by
 refine wpAny_pyIter_slot hit.typeIs F.GK (wpAny_call_entry F.GK hit.typeIs F.UZ ?_ (F.UY _))
 show wpAny _ _ (ret (.ref I)) _ _ s
 exact wpAny_pure ⟨_,rfl, "set_iterator",_,hit.typeIs,F.Zt.lookup,h⟩
theorem Walks.setP (hh:A.handled=none)(I a:Addr)(hne:a≠I)(hex:o.ExactSet)(hd:o.data=.set es ep (qy (jf w) n))(he:qM es.toList (zP n))(hn:n<256):
  Walks prog w A I [I,a] [I] es.size (λ i v=>∃e,(j9 w a ep es)[i]? =some e/\v=e.2) (λ i h=>gP h I a (yL w n i) i es.size ep/\h.get? a=some o) where
 sub:=λ b hb=>by simp at hb;simp [hb]
 frame:=λ _ _ _ st hk=>⟨let ⟨x,h1,h2⟩:=st.1;⟨x,hk I (by simp) x h1,h2⟩,hk a (by simp) o st.2⟩
 item:=λ i s Q E hi st hQ=>by
  have hsz:(j9 w a ep es).size=es.size:=by have:=(Qd w a ep es).length_eq;simpa using this
  have hx:(j9 w a ep es)[i]? =some ((j9 w a ep es)[i]'(by omega)):=Array.getElem?_eq_getElem (by omega)
  refine U0 st.1 st.2 hex hd he hn hx λ h' hit' hs'=>?_
  refine hQ _ h' s.toks ⟨_,hx,rfl⟩ ⟨hit',?_⟩ λ b o hb e=>hs'.extBut b o (λ h=>hb (by simp [h])) e
  exact hs'.extBut a o hne st.2
 done:=λ s Q E st hQ=>U1 hh st.1 st.2 hex hd he hn λ h' he'=>hQ h' s.toks λ b o hb e=>he' b o (λ h=>hb (by simp [h])) e
 self:=λ _ _ _ _ st hQ=>U2 st.1 hQ
theorem Rj:typeLookup (.type "set") "__len__" = pure (some (.builtin "set.__len__")):=by rw [typeLookup_type,builtinLookup_eq_fast];kernel_rfl
theorem U7 {Q:List Value->Shared->Prop}(hh:A.handled=none)(ho:s.heap.get? a=some o)(hex:o.ExactSet)(hd:o.data=.set es ep (qy (jf w) n))(he:qM es.toList (zP n))(hn:n<256)
  (hQ:∀(h':Heap) (tk:Nat),(∀b o,b<s.heap.objs.size->s.heap.get? b=some o->h'.get? b=some o)->s.heap.objs.size<=h'.objs.size->Q ((j9 w a ep es).toList.map (·.2)) { s with heap:=h',toks:=tk }):
  wpAny (model prog w) A (collect (.ref a)) Q E s:=by
 have hT0:s.TypeIs (.ref a) "set" := ⟨o,ho,hex.1⟩
 have hlt:a<s.heap.objs.size:=Heap.lt_size ho
 unfold collect
 refine wpAny_bind (wpAny_runValue (codeAny_builtin PySem.F.entry_proto_collect ?_))
 rw [Around.under_plainId PySem.F.plain_proto_collect _]
 show wpAny _ A.in1 (newList [] >>= λ l=>again (.builtin "list.__iadd__" ⟨[l,.ref a],[]⟩)) _ _ s
 refine wpAny_bind (wpAny_newObj_type ?_)
 refine wpAny_pure ⟨plainId_quiet PySem.F.plain_list_iadd _,codeAny_builtin PySem.F.entry_list_iadd ?_⟩
 rw [Around.under_plainId PySem.F.plain_list_iadd _]
 show wpAny _ A.in1 (Builtin.List.listExtendWith (.ref s.heap.objs.size) (.ref a) (.ref s.heap.objs.size)) _ _ _
 have ho1:(s.heap.push { cls:=.type "list",data:=.seq ([]:List Value).toArray }).get? a=some o:=Heap.get?_push_of_some _ ho
 have hT:Shared.TypeIs { s with heap:=s.heap.push { cls:=.type "list",data:=.seq ([]:List Value).toArray } } (.ref a) "set" := ⟨o,ho1,hex.1⟩
 unfold Builtin.List.listExtendWith
 refine wpAny_bind (wpAny_typeOf hT ?_)
 have h1:Builtin.List.listSameRef (.ref s.heap.objs.size) (.ref a)=false:=by simp [Builtin.List.listSameRef];exact Nat.ne_of_gt hlt
 have h2:(Value.type "set" == Value.type "list")=false:=by decide
 have h3:(Value.type "set" == Value.type "tuple")=false:=by decide
 simp only [h1,h2,h3,Bool.or_false,Bool.false_eq_true,if_false]
 refine wpAny_bind (Tb ho1 hex hd he hn ?_)
 refine wpAny_bind (wpAny_holding ?_)
 unfold Builtin.List.listLengthHint
 generalize hH:s.heap.push { cls:=.type "list",data:=.seq ([]:List Value).toArray }=H
 have hHs:H.objs.size=s.heap.objs.size+1:=by rw [<- hH,Heap.size_push]
 have hoH:H.get? a=some o:=by rw [<- hH];exact ho1
 have hLH:H.get? s.heap.objs.size=some { cls:=.type "list",data:=.seq ([]:List Value).toArray }:=by rw [<- hH];exact Heap.get?_push_size _ rfl
 generalize hIo:({ cls:=.type "set_iterator",data:=.fields #[.int 0 0,.int 0 0,.ref a,.int es.size 0,.int ep 0] }:Obj)=io
 have hT2:Shared.TypeIs { s with heap:=H.push io } (.ref a) "set" := ⟨o,Heap.get?_push_of_some _ hoH,hex.1⟩
 have hio:(H.push io).get? H.objs.size=some io:=Heap.get?_push_size _ (by rw [<- hIo];rfl)
 refine wpAny_bind (wpAny_specialOf hT2 Rj ?_)
 wp_delta
 refine wpAny_bind (wpAny_isInstance (b:=true) hT2 (by rw [isSubtype_type];kernel_rfl) ?_)
 show wpAny _ A.in1 (typeOf (Value.ref a) >>= _) _ _ _
 refine wpAny_bind (wpAny_typeOf hT2 ?_)
 refine wpAny_pure ?_
 show wpAny _ A.in1 (rule "list.extend.makes-room" >>= λ _=>Builtin.List.listTouch (.ref s.heap.objs.size) >>= λ _=>
  again (.builtin "list.extend.loop" ⟨[.ref s.heap.objs.size,.ref H.objs.size,.ref s.heap.objs.size],[]⟩)) _ _ _
 refine wpAny_bind (wpAny_rule ?_)
 have hS1:(H.push io).get? s.heap.objs.size=some { cls:=.type "list",data:=.seq ([]:List Value).toArray }:=Heap.get?_push_of_some _ hLH
 refine wpAny_bind ?_
 show wpAny _ A.in1 (updateSeq s.heap.objs.size (·.push .none) >>= λ _=>updateSeq s.heap.objs.size (·.pop)) _ _ _
 refine wpAny_bind (wpAny_updateSeq hS1 rfl ?_)
 have hS2:=Heap.get?_update_self (Obj.mapSeq (·.push Value.none)) hS1 rfl
 refine wpAny_updateSeq hS2 rfl ?_
 have hS3:=Heap.get?_update_self (Obj.mapSeq (·.pop)) hS2 rfl
 have oth:∀b o,b≠s.heap.objs.size->(H.push io).get? b=some o->(((H.push io).update s.heap.objs.size (Obj.mapSeq (·.push Value.none))).update s.heap.objs.size (Obj.mapSeq (·.pop))).get? b=some o:=
  λ b o hb e=>(Heap.get?_update_other _ _ (Ne.symm hb)).trans ((Heap.get?_update_other _ _ (Ne.symm hb)).trans e)
 have hne:a≠H.objs.size:=by rw [hHs];exact Nat.ne_of_lt (Nat.lt_succ_of_lt hlt)
 have hIS:H.objs.size≠s.heap.objs.size:=by rw [hHs];exact Nat.succ_ne_self _
 have haS:a≠s.heap.objs.size:=Nat.ne_of_lt hlt
 have W:=(Walks.setP (prog:=prog) (w:=w) (A:=A.in1) (by simp [hh]) H.objs.size a hne hex hd he hn).toS
 have hSf:s.heap.objs.size∉[H.objs.size,a]:=λ hm=>by
  rcases List.mem_cons.mp hm with z | hm
  ·exact hIS z.symm
  ·exact haS (List.mem_singleton.mp hm).symm
 have hlen:es.size=(zP n).length:=by rw [<- Array.length_toList,he.length]
 have h8:=ZM n
 refine wpAny_pure ⟨plainId_quiet PySem.F.plain_extend_loop _,codeAny_extend_loopS W (by rw [sizeLine_eq];omega) _ hSf _ es.size 0 _ _ _ rfl (Nat.zero_le _) ⟨?_,oth a o haS (Heap.get?_push_of_some _ hoH)⟩ hS3 (ItemsOf.nil _) λ s' acc' c' hm hS' hacc=>?_⟩
 ·refine ⟨io,oth _ _ hIS hio,by rw [<- hIo],?_⟩
  rw [<- hIo]
  have:yL w n 0=0:=by unfold yL Qv;split<;>rfl
  rw [this]
  rfl
 show wpAny _ A (load s.heap.objs.size >>= _) _ _ s'
 refine wpAny_bind (wpAny_load hS' ?_)
 have hl:acc'.toList=(j9 w a ep es).toList.map (·.2):=by
  have hsz:(j9 w a ep es).size=es.size:=by have:=(Qd w a ep es).length_eq;simpa using this
  apply List.ext_getElem?
  intro j
  by_cases hj:j<es.size
  ·have h1:acc'[j]? =some (acc'[j]'(by rw [hacc.1];exact hj)):=Array.getElem?_eq_getElem (by rw [hacc.1];exact hj)
   obtain ⟨e,h2,h3⟩:=hacc.2 j _ h1
   rw [Array.getElem?_toList,h1,List.getElem?_map,Array.getElem?_toList,h2,h3]
   rfl
  ·rw [List.getElem?_eq_none (by rw [Array.length_toList,hacc.1];omega),List.getElem?_eq_none (by rw [List.length_map,Array.length_toList,hsz];omega)]
 show wpAny _ A (pure acc'.toList) _ _ s'
 rw [hl]
 obtain ⟨h',g',d',tk',os'⟩:=s'
 have e1:g'=s.gens:=hm.gens
 have e2:d'=s.drawn:=hm.drawn
 have e3:os'=s.os:=hm.os
 subst e1 e2 e3
 refine wpAny_pure (hQ h' tk' (λ b ob hb e=>?_) ?_)
 ·refine hm.heap b ob (λ hm2=>?_) (oth b ob (Nat.ne_of_lt hb) (Heap.get?_push_of_some _ (by rw [<- hH];exact Heap.get?_push_of_some _ e)))
  rcases List.mem_cons.mp hm2 with z | z
  ·exact Nat.ne_of_lt hb z
  ·exact Nat.ne_of_lt (Nat.lt_succ_of_lt hb) ((List.mem_singleton.mp z).trans hHs)
 ·exact Nat.le_of_lt (Heap.lt_size (show h'.get? s.heap.objs.size=_ from hS'))
end
open PySem PySem.Spec PyProof.Rows L2
theorem Kx:∀{a b:List Int},a.Perm b->a.Pairwise (·<=·)->b.Pairwise (·<=·)->a=b
 | [],b,p,_,_=>by rw [List.nil_perm.mp p]
 | x::a,[],p,_,_=>absurd p.length_eq (by simp)
 | x::a,y::b,p,ha,hb=>by
  have hx:x∈y::b:=p.mem_iff.mp (List.mem_cons_self ..)
  have hy:y∈x::a:=p.mem_iff.mpr (List.mem_cons_self ..)
  have e:x=y:=by
   rcases List.mem_cons.mp hx with e | e
   ·exact e
   ·rcases List.mem_cons.mp hy with e2 | e2
    ·exact e2.symm
    ·have h1:=(List.pairwise_cons.mp hb).1 x e
     have h2:=(List.pairwise_cons.mp ha).1 y e2
     omega
  subst e
  rw [Kx (List.Perm.cons_inv p) (List.pairwise_cons.mp ha).2 (List.pairwise_cons.mp hb).2]
theorem NK (n v i:Nat):(jU n v).testBit i=(n.testBit i || decide (i=v)):=by
 unfold jU
 by_cases h:n.testBit v=true
 ·rw [if_pos h]
  by_cases e:i=v
  ·subst e;simp [h]
  ·simp [e]
 ·rw [if_neg h]
  unfold qO
  rw [Nat.testBit_or,Nat.one_shiftLeft,Nat.testBit_two_pow]
  congr 1
  by_cases e:v=i
  ·subst e;simp
  ·simp [e,Ne.symm e]
theorem X5 (i:Nat):∀(vs:List Nat) (n:Nat),(vs.foldl jU n).testBit i=(n.testBit i || decide (i∈vs))
 | [],n=>by simp
 | v::vs,n=>by
  rw [List.foldl_cons,X5 i vs,NK]
  by_cases e:i=v
  ·simp [e]
  ·simp [e]
theorem Ru (vs:List Nat):zP (vs.foldl jU 0)=(List.range 8).filter λ i=>decide (i∈vs):=by
 unfold zP
 congr 1
 funext i
 rw [X5]
 simp
theorem RH (n:Nat):((zP n).map λ (i:Nat)=>(i:Int)).Pairwise (·<=·):=by
 rw [List.pairwise_map]
 unfold zP
 refine List.Pairwise.imp ?_ (List.Pairwise.filter _ List.pairwise_lt_range)
 intro a b h
 omega
theorem qM.snd {es:List (Int × Value)}{vs:List Nat}(h:qM es vs):∀e∈es,∃tk,e.2=.int e.1 tk:=by
 induction h with
 | nil=>intro e he;cases he
 | cons v tk h ih=>
  intro e he
  rcases List.mem_cons.mp he with rfl | he
  ·exact ⟨tk,rfl⟩
  ·exact ih e he
theorem GY:∀{l:List (Int × Value)},(∀e∈l,∃tk,e.2=.int e.1 tk)->IntsAre (l.map (·.2)) (l.map (·.1))
 | [],_=>.nil
 | e::l,h=>by
  obtain ⟨tk,he⟩:=h e (List.mem_cons_self ..)
  rw [List.map_cons,List.map_cons,he]
  exact .cons _ tk (GY λ x hx=>h x (List.mem_cons_of_mem _ hx))
section
variable {prog:Program}{w:World}{A:Around}{E:Value->Shared->Prop}{s:Shared}{a:Addr}{o:Obj}{es:Array (Int × Value)}{ep n:Nat}
theorem Sk {Q:Value->Shared->Prop}(hh:A.handled=none)(hS:jT s.heap a (jf w) n)
  (h:∀(h':Heap) (tk:Nat) (l:Addr) (its:List Value) (c:Nat),s.heap.objs.size<=l->h'.get? l=some { cls:=.type "list",data:=.seq its.toArray c }->IntsAre its ((zP n).map λ (i:Nat)=>(i:Int))->
   (∀b o,s.heap.get? b=some o->h'.get? b=some o)->Q (.ref l) { s with heap:=h',toks:=tk }):
  wpAny (model prog w) A (call (.builtin "sorted") [.ref a]) Q E s:=by
 obtain ⟨o,es,ep,ho,hex,hd,he,hn⟩:=hS
 refine Calls.call_function_entry kind_sorted plain_sorted entry_sorted (args_sorted1 _) ?_
 unfold Builtin.«sorted»
 refine wpAny_bind (m:=checkCount "sorted" 1 1 _) (wpAny_pure ?_)
 refine wpAny_bind (U7 (by simp [hh]) ho hex hd he hn λ h1 tk kp hle=>?_)
 have hp:=Qd w a ep es
 have hI:IntsAre ((j9 w a ep es).toList.map (·.2)) ((j9 w a ep es).toList.map (·.1)):=GY λ e hm=>he.snd e (hp.mem_iff.mp hm)
 have hperm:((j9 w a ep es).toList.map (·.1)).Perm ((zP n).map λ (i:Nat)=>(i:Int)):=by
  rw [<- he.map1]
  exact hp.map _
 have hlen:((j9 w a ep es).toList.map (·.2)).length<=8:=by
  rw [List.length_map,hp.length_eq,he.length]
  exact ZM n
 generalize (j9 w a ep es).toList.map (·.2)=vs at hI hlen
 generalize (j9 w a ep es).toList.map (·.1)=ns at hI hperm
 refine wpAny_bind (wpAny_newList ?_)
 have hoL:(h1.push (seqObj "list" vs.toArray 0)).get? h1.objs.size=some (seqObj "list" vs.toArray 0):=Heap.get?_push_size _ rfl
 show wpAny _ _ _ _ _ { s with heap:=h1.push (seqObj "list" vs.toArray 0),toks:=tk }
 refine wpAny_bind (wpAny_holding (wpAny_call_entry slot_list_sort ⟨_,hoL,rfl⟩ entry_list_sort (list_sort_tree hoL hI (by omega) λ out ns' a1 a2 a3=>⟨_,rfl,?_⟩) (args_list_sort _)))
 have hns:ns'=(zP n).map λ (i:Nat)=>(i:Int):=Kx (a2.trans hperm) a3 (RH n)
 subst hns
 refine wpAny_pure ⟨_,rfl,?_⟩
 have e1:=get?_update_seq hoL (λ _=>(#[]:Array Value))
 have e2:=Heap.get?_push_of_some (seqObj "list" #[] 0) (Heap.get?_push_of_some (seqObj "tuple" vs.toArray 0) e1)
 obtain ⟨c,e3⟩:∃c,(sortedHeap (h1.push (seqObj "list" vs.toArray 0)) h1.objs.size vs out).get? h1.objs.size=some (seqObj "list" out c):=⟨_,get?_update_seq e2 (λ _=>out)⟩
 refine h _ tk h1.objs.size out.toList c hle ?_ a1 λ b ob e=>?_
 ·rw [Array.toArray_toList]
  exact e3
 ·have lb:b<s.heap.objs.size:=Heap.lt_size e
  have k1:=kp b ob lb e
  have nb:h1.objs.size≠b:=Nat.ne_of_gt (Nat.lt_of_lt_of_le lb hle)
  unfold sortedHeap
  refine (Heap.get?_update_other _ _ nb).trans ?_
  refine Heap.get?_push_of_some _ (Heap.get?_push_of_some _ ?_)
  exact (Heap.get?_update_other _ _ nb).trans (Heap.get?_push_of_some _ k1)
end
section
variable {X:Cx}{xr:XR}{e:Expr}{m:Ev}{pos:Pos}
noncomputable def IG (K:Frag)(w:World):List V->Hp->VK->Prop:=λ xs H Q=>∃(p:Addr) (vs:List Nat),xs=[.ref p]/\qx K H p (vs.map λ (v:Nat)=>V.int (v:Int))/\(∀v∈vs,v<8)/\∀l,H l=none->Q (.ref l) (upd H l (.ext λ h=>jT h l (jf w) (vs.foldl jU 0)))
theorem R9 (hc:X.calm=true):jx X (.type "set") (IG X.K X.w):=by
 intro pins s σ H xs us Q I r h
 obtain ⟨p,vs,rfl,hq,h8,q⟩:=h
 obtain ⟨u,rfl,ru⟩:=vals1 r
 cases ru
 obtain ⟨its,rv,⟨o,k,e1,e2,e3,e4⟩,_⟩:=I.list hq
 have hv:Vals ((vs.map λ (v:Nat)=>(v:Int)).map V.int) its:=by rw [List.map_map];exact rv
 refine Ts (I.ok.hd hc) ⟨o,e1,e2,k,e4⟩ (intsAre_of hv) h8 λ h' tk S' kp=>?_
 refine ⟨.ref s.heap.objs.size,_,I.laid (t':=tk) (o:=.ext λ h=>jT h s.heap.objs.size (jf X.w) (vs.foldl jU 0)) (λ b o e=>kp b o (Heap.lt_size e) e) (Nat.le_refl _) ⟨S',?_,λ h1 h2 a b=>a.keep b⟩,rfl,q _ (I.hok.fresh (Nat.le_refl _))⟩
 obtain ⟨o,es,ep,ho,_⟩:=S'
 exact ⟨o,ho⟩
theorem ZD:∀{ns:List Int} {its:List Value},IntsAre its ns->Vals (ns.map V.int) its
 | _,_,.nil=>.nil
 | _,_,.cons n t h=>.cons ⟨t,rfl⟩ (ZD h)
theorem TZ (hc:X.calm=true):jx X (.builtin "sorted") (λ xs H Q=>∃(p:Addr) (n:Nat),xs=[.ref p]/\H p=some (.ext λ h=>jT h p (jf X.w) n)/\∀l,H l=none->Q (.ref l) (upd H l (.lst ((zP n).map λ (v:Nat)=>V.int (v:Int))))):=by
 intro pins s σ H xs us Q I r h
 obtain ⟨p,n,rfl,hq,q⟩:=h
 obtain ⟨u,rfl,ru⟩:=vals1 r
 cases ru
 have hS:jT s.heap p (jf X.w) n:=(show qP X.prog X.w H s.heap p (.ext λ h=>jT h p (jf X.w) n) from I.hok p _ hq).1
 refine Sk (I.ok.hd hc) hS λ h' tk l its c hl hg hi kp=>?_
 have hv:=ZD hi
 rw [List.map_map] at hv
 refine ⟨.ref l,_,I.laid (t':=tk) (o:=.lst ((zP n).map λ (v:Nat)=>V.int (v:Int))) kp hl ⟨?_,its,c,hv,hg⟩,rfl,q _ (I.hok.fresh hl)⟩
 rw [List.length_map,sizeLine_eq]
 have:=ZM n
 omega
noncomputable def gq:List Int->Option (List Nat)
 | []=>some []
 | i::is=>if 0<=i/\i<8 then (gq is).map (i.toNat::·) else none
theorem XO:∀{is:List Int} {vs:List Nat},gq is=some vs->is=vs.map (λ (v:Nat)=>(v:Int))/\∀v∈vs,v<8
 | [],_,e=>by cases e;exact ⟨rfl,λ v hv=>by cases hv⟩
 | i::is,vs,e=>by
  unfold gq at e
  by_cases h:0<=i/\i<8
  ·rw [if_pos h] at e
   cases e1:gq is with
   | none=>rw [e1] at e;cases e
   | some us=>
    rw [e1] at e
    cases e
    obtain ⟨h1,h2⟩:=XO e1
    refine ⟨?_,λ v hv=>?_⟩
    ·rw [List.map_cons,<- h1,Int.toNat_of_nonneg h.1]
    ·rcases List.mem_cons.mp hv with rfl | hv
     ·omega
     ·exact h2 v hv
  ·rw [if_neg h] at e;cases e
noncomputable def KL:W->Hx->R W:=λ w A=>match w with
 | .ref n=>match A[n]? with
  | some (.lst ws)=>match intsOf ws with
   | some is=>match gq is with
    | some vs=>.ok (.ref A.length) (A++[.lst (((List.range 8).filter λ i=>decide (i∈vs)).map λ (i:Nat)=>W.int (i:Int))])
    | none=>.bad
   | none=>.bad
  | _=>.bad
 | _=>.bad
noncomputable def Jg (m:Ev):Ev:=λ ρ A=>(m ρ A).bind λ w A1=>KL w A1
end
theorem Ro (a b:Value):argsOk "sum" ⟨[a,b],[]⟩:=by unfold argsOk;kernel_rfl
theorem sub_list_str:isSubtype (.type "list") (.type "str")=pure false:=by rw [isSubtype_type];kernel_rfl
theorem sub_list_bytes:isSubtype (.type "list") (.type "bytes")=pure false:=by rw [isSubtype_type];kernel_rfl
theorem sub_list_bytearray:isSubtype (.type "list") (.type "bytearray")=pure false:=by rw [isSubtype_type];kernel_rfl
noncomputable abbrev y7 (xs:Array Value)(c:Nat):Obj:={ cls:=.type "list",dict:=none,data:=.seq xs c,slots:=#[] }
section
variable {prog:Program}{w:World}{A:Around}{R:Result->Shared->Prop}{I:Addr}{fp wr:List Addr}{G:Array GenState->Array GenState->Prop}{n:Nat}{P:Nat->Value->Prop}{St:Nat->Shared->Prop}
theorem R1 (W:WalksS prog w A.in1 I fp wr G n P St)(S B:Addr)(hSf:S∉fp)(hBS:B<=S)(ad:Nat->Addr)(its:Nat->List Value)(hval:∀i v,P i v->v=.ref (ad i))(had:∀i,i<n->ad i≠S/\ad i∉wr)(hwS:∀b∈wr,b<S):
  ∀(k i:Nat) (s:Shared) (T:Addr) (c cT:Nat) (acc:List Value),n - i=k->i<=n->St i s->s.heap.get? S=some (y7 #[.ref T] c)->T≠S->T∉wr->s.heap.get? T=some (y7 acc.toArray cT)->
   (∀j,i<=j->j<n->∃cj,s.heap.get? (ad j)=some (y7 (its j).toArray cj))->(acc++(((List.range' i k).map its).flatten)).length<=sizeLine->
   (∀s' T' c',Moved (S::wr) G s s'->s'.heap.get? T'=some (y7 (acc++(((List.range' i k).map its).flatten)).toArray c')->((k=0/\T'=T)∨B<=T')->R (.ok (.ret (.ref T'))) s')->
   codeAny (model prog w) A (.builtin "sum.loop" ⟨[.ref I,.ref S,rawInt 2,rawInt 0],[]⟩) R s:=by
 have hSw:S∉wr:=λ h=>hSf (W.sub _ h)
 have hsub:∀b∈wr,b∈S::wr:=λ b hb=>List.mem_cons_of_mem _ hb
 intro k
 induction k with
 | zero=>
  intro i s T c cT acc hk hi hst hS hTS hTw hT hl hz hR
  have hin:i=n:=by omega
  subst hin
  refine codeAny_builtin PySem.F.entry_sum_loop ?_
  rw [Around.under_plainId PySem.F.plain_sum_loop _]
  show wpAny _ A.in1 (seqItems? (.ref S) >>= _) _ _ s
  refine wpAny_bind (wpAny_seqItems hS rfl ?_)
  show wpAny _ A.in1 (tryCatch (pyNext (.ref I)) _ >>= _) _ _ s
  refine wpAny_bind (wpAny_tryCatch (W.done s _ _ hst λ s' hm=>?_))
  refine wpAny_pure (hR s' T cT (hm.mono hsub) ?_ (.inl ⟨rfl,rfl⟩))
  have:=hm.heap T _ hTw hT
  simpa using this
 | succ k ih=>
  intro i s T c cT acc hk hi hst hS hTS hTw hT hl hz hR
  have hlt:i<n:=by omega
  refine codeAny_builtin PySem.F.entry_sum_loop ?_
  rw [Around.under_plainId PySem.F.plain_sum_loop _]
  show wpAny _ A.in1 (seqItems? (.ref S) >>= _) _ _ s
  refine wpAny_bind (wpAny_seqItems hS rfl ?_)
  show wpAny _ A.in1 (tryCatch (pyNext (.ref I)) _ >>= _) _ _ s
  refine wpAny_bind (wpAny_tryCatch (W.item i s _ _ hlt hst λ v s' hP hst' hm=>?_))
  have hv:=hval i v hP
  subst hv
  have hS':=hm.heap S _ hSw hS
  have hT':=hm.heap T _ hTw hT
  obtain ⟨ci,hli⟩:=hl i (Nat.le_refl _) hlt
  have hli':=hm.heap (ad i) _ (had i hlt).2 hli
  rw [List.range'_succ,List.map_cons,List.flatten_cons,<- List.append_assoc] at hz hR
  have hz1:(acc++its i).length<=sizeLine:=by rw [List.length_append] at hz;omega
  show wpAny _ A.in1 ((holding [Value.ref (ad i)] (binaryOp .Add (.ref T) (.ref (ad i)))).attempt >>= _) _ _ _
  refine wpAny_bind (wpAny_attempt (wpAny_holding (PySem.P.add_list hT' hli' ?_ (by rw [List.size_toArray,List.size_toArray,<- List.length_append];exact hz1))))
  have ea:acc.toArray++(its i).toArray=(acc++its i).toArray:=by simp
  rw [ea]
  have ltS:S<s'.heap.objs.size:=Heap.lt_size hS'
  have hS1:=Heap.get?_push_of_some (y7 (acc++its i).toArray 0) hS'
  have hN1:(s'.heap.push (y7 (acc++its i).toArray 0)).get? s'.heap.objs.size=some (y7 (acc++its i).toArray 0):=Heap.get?_push_size _ rfl
  show wpAny _ A.in1 (updateSeq S (λ _=>#[.ref s'.heap.objs.size]) >>= _) _ _ _
  refine wpAny_bind (wpAny_updateSeq hS1 rfl ?_)
  have hS2:=Heap.get?_update_self (Obj.mapSeq λ _=>#[Value.ref s'.heap.objs.size]) hS1 rfl
  refine wpAny_bind (wpAny_letGo ?_)
  have neS:s'.heap.objs.size≠S:=Nat.ne_of_gt ltS
  have oth:∀b o,b≠S->s'.heap.get? b=some o->(((s'.heap.push (y7 (acc++its i).toArray 0)).update S (Obj.mapSeq λ _=>#[Value.ref s'.heap.objs.size])).update S (Obj.mapSeq λ _=>#[Value.ref s'.heap.objs.size])).get? b=some o:=
   λ b o hb e=>(Heap.get?_update_other _ _ (Ne.symm hb)).trans ((Heap.get?_update_other _ _ (Ne.symm hb)).trans (Heap.get?_push_of_some _ e))
  have nwr:s'.heap.objs.size∉wr:=λ hm2=>Nat.lt_irrefl _ (Nat.lt_trans (hwS _ hm2) ltS)
  refine wpAny_bind (wpAny_updateSeq hS2 rfl (wpAny_pure ⟨plainId_quiet PySem.F.plain_sum_loop _,ih (i+1) _ s'.heap.objs.size _ 0 (acc++its i) (by omega) hlt (W.frame _ s' _ _ hst' (by first | exact Nat.le_refl _ | exact Nat.le_succ _ | omega) λ b hb o e=>oth b o (λ h=>hSf (h ▸ hb)) e) (Heap.get?_update_self _ hS2 rfl) neS nwr ?_ ?_ hz λ s'' T'' c'' hm'' hT'' hor=>?_⟩))
  ·exact (Heap.get?_update_other _ _ (Ne.symm neS)).trans ((Heap.get?_update_other _ _ (Ne.symm neS)).trans hN1)
  ·intro j h1 h2
   obtain ⟨cj,hj⟩:=hl j (by omega) h2
   exact ⟨cj,oth _ _ (had j h2).1 (hm.heap _ _ (had j h2).2 hj)⟩
  ·refine hR s'' T'' c'' (Moved.trans W.gtrans ((hm.mono hsub).then_heap (by first | exact Nat.le_refl _ | exact Nat.le_succ _ | omega) λ b o hb e=>oth b o (λ h=>hb (by rw [h];exact List.mem_cons_self)) e) hm'') hT'' (.inr ?_)
   rcases hor with ⟨_,rfl⟩ | h
   ·exact Nat.le_of_lt (Nat.lt_of_le_of_lt hBS ltS)
   ·exact h
end
section
variable {prog:Program}{w:World}{A:Around}{E:Value->Shared->Prop}{s:Shared}
theorem RK {p q:Addr}{cq:Nat}{ads:List Addr}{itss:List (List Value)}{Q:Value->Shared->Prop}(hh:A.handled=none)(hp:s.heap.IsList p (ads.map Value.ref).toArray)(hq:s.heap.get? q=some (y7 #[] cq))
  (hlen:ads.length=itss.length)(hl:∀i,i<ads.length->∃c,s.heap.get? (ads.getD i 0)=some (y7 (itss.getD i []).toArray c))(hne:ads≠[])(hz:itss.flatten.length<=sizeLine)
  (h:∀(h':Heap) (tk:Nat) (l:Addr) (c:Nat),s.heap.objs.size<=l->h'.get? l=some (y7 itss.flatten.toArray c)->(∀b o,s.heap.get? b=some o->h'.get? b=some o)->Q (.ref l) { s with heap:=h',toks:=tk }):
  wpAny (model prog w) A (call (.builtin "sum") [.ref p,.ref q]) Q E s:=by
 refine call_function_tree PySem.F.kind_sum PySem.F.plain_sum PySem.F.entry_sum (Ro _ _) ?_
 unfold Builtin.«sum»
 simp only [List.length_cons,List.length_nil]
 rw [if_neg (by decide)]
 refine wpAny_bind (wpAny_of_eq (show Builtin.Builtins.bindParams "sum" ["start"] 0 ⟨[.ref q],[]⟩=pure [some (.ref q)] from rfl) ?_)
 refine wpAny_bind (wpAny_pyIter_list hp ?_)
 refine wpAny_bind (wpAny_pure ?_)
 generalize hio:({ cls:=.type "list_iterator",data:=.fields #[.ref p,.int 0 0] }:Obj)=io
 have hq1:(s.heap.push io).get? q=some (y7 #[] cq):=Heap.get?_push_of_some _ hq
 have hT:Shared.TypeIs { s with heap:=s.heap.push io } (.ref q) "list" := ⟨_,hq1,rfl⟩
 simp only [List.forIn_cons,List.forIn_nil]
 refine wpAny_bind (wpAny_bind (wpAny_bind (wpAny_isInstance (b:=false) hT sub_list_str ?_)))
 simp only [Bool.false_eq_true,if_false]
 refine wpAny_pure (wpAny_bind (wpAny_bind (wpAny_isInstance (b:=false) hT sub_list_bytes ?_)))
 simp only [Bool.false_eq_true,if_false]
 refine wpAny_pure (wpAny_bind (wpAny_bind (wpAny_isInstance (b:=false) hT sub_list_bytearray ?_)))
 simp only [Bool.false_eq_true,if_false]
 refine wpAny_pure (wpAny_pure ?_)
 refine wpAny_bind (wpAny_newObj_type ?_)
 have sz:(s.heap.push io).objs.size=s.heap.objs.size+1:=Heap.size_push ..
 have ltp:p<s.heap.objs.size:=by obtain ⟨o,e,_⟩:=hp;exact Heap.lt_size e
 have ltq:q<s.heap.objs.size:=Heap.lt_size hq
 have ltI:s.heap.objs.size<(s.heap.push io).objs.size:=by rw [sz];exact Nat.lt_succ_self _
 have ltS:∀b,b<s.heap.objs.size->b<(s.heap.push io).objs.size:=λ b hb=>Nat.lt_trans hb ltI
 have W:=(Walks.list (prog:=prog) (w:=w) (A:=A.in1) (by simp [hh]) s.heap.objs.size p (Nat.ne_of_lt ltp) (ads.map Value.ref).toArray).toS
 have esz:(ads.map Value.ref).toArray.size=ads.length:=by simp
 rw [esz] at W
 have hSf:(s.heap.push io).objs.size∉[s.heap.objs.size,p]:=λ hm=>by
  rcases List.mem_cons.mp hm with z | hm
  ·exact Nat.ne_of_gt ltI z
  ·exact Nat.ne_of_gt (ltS p ltp) (List.mem_singleton.mp hm)
 have hlt:∀i,i<ads.length->ads.getD i 0<s.heap.objs.size:=λ i hi=>by obtain ⟨c,e⟩:=hl i hi;exact Heap.lt_size e
 have gio:(s.heap.push io).get? s.heap.objs.size=some io:=Heap.get?_push_size _ (by rw [<- hio];rfl)
 have hcat:((List.range' 0 ads.length).map λ j=>itss.getD j []).flatten=itss.flatten:=by
  congr 1
  rw [hlen]
  apply List.ext_getElem
  ·simp
  ·intro i h1 h2
   simp [List.getD_eq_getElem?_getD,List.getElem?_eq_getElem h2]
 refine wpAny_pure ⟨plainId_quiet PySem.F.plain_sum_loop _,R1 W (s.heap.push io).objs.size s.heap.objs.size hSf (Nat.le_of_lt ltI) (λ i=>ads.getD i 0) (λ i=>itss.getD i []) (λ i v e=>?_) (λ i hi=>⟨Nat.ne_of_lt (ltS _ (hlt i hi)),λ hm=>?_⟩) (λ b hb=>?_)
  ads.length 0 _ q 0 cq [] (by omega) (Nat.zero_le _) ⟨⟨io,Heap.get?_push_of_some _ gio,by rw [<- hio],by rw [<- hio];rfl⟩,(hp.push _).push _⟩ (Heap.get?_push_size _ rfl) (Nat.ne_of_lt (ltS q ltq)) (λ hm=>?_) (Heap.get?_push_of_some _ hq1) (λ j _ hj=>?_) ?_ λ s' T' c' hm hT' hor=>?_⟩
 ·have hi:i<ads.length:=by
   have:=(Array.getElem?_eq_some_iff.mp e).1
   simpa using this
  have e2:(ads.map Value.ref)[i]? =some v:=by simpa using e
  rw [List.getElem?_map,List.getElem?_eq_getElem hi] at e2
  rw [List.getD_eq_getElem?_getD,List.getElem?_eq_getElem hi]
  exact (Option.some.inj e2).symm
 ·exact Nat.ne_of_lt (hlt i hi) (List.mem_singleton.mp hm)
 ·rw [List.mem_singleton.mp hb];exact ltI
 ·exact Nat.ne_of_lt ltq (List.mem_singleton.mp hm)
 ·obtain ⟨c,e⟩:=hl j hj
  exact ⟨c,Heap.get?_push_of_some _ (Heap.get?_push_of_some _ e)⟩
 ·rw [List.nil_append,hcat];exact hz
 ·rw [List.nil_append,hcat] at hT'
  have hB:s.heap.objs.size<=T':=by
   rcases hor with ⟨h0,_⟩ | h0
   ·exact absurd (List.length_eq_zero_iff.mp h0) hne
   ·exact h0
  obtain ⟨h',g',d',tk',os'⟩:=s'
  have e1:g'=s.gens:=hm.gens
  have e2:d'=s.drawn:=hm.drawn
  have e3:os'=s.os:=hm.os
  subst e1 e2 e3
  refine h h' tk' T' c' hB hT' λ b o e=>hm.heap b o (λ hm2=>?_) (Heap.get?_push_of_some _ (Heap.get?_push_of_some _ e))
  have lb:b<s.heap.objs.size:=Heap.lt_size e
  rcases List.mem_cons.mp hm2 with z | z
  ·exact Nat.ne_of_lt (ltS b lb) z
  ·exact Nat.ne_of_lt lb (List.mem_singleton.mp z)
end
section
variable {X:Cx}{xr:XR}{a b:Expr}{ma mb:Ev}{pos:Pos}{K:Frag}
noncomputable def Ul (K:Frag):List V->Hp->VK->Prop:=λ xs H Q=>∃(p q:Addr) (ls:List (Addr × List V)),xs=[.ref p,.ref q]/\H p=some (.lst (ls.map λ l=>V.ref l.1))/\H q=some (.lst [])/\(∀l∈ls,H l.1=some (.lst l.2))/\ls≠[]/\(ls.map (·.2)).flatten.length<=zW/\
 ∀l,H l=none->Q (.ref l) (upd H l (.lst (ls.map (·.2)).flatten))
theorem Xs:∀{ls:List (Addr × List V)} {us:List Value},Vals (ls.map λ l=>V.ref l.1) us->us=(ls.map (·.1)).map Value.ref
 | [],_,h=>by cases h;rfl
 | l::ls,_,h=>by
  cases h with
  | cons r t=>cases r;rw [Xs t];rfl
theorem Rt (hc:X.calm=true):jx X (.builtin "sum") (Ul X.K):=by
 intro pins s σ H xs us Q I r h
 obtain ⟨p,q,ls,rfl,hp,hq,hl,hne,hz,k⟩:=h
 obtain ⟨u,v,rfl,ru,rv⟩:=Vals.two r
 cases ru
 cases rv
 obtain ⟨_,itp,np,rp,_,ep⟩:=I.lstM hp
 obtain ⟨_,itq,nq,rq,lq,eq⟩:=I.lstM hq
 have hitq:itq=[]:=by cases rq;rfl
 subst hitq
 have hitp:=Xs rp
 subst hitp
 have hex:∀ls':List (Addr × List V),(∀l∈ls',H l.1=some (.lst l.2))->∃itss:List (List Value),itss.length=ls'.length/\(∀i,i<ls'.length->∃c,s.heap.get? ((ls'.map (·.1)).getD i 0)=some (y7 (itss.getD i []).toArray c))/\Vals (ls'.map (·.2)).flatten itss.flatten:=by
  intro ls'
  induction ls' with
  | nil=>intro _;exact ⟨[],rfl,λ i hi=>absurd hi (Nat.not_lt_zero _),.nil⟩
  | cons l ls' ih=>
   intro hm
   obtain ⟨itss,h1,h2,h3⟩:=ih λ x hx=>hm x (List.mem_cons_of_mem _ hx)
   obtain ⟨_,it,n,r1,_,e1⟩:=I.lstM (hm l (List.mem_cons_self ..))
   refine ⟨it::itss,by simp [h1],λ i hi=>?_,?_⟩
   ·cases i with
    | zero=>exact ⟨n,e1⟩
    | succ i=>exact h2 i (by simpa using hi)
   ·rw [List.map_cons,List.flatten_cons,List.flatten_cons]
    exact r1.append h3
 obtain ⟨itss,h1,h2,h3⟩:=hex ls hl
 have hfl:itss.flatten.length=(ls.map (·.2)).flatten.length:=h3.length.symm
 refine RK (I.ok.hd hc) (itss:=itss) ⟨_,ep,rfl,np,rfl⟩ eq (by simp [h1]) (λ i hi=>h2 i (by simpa using hi)) (λ e=>hne (List.map_eq_nil_iff.mp e)) (by rw [hfl];exact wD hz) λ h' tk l c hl' hg kp=>?_
 exact ⟨.ref l,_,I.laid (t':=tk) (o:=.lst (ls.map (·.2)).flatten) kp hl' ⟨wD hz,itss.flatten,c,h3,hg⟩,rfl,k _ (I.hok.fresh hl')⟩
noncomputable def kf (A:Hx):List W->Option (List (List W))
 | []=>some []
 | .ref k::us=>match A[k]? with
  | some (.lst ws)=>(kf A us).map (ws::·)
  | _=>none
 | _::_=>none
noncomputable def wL:W->W->Hx->R W:=λ x y A=>match x,y with
 | .ref n,.ref k=>match A[n]?,A[k]? with
  | some (.lst us),some (.lst [])=>match kf A us with
   | some wss=>if us≠[]/\wss.flatten.length<=zW then .ok (.ref A.length) (A++[.lst wss.flatten]) else .bad
   | none=>.bad
  | _,_=>.bad
 | _,_=>.bad
theorem O1:∀x y A,ql (wL x y A):=λ x y A=>by
 unfold wL
 split
 ·split
  ·split
   ·exact wa jq qu
   ·exact qu
  ·exact qu
 ·exact qu
theorem zx.app {φ:List Addr}{H:Hp}:∀{ws us:List W} {xs ys:List V},zx K φ H ws xs->zx K φ H us ys->zx K φ H (ws++us) (xs++ys)
 | [],_,_,_,h,h2=>by cases h;exact h2
 | w::ws,_,_,_,⟨v,r,e,h,t⟩,h2=>by subst e;exact ⟨v,_,rfl,h,zx.app t h2⟩
theorem Xb {φ:List Addr}{A:Hx}{H:Hp}(S:zF K φ A H):∀{us:List W} {wss:List (List W)} {vs:List V},kf A us=some wss->zx K φ H us vs->∃ls:List (Addr × List V),vs=ls.map (λ l=>V.ref l.1)/\(∀l∈ls,H l.1=some (.lst l.2))/\zx K φ H wss.flatten (ls.map (·.2)).flatten/\ls.length=us.length
 | [],_,_,e,h=>by cases e;cases h;exact ⟨[],rfl,λ l hl=>(by cases hl),rfl,rfl⟩
 | u::us,wss,_,e,⟨v,r,e1,h,t⟩=>by
  subst e1
  cases u with
  | ref k=>
   unfold kf at e
   cases ek:A[k]? with
   | none=>rw [ek] at e;cases e
   | some o=>cases o with
    | lst ws=>
     rw [ek] at e
     dsimp only at e
     cases e2:kf A us with
     | none=>rw [e2] at e;cases e
     | some wss'=>
      rw [e2] at e
      cases e
      obtain ⟨p,xs,rfl,_,hp,rr⟩:=S.lst h ek
      obtain ⟨ls,rfl,h2,h3,h4⟩:=Xb S e2 t
      refine ⟨(p,xs)::ls,rfl,λ l hl=>?_,zx.app rr h3,by simp [h4]⟩
      rcases List.mem_cons.mp hl with rfl | hl
      ·exact hp
      ·exact h2 l hl
    | _=>rw [ek] at e;cases e
  | _=>cases e
theorem PY:jI K (λ x y=>Ul K [x,y]) wL:=λ φ A H x y u v Q S q1 q2 p=>by
 unfold wL at p
 cases u with
 | ref n=>cases v with
  | ref k=>
   dsimp only at p
   cases en:A[n]? with
   | none=>rw [en] at p;exact p.elim
   | some o=>cases o with
    | lst us=>
     cases ek:A[k]? with
     | none=>rw [en,ek] at p;exact p.elim
     | some o2=>cases o2 with
      | lst zs=>cases zs with
       | nil=>
        rw [en,ek] at p
        dsimp only at p
        cases e3:kf A us with
        | none=>rw [e3] at p;exact p.elim
        | some wss=>
         rw [e3] at p
         dsimp only at p
         by_cases hc:us≠[]/\wss.flatten.length<=zW
         ·rw [if_pos hc] at p
          obtain ⟨pa,xs,rfl,_,hp,rr⟩:=S.lst q1 en
          obtain ⟨pb,ys,rfl,_,hq,rr2⟩:=S.lst q2 ek
          cases rr2
          obtain ⟨ls,rfl,h2,h3,h4⟩:=Xb S e3 rr
          refine ⟨pa,pb,ls,rfl,hp,hq,h2,λ e=>?_,by rw [<- h3.length];exact hc.2,λ l hl=>?_⟩
          ·rw [e] at h4
           exact hc.1 (List.length_eq_zero_iff.mp h4.symm)
          ·obtain ⟨a1,a2,a3⟩:=gn S hl h3
           exact p _ _ _ a1 a2 a3
         ·rw [if_neg hc] at p;exact p.elim
       | cons _ _=>rw [en,ek] at p;exact p.elim
      | _=>rw [en,ek] at p;exact p.elim
    | _=>rw [en] at p;exact p.elim
  | _=>exact p.elim
 | _=>cases v<;>exact p.elim
end
section
variable {X:Cx}{xr:XR}{a b:Expr}{ma mb:Ev}{pos:Pos}
noncomputable def MU (ta:TA):TE:=λ σ H Q=>ta σ H λ vs H1=>∃i j:Int,vs=[.int i,.int j]/\∀p,H1 p=none->Q (.ref p) (upd H1 p (.rng i j))
theorem Ov {ta:TA}{p:Pos}(hg:Gl X "range")(hm:X.mg "range" = none)(ha:PA X [a,b] ta)(hs:starEach [a,b] X.env=[(false,eval a X.env),(false,eval b X.env)])(hs2:starEach [b] X.env=[(false,eval b X.env)]):PE X (.Call (.Name "range" p) [a,b] [] pos) (MU ta):=by
 intro pins s σ H Q I h
 refine Call_ (gy I hg hm boot_range (PyProof.Rows.callWith_type1 (zO (ha pos pins s σ H _ I h) λ us s1 ⟨vs,H1,I1,r1,q1⟩=>?_) (by rw [hs,hs2]) (by rw [hs2];rfl)))
 obtain ⟨i,j,rfl,q⟩:=q1
 obtain ⟨u,v,rfl,⟨t,rfl⟩,⟨t2,rfl⟩⟩:=Vals.two r1
 refine call_range_2 ⟨.ref _,_,I1.laid (o:=.rng i j) (λ b o eo=>Heap.get?_push_of_some _ eo) (Nat.le_refl _) ?_,rfl,q _ (I1.hok.fresh (Nat.le_refl _))⟩
 exact ⟨_,_,_,Heap.get?_push_size _ rfl⟩
noncomputable def Ze (lo:Int)(n:Nat):List V:=(List.range n).map λ (i:Nat)=>V.int (lo+i)
theorem Sz (hc:X.calm=true):jx X (.type "list") (λ xs H Q=>∃(r:Addr) (i j:Int),xs=[.ref r]/\H r=some (.rng i j)/\(-(2 ^ 62)<=i/\i<2 ^ 62)/\(-(2 ^ 62)<=j/\j<2 ^ 62)/\(j - i).toNat<=sizeLine/\∀l,H l=none->Q (.ref l) (upd H l (.lst (Ze i (j - i).toNat)))):=by
 intro pins s σ H xs us Q I r h
 obtain ⟨p,i,j,rfl,hp,⟨a1,a2⟩,⟨b1,b2⟩,hz,q⟩:=h
 obtain ⟨u,rfl,ru⟩:=vals1 r
 cases ru
 obtain ⟨t1,t2,t3,ho⟩:=I.hok p _ hp
 have hl:sizeLine=16777216:=sizeLine_eq
 refine PySem.call_list_range (n:=(j - i).toNat) (I.ok.hd hc) (show IsRange s.heap p i j 1 t1 t2 t3 from ho) (small_one (by omega) (by omega) b1 b2) (by rw [rangeSize_one];split<;>omega) (by omega) λ h' tk acc c' kk hS ⟨hn,hat⟩=>?_
 refine ⟨.ref s.heap.objs.size,_,I.laid (t':=tk) (o:=.lst (Ze i (j - i).toNat)) kk (Nat.le_refl _) ?_,rfl,q _ (I.hok.fresh (Nat.le_refl _))⟩
 refine ⟨by unfold Ze;simpa using hz,acc.toList,c',?_,by simpa using hS⟩
 have hv:∀(l:List Value) (k:Nat),(∀(m:Nat) v,l[m]? =some v->∃t,v=.int (i+((k+m:Nat):Int)) t)->Vals ((List.range' k l.length).map λ (m:Nat)=>V.int (i+(m:Int))) l:=by
  intro l
  induction l with
  | nil=>intro k _;exact .nil
  | cons v l ih=>
   intro k hk
   rw [List.length_cons,List.range'_succ,List.map_cons]
   refine .cons ?_ (ih (k+1) λ m v' hv=>?_)
   ·obtain ⟨t,rfl⟩:=hk 0 v rfl
    exact ⟨t,rfl⟩
   ·obtain ⟨t,rfl⟩:=hk (m+1) v' (by simpa using hv)
    exact ⟨t,by first | rfl | (congr 1<;>omega) | (simp;omega)⟩
 have hl':acc.toList.length=(j - i).toNat:=by simpa using hn
 have:=hv acc.toList 0 λ m v hiv=>by
  obtain ⟨t,rfl⟩:=hat m v (by simpa using hiv)
  exact ⟨t,by first | rfl | (congr 1<;>omega) | (simp;omega)⟩
 rw [hl'] at this
 unfold Ze
 rw [List.range_eq_range']
 exact this
noncomputable def Qk (ma mb:Ev):Ev:=λ ρ A=>(ma ρ A).bind λ x A1=>(mb ρ A1).bind λ y A2=>match x,y with
 | .int i,.int j=>if jk i&&(jk j&&decide ((j - i).toNat<=zW)) then .ok (.ref A2.length) (A2++[.lst ((List.range (j - i).toNat).map λ (k:Nat)=>W.int (i+k))]) else .bad
 | _,_=>.bad
end
section
variable {prog:Program}{w:World}{A:Around}{E:Value->Shared->Prop}{s:Shared}
theorem U5 {t sl:Addr}{items:Array Value}{vl vu:Value}{lo hi:Option Int}{Q:Value->Shared->Prop}(ht:IsTup s.heap t items)(hs:s.heap.IsSliceOf sl vl vu .none)(pl:IsPart vl lo)(pu:IsPart vu hi)
  (hw:HT.qa items.size 0 lo=0/\HT.qa items.size items.size hi=items.size)(h:Q (.ref t) s):wpAny (model prog w) A (getItem (.ref t) (.ref sl)) Q E s:=by
 obtain ⟨os,hos,hcs,hds⟩:=id hs
 have hTs:s.TypeIs (.ref sl) "slice" := ⟨os,hos,hcs⟩
 unfold getItem
 try with_reducible refine wpAny_holding ?_
 first | refine wpAny_bind (wpAny_pure ?_) | skip
 refine wpAny_bind (wpAny_sequenceKey ht.typeIs (by decide) ?_)
 refine wpAny_bind (wpAny_callSpecial?_slot (name:=Str.ofString "__getitem__") ht.typeIs PyProof.Rows.slot_tuple_getitem
  (wpAny_call_entry PyProof.Rows.slot_tuple_getitem ht.typeIs PyProof.Rows.entry_tuple_getitem ?_ (PyProof.Rows.args_tuple_getitem _ _)))
 show wpAny _ _ (Builtin.Tuple.tupleItemsOf (.ref t) >>= _) _ _ s
 refine wpAny_bind (PyProof.Rows.tupleItemsOf_ ht ?_)
 refine wpAny_bind (wpAny_typeOf hTs ?_)
 rw [if_pos (by decide)]
 refine wpAny_bind (HT.GS hs pl pu ?_)
 show wpAny _ _ (if (((HT.qa items.size 0 lo:Nat):Int)==0&&(1:Int)==1&&(HT.qa items.size items.size hi - HT.qa items.size 0 lo)==items.size)=true then _ else _) _ _ s
 rw [if_pos (by rw [hw.1,hw.2];simp)]
 unfold Builtin.Tuple.tupleIsExact
 refine wpAny_bind (wpAny_bind (wpAny_typeOf ht.typeIs (wpAny_pure ?_)))
 rw [if_pos (by decide)]
 refine wpAny_bind (wpAny_rule ?_)
 first
  | exact wpAny_pure ⟨_,rfl,wpAny_pure h⟩
  | exact wpAny_bind (wpAny_pure (wpAny_pure ⟨_,rfl,wpAny_pure h⟩))
end
section
variable {X:Cx}{xr:XR}{e a b:Expr}{m ma mb:Ev}{pos p2:Pos}{lo hi:Option Expr}{K:Frag}
noncomputable def Hw (K:Frag):V->Option Int->Option Int->Hp->VK->Prop:=λ x lo hi H Q=>∃a xs,x=.ref a/\qd K H a xs/\
 ((HT.qa xs.length 0 lo=0/\HT.qa xs.length xs.length hi=xs.length)->Q (.ref a) H)/\
 (¬(HT.qa xs.length 0 lo=0/\HT.qa xs.length xs.length hi=xs.length)->∀p,H p=none->Q (.ref p) (upd H p (.tup (Zn xs lo hi))))
theorem Nv:Gq X (Hw X.K):=by
 intro pins s σ H x v vl vu lo hi sl Q I rx hs pl pu h
 obtain ⟨a,xs,rfl,hx,q1,q2⟩:=h
 by_cases hw:HT.qa xs.length 0 lo=0/\HT.qa xs.length xs.length hi=xs.length
 ·cases rx
  obtain ⟨its,r,ht,hz⟩:=I.tuple hx
  have hlen:its.toArray.size=xs.length:=by rw [List.size_toArray];exact r.length.symm
  exact ⟨"tuple",_,PyProof.Rows.slot_tuple_getitem.lookup,ht.typeIs,U5 ht hs pl pu (by rw [hlen];exact hw) ⟨.ref a,H,I,rfl,q1 hw⟩⟩
 ·exact LH pins s σ H _ v vl vu lo hi sl Q I rx hs pl pu ⟨a,xs,rfl,hx,hw,q2 hw⟩
noncomputable abbrev Po:=En->Hx->R (Option Int)
noncomputable def ja:Po:=λ _ A=>.ok none A
noncomputable def qC (m:Ev):Po:=λ ρ A=>(m ρ A).bind λ w A1=>match w with
 | .int i=>.ok (some i) A1
 | _=>.bad
noncomputable def j0 (ws:List W)(lo hi:Option Int):List W:=(ws.drop (HT.qa ws.length 0 lo)).take (HT.qa ws.length ws.length hi - HT.qa ws.length 0 lo)
noncomputable def qJ (m:Ev)(pl pu:Po):Ev:=λ ρ A=>(m ρ A).bind λ w A1=>(pl ρ A1).bind λ l A2=>(pu ρ A2).bind λ u A3=>match w with
 | .tup ws=>.ok (.tup (j0 ws l u)) A3
 | _=>.bad
inductive MP (K:Frag)(xr:XR)(p:Po)(σ:St)(H:Hp)(Q:Option Int->Hp->Prop):Prop
 | mk (φ:List Addr) (A:Hx) (ρ:En) (S:zF K φ A H) (re:RE K φ H ρ σ) (h:(p ρ A).post (λ o A1=>∀φ1 H1,Le K φ H φ1 H1->zF K φ1 A1 H1->Q o H1) (EB K φ H xr))
noncomputable def tP (K:Frag)(xr:XR)(p:Po):TO:=λ σ H Q=>MP K xr p σ H Q
noncomputable def SP (X:Cx)(xr:XR)(e:Option Expr)(p:Po):Prop:=PO X e (tP X.K xr p)
theorem PO.imp {e:Option Expr}{t t':TO}(h:PO X e t)(i:∀σ H Q,t' σ H Q->t σ H Q):PO X e t':=λ pins s σ H Q I hw=>h pins s σ H Q I (i σ H Q hw)
theorem ye (ha:SE X xr e m):SP X xr (some e) (qC m):=PO.imp (NT ha) λ σ H Q ⟨φ,A,ρ,S,re,h⟩=>by
 refine tM.go S re (zU.mp h) λ w A1 φ1 H1 v h1 l1 S1 q1=>?_
 cases w with
 | int i=>obtain rfl:=q1;exact ⟨i,rfl,h1 φ1 H1 l1 S1⟩
 | _=>exact h1.elim
end
theorem Pn (xs:Array Value):((List.range xs.size).filterMap λ (k:Nat)=>xs[(((xs.size:Int) - 1)+(k:Int) * (-1)).toNat]?).toArray=xs.toList.reverse.toArray:=by
 congr 1
 have e:∀k,k<xs.size->xs[(((xs.size:Int) - 1)+(k:Int) * (-1)).toNat]? =some (xs.toList.reverse.getD k .none):=λ k hk=>by
  have h1:(((xs.size:Int) - 1)+(k:Int) * (-1)).toNat=xs.size - 1 - k:=by omega
  rw [h1,List.getD_eq_getElem?_getD,List.getElem?_reverse (by simpa using hk),Array.getElem?_toList,Array.length_toList,Array.getElem?_eq_getElem (by omega)]
  rfl
 have e2:((List.range xs.size).filterMap λ (k:Nat)=>xs[(((xs.size:Int) - 1)+(k:Int) * (-1)).toNat]?)=(List.range xs.size).map λ k=>xs.toList.reverse.getD k .none:=by
  have hh:∀l:List Nat,(∀k∈l,k<xs.size)->(l.filterMap λ (k:Nat)=>xs[(((xs.size:Int) - 1)+(k:Int) * (-1)).toNat]?)=l.map λ k=>xs.toList.reverse.getD k .none:=by
   intro l
   induction l with
   | nil=>intro _;rfl
   | cons k l ih=>
    intro hk
    rw [List.filterMap_cons,e k (hk k (List.mem_cons_self ..)),List.map_cons,ih λ j hj=>hk j (List.mem_cons_of_mem _ hj)]
  exact hh _ λ k hk=>List.mem_range.mp hk
 rw [e2]
 apply List.ext_getElem
 ·simp
 ·intro i h1 h2
  rw [List.getElem_map,List.getElem_range,List.getD_eq_getElem?_getD,List.getElem?_eq_getElem h2]
  rfl
section
variable {prog:Program}{w:World}{A:Around}{E:Value->Shared->Prop}{s:Shared}
theorem U9 {t sl:Addr}{tk:Tok}{items:Array Value}{Q:Value->Shared->Prop}(ht:IsTup s.heap t items)(hs:s.heap.IsSliceOf sl .none .none (.int (-1) tk))(hne:0<items.size)
  (h:Q (.ref s.heap.objs.size) { s with heap:=s.heap.push { cls:=.type "tuple",data:=.seq items.toList.reverse.toArray } })(hsz:items.size<=sizeLine):wpAny (model prog w) A (getItem (.ref t) (.ref sl)) Q E s:=by
 obtain ⟨os,hos,hcs,hds⟩:=id hs
 have hTs:s.TypeIs (.ref sl) "slice" := ⟨os,hos,hcs⟩
 have htake:sizeOk (.seq items.toList.reverse.toArray):=by
  show items.toList.reverse.toArray.size<=sizeLine
  simpa using hsz
 unfold getItem
 try with_reducible refine wpAny_holding ?_
 first | refine wpAny_bind (wpAny_pure ?_) | skip
 refine wpAny_bind (wpAny_sequenceKey ht.typeIs (by decide) ?_)
 refine wpAny_bind (wpAny_callSpecial?_slot (name:=Str.ofString "__getitem__") ht.typeIs PyProof.Rows.slot_tuple_getitem
  (wpAny_call_entry PyProof.Rows.slot_tuple_getitem ht.typeIs PyProof.Rows.entry_tuple_getitem ?_ (PyProof.Rows.args_tuple_getitem _ _)))
 show wpAny _ _ (Builtin.Tuple.tupleItemsOf (.ref t) >>= _) _ _ s
 refine wpAny_bind (PyProof.Rows.tupleItemsOf_ ht ?_)
 refine wpAny_bind (wpAny_typeOf hTs ?_)
 rw [if_pos (by decide)]
 have hap:∀{Q':Int × Int × Nat->Shared->Prop},Q' ((items.size:Int) - 1,-1,items.size) s->wpAny (model prog w) A.in1 (Builtin.Slice.sliceApplied (.ref sl) (pure (items.size:Int))) Q' E s:=λ {Q'} hq=>by
  unfold Builtin.Slice.sliceApplied Builtin.Slice.sliceFields
  refine wpAny_bind (wpAny_bind (wpAny_field hos hds (x:=.none) rfl (wpAny_bind (wpAny_field hos hds (x:=.none) rfl (wpAny_bind (wpAny_field hos hds (x:=.int (-1) tk) rfl (wpAny_pure ?_)))))))
  refine wpAny_bind (HT.Z9 (.int (-1) tk) ?_)
  show wpAny _ _ (if (((-1:Int))==0)=true then _ else _) _ _ s
  rw [if_neg (by decide)]
  refine wpAny_bind (HT.Z9 .none (wpAny_bind (HT.Z9 .none (wpAny_bind (wpAny_pure ?_)))))
  have e1:Builtin.Slice.sliceAdjust none none (-1) (items.size:Int)=((items.size:Int) - 1,-1):=rfl
  show wpAny _ _ (match Builtin.Slice.sliceAdjust none none (-1) (items.size:Int) with | (lo,hi)=>pure (lo,(-1:Int),Builtin.Slice.slicePlaces lo hi (-1))) _ _ s
  rw [e1]
  have e2:Builtin.Slice.slicePlaces ((items.size:Int) - 1) (-1) (-1)=items.size:=by
   unfold Builtin.Slice.slicePlaces
   rw [if_neg (by decide),if_pos (by omega)]
   simp
  show wpAny _ _ (pure ((items.size:Int) - 1,(-1:Int),Builtin.Slice.slicePlaces ((items.size:Int) - 1) (-1) (-1))) _ _ s
  rw [e2]
  exact wpAny_pure hq
 refine wpAny_bind (hap ?_)
 show wpAny _ _ (if (((items.size:Int) - 1==0&&(-1:Int)==1&&items.size==items.size))=true then _ else _) _ _ s
 rw [if_neg (by simp),Pn]
 first
  | exact wpAny_bind (m:=Builtin.Tuple.tupleExact _) (wpAny_newObj_type (wpAny_pure ⟨_,rfl,wpAny_pure h⟩) htake)
  | exact wpAny_bind (m:=Builtin.Tuple.tupleExact _) (wpAny_newObj_type (wpAny_bind (wpAny_pure (wpAny_pure ⟨_,rfl,wpAny_pure h⟩))) htake)
  | exact wpAny_bind (wpAny_bind (m:=Builtin.Tuple.tupleExact _) (wpAny_newObj_type (wpAny_pure (wpAny_pure ⟨_,rfl,wpAny_pure h⟩)) htake))
  | exact wpAny_bind (wpAny_bind (m:=Builtin.Tuple.tupleExact _) (wpAny_newObj_type (wpAny_pure ⟨_,rfl,wpAny_pure h⟩) htake))
end
section
variable {X:Cx}{xr:XR}{e st:Expr}{m ms:Ev}{te:TE}{ts:TO}{pos p2:Pos}{K:Frag}
noncomputable def IZ (K:Frag):V->Hp->VK->Prop:=λ x H Q=>∃a xs,x=.ref a/\qd K H a xs/\xs≠[]/\∀p,H p=none->Q (.ref p) (upd H p (.tup xs.reverse))
theorem TU {xs:List V}{us:List Value}(h:Vals xs us):Vals xs.reverse us.reverse:=by
 induction h with
 | nil=>exact .nil
 | cons r t ih=>rw [List.reverse_cons,List.reverse_cons];exact ih.append (.cons r .nil)
theorem LG (he:PE X e te)(hs:PO X (some st) ts):PE X (.Subscript e (.Slice none none (some st) p2) pos) (λ σ H Q=>te σ H λ x H1=>ts σ H1 λ o H2=>o=some (-1)/\IZ X.K x H2 Q):=by
 intro pins s σ H Q I h
 refine Subscript_ (zO (he pins s σ H _ I h) λ v s1 ⟨x,H1,I1,r1,q1⟩=>?_)
 refine wpAny_Slice ?_
 rw [evalPart_none]
 refine wpAny_pure (wpAny_pure ?_)
 refine zO (hs pins s1 σ H1 _ I1 q1) λ vs s3 ⟨o,H3,I3,po,q3⟩=>?_
 obtain ⟨rfl,a,xs,rfl,hx,hne,q⟩:=q3
 cases r1
 cases po with
 | int i tk=>
  have I4:Inv X pins σ H3 { s3 with heap:=s3.heap.push { cls:=.type "slice",data:=.fields #[.none,.none,.int (-1) tk] } }:=I3.kept (t':=s3.toks) λ b ob q=>Heap.get?_push_of_some _ q
  obtain ⟨its,r,ht,hz⟩:=I4.tuple hx
  have hlen:its.toArray.size=xs.length:=by rw [List.size_toArray];exact r.length.symm
  have hg:wpAny (model X.prog X.w) X.A (getItem (.ref a) (.ref s3.heap.objs.size)) (EP X pins σ Q) X.xe { s3 with heap:=s3.heap.push { cls:=.type "slice",data:=.fields #[.none,.none,.int (-1) tk] } }:=by
   refine U9 ht (Heap.IsSliceOf.new ..) (by rw [hlen];exact List.length_pos_iff.mpr hne) ?_ (by rw [hlen];exact hz)
   refine ⟨.ref _,_,I4.laid (t':=s3.toks) (o:=.tup xs.reverse) (λ b ob q=>Heap.get?_push_of_some _ q) (Nat.le_refl _) ?_,rfl,q _ (I4.hok.fresh (Nat.le_refl _))⟩
   exact ⟨by rw [List.length_reverse];exact hz,its.reverse,TU r,wI.new _ _⟩
  show wpAny (model X.prog X.w) X.A (subscriptTail e (.Slice none none (some st) p2) (.ref a) (.ref s3.heap.objs.size)) (EP X pins σ Q) X.xe _
  exact tail_any (ops:=[.ref a,.ref s3.heap.objs.size]) ht.typeIs PyProof.Rows.slot_tuple_getitem.lookup hg (by with_unfolding_all rfl)
noncomputable def JR (m ms:Ev):Ev:=λ ρ A=>(m ρ A).bind λ w A1=>(qC ms ρ A1).bind λ o A2=>match w with
 | .tup ws=>if ws≠[]/\o=some (-1) then .ok (.tup ws.reverse) A2 else .bad
 | _=>.bad
theorem zx.rev {φ:List Addr}{H:Hp}:∀{ws:List W} {vs:List V},zx K φ H ws vs->zx K φ H ws.reverse vs.reverse
 | [],_,h=>by cases h;rfl
 | w::ws,_,⟨v,r,e,h,t⟩=>by
  subst e
  rw [List.reverse_cons,List.reverse_cons]
  exact zx.app (zx.rev t) ⟨v,[],rfl,h,rfl⟩
end
noncomputable def insI (x:Int):List Int->List Int
 | []=>[x]
 | y::l=>if x<=y then x::y::l else y::insI x l
noncomputable def sortI:List Int->List Int
 | []=>[]
 | x::l=>insI x (sortI l)
theorem insI_perm (x:Int):∀l:List Int,(insI x l).Perm (x::l)
 | []=>List.Perm.refl _
 | y::l=>by
  unfold insI
  split
  ·exact List.Perm.refl _
  ·exact ((insI_perm x l).cons y).trans (List.Perm.swap x y l)
theorem sortI_perm:∀l:List Int,(sortI l).Perm l
 | []=>List.Perm.refl _
 | x::l=>(insI_perm x (sortI l)).trans ((sortI_perm l).cons x)
theorem G6 (x:Int):∀{l:List Int},l.Pairwise (·<=·)->(insI x l).Pairwise (·<=·)
 | [],_=>List.pairwise_singleton _ _
 | y::l,h=>by
  unfold insI
  split
  ·rename_i hxy
   refine List.pairwise_cons.mpr ⟨λ z hz=>?_,h⟩
   rcases List.mem_cons.mp hz with rfl | hz
   ·exact hxy
   ·exact Int.le_trans hxy ((List.pairwise_cons.mp h).1 z hz)
  ·rename_i hxy
   refine List.pairwise_cons.mpr ⟨λ z hz=>?_,G6 x (List.pairwise_cons.mp h).2⟩
   rcases List.mem_cons.mp ((insI_perm x l).mem_iff.mp hz) with rfl | hz
   ·omega
   ·exact (List.pairwise_cons.mp h).1 z hz
theorem Y2:∀l:List Int,(sortI l).Pairwise (·<=·)
 | []=>.nil
 | x::l=>G6 x (Y2 l)
section
variable {prog:Program}{w:World}{A:Around}{E:Value->Shared->Prop}{s:Shared}{d:Addr}{kvs:List (Key × Value)}{ep:Nat}
theorem TH {Q:List Value->Shared->Prop}{ks:List Int}(hh:A.handled=none)(lo:(d==sysModules)=false)(hd:s.heap.DictAt (yr prog w) d kvs ep)(hk:kvs.map (·.1)=ks.map Sum.inl)(hz:ks.length<=sizeLine)
  (hQ:∀(h':Heap) (tk:Nat) (vs:List Value),(∀b o,b<s.heap.objs.size->s.heap.get? b=some o->h'.get? b=some o)->s.heap.objs.size<=h'.objs.size->IntsAre vs ks->Q vs { s with heap:=h',toks:=tk }):
  wpAny (model prog w) A (collect (.ref d)) Q E s:=by
 have hlt:d<s.heap.objs.size:=hd.lt_size
 have hlen:kvs.length=ks.length:=by have:=congrArg List.length hk;simpa using this
 unfold collect
 refine wpAny_bind (wpAny_runValue (codeAny_builtin PySem.F.entry_proto_collect ?_))
 rw [Around.under_plainId PySem.F.plain_proto_collect _]
 show wpAny _ A.in1 (newList [] >>= λ l=>again (.builtin "list.__iadd__" ⟨[l,.ref d],[]⟩)) _ _ s
 refine wpAny_bind (wpAny_newObj_type ?_)
 refine wpAny_pure ⟨plainId_quiet PySem.F.plain_list_iadd _,codeAny_builtin PySem.F.entry_list_iadd ?_⟩
 rw [Around.under_plainId PySem.F.plain_list_iadd _]
 show wpAny _ A.in1 (Builtin.List.listExtendWith (.ref s.heap.objs.size) (.ref d) (.ref s.heap.objs.size)) _ _ _
 have hS:(s.heap.push { cls:=.type "list",data:=.seq ([]:List Value).toArray }).get? s.heap.objs.size=some { cls:=.type "list",data:=.seq #[] 0 }:=Heap.get?_push_size _ rfl
 refine PySem.W.kdl_extend (R:=λ r s'=>match r with | .ok (.ret v)=>wpAny (model prog w) A (match v with | .ref a=>(do match (<- load a).data with | .seq xs _=>pure xs.toList | _=>unsupported "internal:collect") | _=>unsupported "internal:collect") Q E s' | .ok _=>False | .error e=>E e s') (s:={ s with heap:=s.heap.push { cls:=.type "list",data:=.seq ([]:List Value).toArray } }) (PySem.W.kdl_dict (knd:=yr prog w) (kvs:=kvs) (ep:=ep) lo) hh (hd.push _) s.heap.objs.size (Nat.ne_of_gt hlt) (Nat.ne_of_gt hlt) _ 0 hS (λ h' tk acc c kp hS' hacc=>?_) (by rw [hlen];exact hz)
 show wpAny _ A (load s.heap.objs.size >>= _) _ _ _
 refine wpAny_bind (wpAny_load hS' ?_)
 show wpAny _ A (pure acc.toList) _ _ _
 refine wpAny_pure (hQ h' tk acc.toList (λ b o hb e=>kp b o (Nat.ne_of_lt hb) (Heap.get?_push_of_some _ e)) (Nat.le_of_lt (Heap.lt_size hS')) ?_)
 have hat:∀(j:Nat) (v:Value),acc.toList[j]? =some v->∃(t:Tok) (i:Int),ks[j]? =some i/\v=Value.int i t:=λ j v e=>by
  obtain ⟨k,x,e1,e2⟩:=hacc.2 j v (by simpa using e)
  have e3:(kvs.map (·.1))[j]? =some k:=by rw [List.getElem?_map,e1];rfl
  rw [hk,List.getElem?_map] at e3
  cases e4:ks[j]? with
  | none=>rw [e4] at e3;cases e3
  | some i=>
   rw [e4] at e3
   cases e3
   have e2':g9 (Sum.inl i) v=true:=e2
   rcases kS e2' with ⟨i',t,e5,e6⟩ | ⟨x',t,e5,_⟩
   ·cases e5;exact ⟨t,i,rfl,e6⟩
   ·cases e5
 have hl2:acc.toList.length=ks.length:=by rw [Array.length_toList,hacc.1,hlen]
 have gen:∀(vs:List Value) (is:List Int),vs.length=is.length->(∀(j:Nat) (v:Value),vs[j]? =some v->∃(t:Tok) (i:Int),is[j]? =some i/\v=Value.int i t)->IntsAre vs is:=by
  intro vs
  induction vs with
  | nil=>
   intro is hl _
   have:is=[]:=List.length_eq_zero_iff.mp hl.symm
   subst this
   exact .nil
  | cons v vs ih=>
   intro is hl ha
   cases is with
   | nil=>simp at hl
   | cons i is=>
    obtain ⟨t,i',e1,e2⟩:=ha 0 v rfl
    simp at e1
    subst e1 e2
    exact .cons _ t (ih is (by simpa using hl) λ j v e=>ha (j+1) v (by simpa using e))
 exact gen _ _ hl2 hat
theorem Sh {Q:Value->Shared->Prop}{ks:List Int}(hh:A.handled=none)(lo:(d==sysModules)=false)(hd:s.heap.DictAt (yr prog w) d kvs ep)(hk:kvs.map (·.1)=ks.map Sum.inl)(h64:ks.length<64)
  (h:∀(h':Heap) (tk:Nat) (l:Addr) (its:List Value) (c:Nat),s.heap.objs.size<=l->h'.get? l=some { cls:=.type "list",data:=.seq its.toArray c }->IntsAre its (sortI ks)->
   (∀b o,s.heap.get? b=some o->h'.get? b=some o)->Q (.ref l) { s with heap:=h',toks:=tk }):
  wpAny (model prog w) A (call (.builtin "sorted") [.ref d]) Q E s:=by
 refine Calls.call_function_entry kind_sorted plain_sorted entry_sorted (args_sorted1 _) ?_
 unfold Builtin.«sorted»
 refine wpAny_bind (m:=checkCount "sorted" 1 1 _) (wpAny_pure ?_)
 refine wpAny_bind (TH (by simp [hh]) lo hd hk (by rw [sizeLine_eq];omega) λ h1 tk vs kp hle hI=>?_)
 have hlen:vs.length<64:=by
  have:∀{its:List Value} {ns:List Int},IntsAre its ns->its.length=ns.length:=λ h=>by
   induction h with
   | nil=>rfl
   | cons _ _ _ ih=>simp [ih]
  rw [this hI];exact h64
 refine wpAny_bind (wpAny_newList ?_)
 have hoL:(h1.push (seqObj "list" vs.toArray 0)).get? h1.objs.size=some (seqObj "list" vs.toArray 0):=Heap.get?_push_size _ rfl
 show wpAny _ _ _ _ _ { s with heap:=h1.push (seqObj "list" vs.toArray 0),toks:=tk }
 refine wpAny_bind (wpAny_holding (wpAny_call_entry slot_list_sort ⟨_,hoL,rfl⟩ entry_list_sort (list_sort_tree hoL hI hlen λ out ns' a1 a2 a3=>⟨_,rfl,?_⟩) (args_list_sort _)))
 have hns:ns'=sortI ks:=Kx (a2.trans (sortI_perm ks).symm) a3 (Y2 ks)
 subst hns
 refine wpAny_pure ⟨_,rfl,?_⟩
 have e1:=get?_update_seq hoL (λ _=>(#[]:Array Value))
 have e2:=Heap.get?_push_of_some (seqObj "list" #[] 0) (Heap.get?_push_of_some (seqObj "tuple" vs.toArray 0) e1)
 obtain ⟨c,e3⟩:∃c,(sortedHeap (h1.push (seqObj "list" vs.toArray 0)) h1.objs.size vs out).get? h1.objs.size=some (seqObj "list" out c):=⟨_,get?_update_seq e2 (λ _=>out)⟩
 refine h _ tk h1.objs.size out.toList c hle ?_ a1 λ b ob e=>?_
 ·rw [Array.toArray_toList]
  exact e3
 ·have lb:b<s.heap.objs.size:=Heap.lt_size e
  have k1:=kp b ob lb e
  have nb:h1.objs.size≠b:=Nat.ne_of_gt (Nat.lt_of_lt_of_le lb hle)
  unfold sortedHeap
  refine (Heap.get?_update_other _ _ nb).trans ?_
  refine Heap.get?_push_of_some _ (Heap.get?_push_of_some _ ?_)
  exact (Heap.get?_update_other _ _ nb).trans (Heap.get?_push_of_some _ k1)
end
section
variable {X:Cx}{xr:XR}{e:Expr}{m:Ev}{pos:Pos}
noncomputable def gC:List Key->Option (List Int)
 | []=>some []
 | .inl i::ks=>(gC ks).map (i::·)
 | .inr _::_=>none
theorem X6:∀{ks:List Key} {is:List Int},gC ks=some is->ks=is.map Sum.inl
 | [],_,h=>by cases h;rfl
 | .inl i::ks,is,h=>by
  unfold gC at h
  cases e1:gC ks with
  | none=>rw [e1] at h;cases h
  | some js=>rw [e1] at h;cases h;rw [X6 e1];rfl
 | .inr _::_,_,h=>by cases h
theorem TR (hc:X.calm=true):jx X (.builtin "sorted") (λ xs H Q=>∃(p:Addr) (kvs:List (Key × V)) (ks:List Int),xs=[.ref p]/\H p=some (.dK kvs)/\kvs.map (·.1)=ks.map Sum.inl/\ks.length<64/\∀l,H l=none->Q (.ref l) (upd H l (.lst ((sortI ks).map V.int)))):=by
 intro pins s σ H xs us Q I r h
 obtain ⟨p,kvs,ks,rfl,hq,hk,h64,q⟩:=h
 obtain ⟨u,rfl,ru⟩:=vals1 r
 cases ru
 obtain ⟨hz,hd,vs,kv,dd⟩:=WU I.hok hq
 obtain ⟨ep,da⟩:=dd.dictAt
 have hk2:vs.map (·.1)=ks.map Sum.inl:=by
  rw [<- hk]
  exact kv.keys.symm
 refine Sh (I.ok.hd hc) hd da hk2 h64 λ h' tk l its c hl hg hi kp=>?_
 refine ⟨.ref l,_,I.laid (t':=tk) (o:=.lst ((sortI ks).map V.int)) kp hl ⟨?_,its,c,ZD hi,hg⟩,rfl,q _ (I.hok.fresh hl)⟩
 rw [List.length_map,(sortI_perm ks).length_eq,sizeLine_eq]
 omega
noncomputable def We:W->Hx->R W:=λ w A=>match w with
 | .ref n=>match A[n]? with
  | some (.dct kvs)=>match gC (kvs.map (·.1)) with
   | some ks=>if ks.length<64 then .ok (.ref A.length) (A++[.lst ((sortI ks).map W.int)]) else .bad
   | none=>.bad
  | _=>.bad
 | _=>.bad
noncomputable def Jr (m:Ev):Ev:=λ ρ A=>(m ρ A).bind λ w A1=>We w A1
end
section
variable {X:Cx}{xr:XR}{e:Expr}{m:Ev}{pos:Pos}{K:Frag}
noncomputable def Ue:ZY:=λ o i v H Q=>∃a kvs k,o=.ref a/\i=kV k/\H a=some (.dK kvs)/\kvs.length<sizeLine/\Q (upd H a (.dK (putK kvs k v)))
theorem set_dict {k:Nat}(hr:jo k X.A):JJ X Ue:=by
 intro pins s σ H o i v ov iv u Q I ro ri rv h
 obtain ⟨a,kvs,key,rfl,rfl,hH,hl,q⟩:=h
 cases ro
 exact RU (Ic hr) I (JS.k hH hl) ri rv λ s' I'=>⟨_,I',q⟩
noncomputable def gE (kvs:List (Key × W))(k:Key)(v:W):List (Key × W):=
 if (kvs.any λ kv=>decide (kv.1=k))=true then kvs.map (λ kv=>if kv.1=k then (kv.1,v) else kv) else kvs++[(k,v)]
noncomputable def kI:W->W->W->Hx->R Unit:=λ d k v A=>match d,Gp k with
 | .ref n,some k=>match A[n]? with
  | some (.dct kvs)=>if kvs.length<zW then .ok () (A.set n (.dct (gE kvs k v))) else .bad
  | _=>.bad
 | _,_=>.bad
theorem O5:∀o i v A,ql (kI o i v A):=λ o i v A=>by
 unfold kI
 split
 ·split
  ·exact wa jq qu
  ·exact qu
 ·exact qu
theorem Vk (k:Key):∀{kvs:List (Key × W)} {us:List (Key × V)},us.map (·.1)=kvs.map (·.1)->(us.any λ kv=>decide (kv.1=k))=(kvs.any λ kv=>decide (kv.1=k))
 | [],[],_=>rfl
 | [],_::_,h=>by simp at h
 | _::_,[],h=>by simp at h
 | a::kvs,b::us,h=>by
  simp only [List.map_cons,List.cons.injEq] at h
  rw [List.any_cons,List.any_cons,Vk k h.2,h.1]
theorem X1 {φ:List Addr}{H:Hp}(k:Key){w:W}{v:V}(q:RV K φ H w v):∀{kvs:List (Key × W)} {us:List (Key × V)},us.map (·.1)=kvs.map (·.1)->zx K φ H (kvs.map (·.2)) (us.map (·.2))->
  (us.map (λ kv=>if kv.1=k then (kv.1,v) else kv)).map (·.1)=(kvs.map (λ kv=>if kv.1=k then (kv.1,w) else kv)).map (·.1)/\zx K φ H ((kvs.map (λ kv=>if kv.1=k then (kv.1,w) else kv)).map (·.2)) ((us.map (λ kv=>if kv.1=k then (kv.1,v) else kv)).map (·.2))
 | [],[],_,r=>⟨rfl,r⟩
 | [],_::_,h,_=>by simp at h
 | _::_,[],h,_=>by simp at h
 | a::kvs,b::us,h,r=>by
  simp only [List.map_cons,List.cons.injEq] at h
  obtain ⟨v',rr,e,h1,h2⟩:=r
  simp only [List.map_cons,List.cons.injEq] at e
  obtain ⟨rfl,rfl⟩:=e
  obtain ⟨i1,i2⟩:=X1 k q h.2 h2
  simp only [List.map_cons]
  rw [i1,h.1]
  by_cases hk:a.1=k
  ·rw [if_pos hk,if_pos hk]
   exact ⟨rfl,⟨v,_,rfl,q,i2⟩⟩
  ·rw [if_neg hk,if_neg hk]
   exact ⟨by rw [h.1],⟨b.2,_,rfl,h1,i2⟩⟩
theorem PN:WB K Ue kI:=λ φ A H o i v wo wi wv Q S q1 q2 q3 p=>by
 unfold kI at p
 cases wo with
 | ref n=>cases wi with
  | int k=>
   obtain rfl:=q2
   dsimp only [Gp] at p
   cases e1:A[n]? with
   | none=>rw [e1] at p;exact p.elim
   | some o1=>cases o1 with
    | dct kvs=>
     rw [e1] at p
     dsimp only at p
     obtain ⟨l,us,rfl,f1,g1,g2,g3⟩:=S.dct q1 e1
     have hlen:us.length=kvs.length:=by have:=congrArg List.length g2;simpa using this
     by_cases hz:kvs.length<zW
     ·rw [if_pos hz] at p
      have ln:Le K φ H φ (upd H l (.dK (putK us (.inl k) v))):=Le.upd f1 (λ xs z=>by rw [g1] at z;cases z) (λ _ _ z=>by rw [g1] at z;cases z)
      have hput:(putK us (.inl k) v).map (·.1)=(gE kvs (.inl k) wv).map (·.1)/\zx K φ (upd H l (.dK (putK us (.inl k) v))) ((gE kvs (.inl k) wv).map (·.2)) ((putK us (.inl k) v).map (·.2)):=by
       generalize upd H l (.dK (putK us (.inl k) v))=H' at ln
       unfold putK gE
       rw [Vk (.inl k) g2]
       by_cases ha:(kvs.any λ kv=>decide (kv.1=(.inl k:Key)))=true
       ·rw [if_pos ha,if_pos ha]
        exact X1 (.inl k) (q3.mono ln) g2 (g3.mono ln)
       ·rw [if_neg ha,if_neg ha]
        refine ⟨by simp [g2],?_⟩
        rw [List.map_append,List.map_append]
        exact (g3.mono ln).append (.one (q3.mono ln))
      obtain ⟨w1,w2⟩:=S.write (o:=.dct kvs) (o':=.dct (gE kvs (.inl k) wv)) e1 rfl rfl f1 (u:=.dK (putK us (.inl k) v)) ⟨_,jO,hput.1,hput.2⟩
      exact ⟨l,us,.inl k,rfl,rfl,g1,by rw [hlen,sizeLine_eq];unfold zW at hz;omega,p _ _ w1 w2⟩
     ·rw [if_neg hz] at p;exact p.elim
    | _=>rw [e1] at p;exact p.elim
  | _=>exact p.elim
 | _=>cases wi<;>exact p.elim
end
end Mi
namespace Y
open PySem PySem.Spec PyProof.Rows L2 Mi
@[irreducible] noncomputable def YJ (X:Cx)(xr:XR)(es:List Expr)(ms:List Ev):Prop:=Mi.SJ X xr es ms
theorem Ua:@YJ=@Mi.SJ:=by
 funext X xr es ms
 unfold YJ
 rfl
section
theorem kH:@YE=@Mi.SE/\@YA=@Mi.SA/\@YT=@Mi.ST/\@YW=@Mi.SW/\@YS=@Mi.SS/\@yN=@Mi.QE/\@YI=@Mi.SI/\@YG=@Mi.SG/\@YF=@Mi.SF/\@YQ=@Mi.SQ/\@wt=@Mi.QI/\@YM=@Mi.SM/\@YJ=@Mi.SJ:=⟨WT,WA,WE,W6,W5,Wc,WZ,Wv,WN,WS,Wf,Wx,Ua⟩
theorem Lx {X:Cx}{xr:XR}{e:Expr}{m:Ev}{pos:Pos}{p:Pos}{p1:Pos}{p2:Pos}{pt:Pos}{x1:Str}{x2:Str}{kt:Nat}(t t2:Ty)(hm:X.mg "isinstance" = none)(hm1:X.mg x1=none)(hm2:X.mg x2=none)(hx1:bootBuiltins x1=some (.type t.nm))(hx2:bootBuiltins x2=some (.type t2.nm))(ha:YE X xr e m)(hg:Gl X "isinstance" := by rfl)(hg1:Gl X x1:=by rfl)(hg2:Gl X x2:=by rfl)
  (hn1:x1 ≠ "__name__" := by decide)(hd1:(x1==("__debug__" : Str))=false:=by decide)(hn2:x2 ≠ "__name__" := by decide)(hd2:(x2==("__debug__" : Str))=false:=by decide)
  (h0:starEach [.Name x1 p1,.Name x2 p2] X.env=(false,eval (.Name x1 p1) X.env)::starEach [.Name x2 p2] X.env:=by rfl)(h00:starEach [.Name x2 p2] X.env=(false,eval (.Name x2 p2) X.env)::starEach [] X.env:=by rfl)
  (h1:starEach [e,.Tuple [.Name x1 p1,.Name x2 p2] kt pt] X.env=(false,eval e X.env)::starEach [.Tuple [.Name x1 p1,.Name x2 p2] kt pt] X.env:=by rfl)(h2:(backTo pos (starEach [.Tuple [.Name x1 p1,.Name x2 p2] kt pt] X.env)).any (·.1)=false:=by rfl):
  YE X xr (.Call (.Name "isinstance" p) [e,.Tuple [.Name x1 p1,.Name x2 p2] kt pt] [] pos) (UA t t2 m):=by
 (try simp only [kH] at *)
 exact PE.imp (gc OJ hg hm (by rfl) (qX ha (qX (V4 (qX (KS hg1 hm1 hx1 (v:=.ty t.nm) rfl hn1 hd1) (qX (KS hg2 hm2 hx2 (v:=.ty t2.nm) rfl hn2 hd2) jL h00) h0)) jL) h1) (by decide) (by decide) h1 h2) λ σ H Q ⟨φ,A,ρ,S,re,h⟩=>by
   refine tM.go S re (zU.mp h) λ w A1 φ1 H1 v h1 l1 S1 q1=>?_
   cases et:jg w A1 with
   | none=>rw [et] at h1;exact h1.elim
   | some t'=>
    rw [et] at h1
    refine ⟨by show 2<=sizeLine;decide,λ l hl=>⟨v,t',l,rfl,qd.of jO,?_,h1 φ1 _ _ (l1.trans (Le.new hl)) (S1.lay hl) rfl⟩⟩
    exact Vf (S1.lay hl) (q1.mono (Le.new hl)) et
theorem Mj {X:Cx}{xr:XR}{e:Expr}{m:Ev}{pos:Pos}{tg:Expr}{tw:Tg}(he:YE X xr e m)(hg:YG X tg tw)(hs:swapsWithSole [tg] e pos.line X.env=pure false:=by rfl)(hw:swappedStores [tg] e X.env=pure none:=by rfl)(h1:(assignEach [tg] X.env).map (·.2)=[assign tg X.env]:=by rfl):YS X xr (.Assign [tg] e pos) (JM m tw):=by
 (try simp only [kH] at *)
 exact PS.imp (V8 he hg hs hw h1) λ D σ H ⟨φ,A,ρ,S,re,h⟩=>by
   refine tM.go S re (zU.mp h) λ w A1 φ1 H1 v h1 l1 S1 q1=>?_
   cases et:tw w ρ with
   | none=>rw [et] at h1;exact h1.elim
   | some ρ'=>
    rw [et] at h1
    exact ⟨φ1,A1,ρ,w,ρ',S1,re.mono l1,q1,et,λ σ' re'=>h1 φ1 H1 σ' l1 S1 re'⟩
theorem MX {X:Cx}{xr:XR}{a:Expr}{b:Expr}{ma:Ev}{mb:Ev}{pos:Pos}{pt:Pos}{kt:Nat}(i j:Nat){x y:Str}{px py pt2:Pos}{k2:Nat}(hc:X.calm=true)(hN:X.N.Nodup)(ha:YE X xr a ma)(hb:YE X xr b mb)(hi:X.N[i]? =some x:=by rfl)(hj:X.N[j]? =some y:=by rfl)(hij:i≠j:=by decide)
  (hx:X.env.scope.names.lookup x=some .local:=by rfl)(hy:X.env.scope.names.lookup y=some .local:=by rfl)
  (hw:swappedStores [.Tuple [.Name x px,.Name y py] kt pt] (.Tuple [a,b] k2 pt2) X.env=pure (some [x,y]):=by rfl)
  (hs:swapsWithSole [.Tuple [.Name x px,.Name y py] kt pt] (.Tuple [a,b] k2 pt2) pos.line X.env=pure false:=by rfl)
  (h1:starEach [a,b] X.env=(false,eval a X.env)::starEach [b] X.env:=by rfl)(h2:starEach [b] X.env=(false,eval b X.env)::starEach [] X.env:=by rfl):
  YS X xr (.Assign [.Tuple [.Name x px,.Name y py] kt pt] (.Tuple [a,b] k2 pt2) pos) (Gn i j ma mb):=by
 (try simp only [kH] at *)
 exact PS.imp (Mb hc hN hi hj hij hx hy (qX ha (qX hb jL h2) h1) hw hs) λ D σ H ⟨φ,A,ρ,S,re,h⟩=>by
   refine tM.go S re (zU.mp h) λ w A1 φ1 H1 v h1 l1 S1 q1=>?_
   refine tM.go S1 (re.mono l1) (qe (zU.mp h1) (λ _ _ z=>z) λ _ _ z=>z.mono l1) λ w2 A2 φ2 H2 v2 h2 l2 S2 q2=>?_
   exact ⟨v,v2,rfl,h2 φ2 H2 _ (l1.trans l2) S2 (((re.mono (l1.trans l2)).set (q1.mono l2)).set q2)⟩
end
section
theorem Nj {X:Cx}{xr:XR}{e:Expr}{m:Ev}{pos:Pos}{p:Pos}(hm:X.mg "len" = none)(ha:YE X xr e m)(hg:Gl X "len" := by rfl)(hs:starEach [e] X.env=(false,eval e X.env)::starEach [] X.env:=by rfl):
  YE X xr (.Call (.Name "len" p) [e] [] pos) (Jy m):=by
 (try simp only [kH] at *)
 exact PE.imp (gc RY hg hm (by rfl) (qX ha jL hs) (by decide) (by decide) hs (by rfl)) λ σ H Q ⟨φ,A,ρ,S,re,h⟩=>by
   refine tM.go S re (zU.mp h) λ w A1 φ1 H1 v h1 l1 S1 q1=>?_
   cases w with
   | ref n=>
    dsimp only at h1
    revert h1
    cases e1:A1[n]? with
    | none=>intro h1;exact h1.elim
    | some o=>
     cases o with
     | dct kvs=>
      intro h1
      obtain ⟨p,us,rfl,f1,g1,g2,g3⟩:=S1.dct q1 e1
      refine ⟨p,us,rfl,g1,?_⟩
      have:us.length=kvs.length:=by have:=congrArg List.length g2;simpa using this
      rw [this]
      exact h1 _ _ _ l1 S1 rfl
     | _=>intro h1;exact h1.elim
   | _=>exact h1.elim
end
theorem Pq {X:Cx}{xr:XR}{a:Expr}{b:Expr}{ma:Ev}{mb:Ev}{k:Nat}{apos cpos:Pos}(hr:jo k X.A)(ho:YE X xr a ma)(he:YE X xr b mb)(hs:starEach [b] X.env=(false,eval b X.env)::starEach [] X.env:=by rfl)
  (hbase:attributeBase a "index" X.env (eval a X.env)=eval a X.env:=by rfl)
  (hfew:((backTo cpos (starEach [b] X.env)).all (λ x=>!x.1)&&(backToKw cpos (keywordEach [] X.env)).all (λ x=>x.1.isSome)
   && decide ([b].length+([]:List Keyword).length+(if ([]:List Keyword).isEmpty then 0 else 1)<30))=true:=by rfl)(hline:(apos.endLine==cpos.line)=true:=by rfl):
  YE X xr (.Call (.Attribute a "index" apos) [b] [] cpos) (yF k8 ma mb):=by
 (try simp only [kH] at *)
 exact W3 PySem.F.slot_list_index PySem.F.type_list_index (Rl hr.units) PM (λ φ A H x y u v Q S q1 q2 p=>by
   unfold k8 at p
   cases e1:zZ A 8 u with
   | none=>rw [e1] at p;exact p.elim
   | some d1=>
    cases e2:zZ A 8 v with
    | none=>
     rw [e1,e2] at p
     cases d1<;>exact p.elim
    | some d=>
     rw [e1,e2] at p
     cases d1 with
     | list ds=>
      dsimp only at p
      cases e3:wb (λ z=>PyData.eqv z d) ds with
      | none=>rw [e3] at p;exact p.elim
      | some j=>
       rw [e3] at p
       dsimp only at p
       by_cases hj:j<1000000
       ·rw [if_pos hj] at p
        exact ⟨φ,A,u,v,y,d,ds,j,rfl,S,q1,q2,e1,e2,e3,hj,p φ H _ .refl S rfl⟩
       ·rw [if_neg hj] at p;exact p.elim
     | _=>exact p.elim) ho he hs hbase hfew hline
theorem Rg {X:Cx}{xr:XR}{e:Expr}{m:Ev}{pos:Pos}{p p' pos':Pos}(hc:X.calm=true)(hm:X.mg "sorted" = none)(hm':X.mg "set" = none)(ha:YE X xr e m)(hg:Gl X "sorted" := by rfl)(hg':Gl X "set" := by rfl)(hs:starEach [e] X.env=(false,eval e X.env)::starEach [] X.env:=by rfl)
  (hs':starEach [.Call (.Name "set" p') [e] [] pos'] X.env=(false,eval (.Call (.Name "set" p') [e] [] pos') X.env)::starEach [] X.env:=by rfl):
  YE X xr (.Call (.Name "sorted" p) [.Call (.Name "set" p') [e] [] pos'] [] pos) (Jg m):=by
 (try simp only [kH] at *)
 exact PE.imp (gc (TZ hc) hg hm (by rfl) (qX (ZA (R9 hc) hg' hm' (by rfl) (qX ha jL hs) (by decide) (by decide) hs (by rfl)) jL hs') (by decide) (by decide) hs' (by rfl)) λ σ H Q ⟨φ,A,ρ,S,re,h⟩=>by
   refine tM.go S re (zU.mp h) λ w A1 φ1 H1 v h1 l1 S1 q1=>?_
   cases w with
   | ref n=>
    unfold KL at h1
    dsimp only at h1
    cases en:A1[n]? with
    | none=>rw [en] at h1;exact h1.elim
    | some u=>cases u with
     | lst ws=>
      rw [en] at h1
      dsimp only at h1
      obtain ⟨pl,ys,rfl,eφ,eH,rr⟩:=S1.lst q1 en
      cases ei:intsOf ws with
      | none=>rw [ei] at h1;exact h1.elim
      | some is=>
       rw [ei] at h1
       dsimp only at h1
       have ew:=Ku ei
       subst ew
       have ev:=zx.ints.mp rr
       subst ev
       cases e2:gq is with
       | none=>rw [e2] at h1;exact h1.elim
       | some vs=>
        rw [e2] at h1
        dsimp only at h1
        obtain ⟨e3,h8⟩:=XO e2
        have eH':H1 pl=some (.lst (vs.map λ (v:Nat)=>V.int (v:Int))):=by rw [eH,e3,List.map_map];rfl
        refine ⟨pl,vs,rfl,qx.of eH',h8,λ l hl=>⟨l,vs.foldl jU 0,rfl,jO,λ l2 hl2=>?_⟩⟩
        have ln:Le X.K φ1 H1 φ1 (upd H1 l (.ext λ h=>jT h l (jf X.w) (vs.foldl jU 0))):=Le.new hl
        have S2:=S1.lay (u:=.ext λ h=>jT h l (jf X.w) (vs.foldl jU 0)) hl
        have rr2:∀(ψ:List Addr) (G:Hp),zx X.K ψ G (((List.range 8).filter λ i=>decide (i∈vs)).map λ (i:Nat)=>W.int (i:Int)) ((zP (vs.foldl jU 0)).map λ (v:Nat)=>V.int (v:Int)):=λ ψ G=>by
         rw [Ru]
         have e4:∀l:List Nat,zx X.K ψ G (l.map λ (i:Nat)=>W.int (i:Int)) (l.map λ (v:Nat)=>V.int (v:Int)):=λ l=>by
          induction l with
          | nil=>rfl
          | cons i l ih=>exact ⟨_,_,rfl,rfl,ih⟩
         exact e4 _
        obtain ⟨l3,S3⟩:=S2.alloc (o:=.lst (((List.range 8).filter λ i=>decide (i∈vs)).map λ (i:Nat)=>W.int (i:Int))) hl2 (u:=.lst ((zP (vs.foldl jU 0)).map λ (v:Nat)=>V.int (v:Int))) ⟨_,jO,rr2 _ _⟩
        exact h1 _ _ _ (l1.trans (ln.trans l3)) S3 ⟨l2,rfl,by rw [<- S1.len];simp⟩
     | _=>rw [en] at h1;exact h1.elim
   | _=>exact h1.elim
theorem O9 {X:Cx}{xr:XR}{a:Expr}{b:Expr}{ma:Ev}{mb:Ev}{pos:Pos}{p:Pos}(hc:X.calm=true)(hm:X.mg "sum" = none)(ha:YE X xr a ma)(hb:YE X xr b mb)(hgl:Gl X "sum" := by rfl)(h1:starEach [a,b] X.env=(false,eval a X.env)::starEach [b] X.env:=by rfl)
  (h2:starEach [b] X.env=(false,eval b X.env)::starEach [] X.env:=by rfl)(hpl:(backTo pos (starEach [b] X.env)).any (·.1)=false:=by rfl):
  YE X xr (.Call (.Name "sum" p) [a,b] [] pos) (zj wL ma mb):=by
 (try simp only [kH] at *)
 exact WM (Rt hc) O1 PY hm (by rfl) ha hb hgl (by decide) (by decide) h1 h2 hpl
theorem Ry {X:Cx}{xr:XR}{a:Expr}{b:Expr}{ma:Ev}{mb:Ev}{pos:Pos}{p p' pos':Pos}(hc:X.calm=true)(hm:X.mg "list" = none)(hm':X.mg "range" = none)(ha:YE X xr a ma)(hb:YE X xr b mb)(hg:Gl X "list" := by rfl)(hg':Gl X "range" := by rfl)(hs:starEach [a,b] X.env=[(false,eval a X.env),(false,eval b X.env)]:=by rfl)(hs2:starEach [b] X.env=[(false,eval b X.env)]:=by rfl)
  (hs':starEach [.Call (.Name "range" p') [a,b] [] pos'] X.env=(false,eval (.Call (.Name "range" p') [a,b] [] pos') X.env)::starEach [] X.env:=by rfl):
  YE X xr (.Call (.Name "list" p) [.Call (.Name "range" p') [a,b] [] pos'] [] pos) (Qk ma mb):=by
 (try simp only [kH] at *)
 exact PE.imp (ZA (Sz hc) hg hm (by rfl) (qX (Ov hg' hm' (qX ha (qX hb jL (by rw [hs2];rfl)) (by rw [hs,hs2])) hs hs2) jL hs') (by decide) (by decide) hs' (by rfl)) λ σ H Q ⟨φ,A,ρ,S,re,h⟩=>by
   refine tM.go S re (zU.mp h) λ w A1 φ1 H1 v h1 l1 S1 q1=>?_
   refine tM.go S1 (re.mono l1) (qe (zU.mp h1) (λ _ _ z=>z) λ _ _ z=>z.mono l1) λ w2 A2 φ2 H2 v2 h2 l2 S2 q2=>?_
   cases w with
   | int i=>
    obtain rfl:=q1
    cases w2 with
    | int j=>
     obtain rfl:=q2
     dsimp only at h2
     by_cases hj:(jk i&&(jk j&&decide ((j - i).toNat<=zW)))=true
     ·rw [if_pos hj] at h2
      rw [Bool.and_eq_true,Bool.and_eq_true,decide_eq_true_iff] at hj
      refine ⟨i,j,rfl,λ p hp=>⟨p,i,j,rfl,jO,Zz hj.1,Zz hj.2.1,wD hj.2.2,λ l hl=>?_⟩⟩
      have ln:Le X.K φ2 H2 φ2 (upd H2 p (.rng i j)):=Le.new hp
      have rr:zx X.K φ2 (upd H2 p (.rng i j)) ((List.range (j - i).toNat).map λ (k:Nat)=>W.int (i+k)) (Ze i (j - i).toNat):=by
       have:=(zx.ints (K:=X.K) (φ:=φ2) (H:=upd H2 p (.rng i j)) (ns:=(List.range (j - i).toNat).map λ (k:Nat)=>(i+(k:Int))) (vs:=Ze i (j - i).toNat)).mpr (by unfold Ze;simp)
       rw [List.map_map] at this
       exact this
      obtain ⟨b1,b2,b3⟩:=gn (S2.lay hp) hl rr
      exact h2 _ _ _ (((l1.trans l2).trans ln).trans b1) b2 b3
     ·rw [if_neg hj] at h2;exact h2.elim
    | _=>exact h2.elim
   | _=>exact h2.elim
@[irreducible] noncomputable def YP (X:Cx)(xr:XR)(e:Option Expr)(p:Po):Prop:=Mi.SP X xr e p
theorem IC:@YP=@Mi.SP:=by
 funext X xr e p
 unfold YP
 rfl
theorem WX:@YE=@Mi.SE/\@YA=@Mi.SA/\@YT=@Mi.ST/\@YW=@Mi.SW/\@YS=@Mi.SS/\@yN=@Mi.QE/\@YI=@Mi.SI/\@YG=@Mi.SG/\@YF=@Mi.SF/\@YQ=@Mi.SQ/\@wt=@Mi.QI/\@YM=@Mi.SM/\@YJ=@Mi.SJ/\@YP=@Mi.SP:=⟨WT,WA,WE,W6,W5,Wc,WZ,Wv,WN,WS,Wf,Wx,Ua,IC⟩
theorem yR {X:Cx}{xr:XR}:YP X xr none ja:=by
 (try simp only [WX] at *)
 exact PO.imp Nu λ σ H Q ⟨φ,A,ρ,S,re,h⟩=>h φ H .refl S
theorem ye {X:Cx}{xr:XR}{e:Expr}{m:Ev}(ha:YE X xr e m):YP X xr (some e) (qC m):=by
 (try simp only [WX] at *)
 exact Mi.ye ha
theorem yJ {X:Cx}{xr:XR}{e:Expr}{m:Ev}{lo hi:Option Expr}{pl pu:Po}{pos p2:Pos}(he:YE X xr e m)(hl:YP X xr lo pl)(hu:YP X xr hi pu):YE X xr (.Subscript e (.Slice lo hi none p2) pos) (qJ m pl pu):=by
 (try simp only [WX] at *)
 exact PE.imp (Ou Nv he hl hu) λ σ H Q ⟨φ,A,ρ,S,re,h⟩=>by
   refine tM.go S re (zU.mp h) λ w A1 φ1 H1 v h1 l1 S1 q1=>?_
   refine ⟨φ1,A1,ρ,S1,re.mono l1,qe (zU.mp h1) (λ l A2 h2 φ2 H2 l2 S2=>?_) λ _ _ z=>z.mono l1⟩
   refine ⟨φ2,A2,ρ,S2,(re.mono l1).mono l2,qe (zU.mp h2) (λ u A3 h3 φ3 H3 l3 S3=>?_) λ _ _ z=>z.mono (l1.trans l2)⟩
   have l13:=(l1.trans l2).trans l3
   cases w with
   | tup ws=>
    obtain ⟨a,vs,rfl,t,r⟩:=(q1.mono l2).mono l3
    have hlen:ws.length=vs.length:=r.length
    refine ⟨a,vs,rfl,t,λ hw=>?_,λ hw p hp=>?_⟩
    ·refine h3 φ3 H3 _ l13 S3 ⟨a,vs,rfl,t,?_⟩
     have:j0 ws l u=ws:=by
      unfold j0
      rw [hlen,hw.1,hw.2,Nat.sub_zero,List.drop_zero,<- hlen,List.take_length]
     rw [this];exact r
    ·have rr:zx X.K φ3 H3 (j0 ws l u) (Zn vs l u):=by
      unfold j0 Zn
      rw [hlen]
      exact zx.take _ (zx.drop _ r)
     obtain ⟨a1,a2,a3⟩:=g7 S3 hp rr
     exact h3 _ _ _ (l13.trans a1) a2 a3
   | _=>exact h3.elim
theorem OC {X:Cx}{xr:XR}{e:Expr}{m:Ev}{pos:Pos}{p:Pos}(hc:X.calm=true)(hm:X.mg "sorted" = none)(ha:YE X xr e m)(hg:Gl X "sorted" := by rfl)(hs:starEach [e] X.env=(false,eval e X.env)::starEach [] X.env:=by rfl):
  YE X xr (.Call (.Name "sorted" p) [e] [] pos) (Jr m):=by
 (try simp only [kH] at *)
 exact PE.imp (gc (TR hc) hg hm (by rfl) (qX ha jL hs) (by decide) (by decide) hs (by rfl)) λ σ H Q ⟨φ,A,ρ,S,re,h⟩=>by
   refine tM.go S re (zU.mp h) λ w A1 φ1 H1 v h1 l1 S1 q1=>?_
   cases w with
   | ref n=>
    unfold We at h1
    dsimp only at h1
    cases en:A1[n]? with
    | none=>rw [en] at h1;exact h1.elim
    | some u=>cases u with
     | dct kvs=>
      rw [en] at h1
      dsimp only at h1
      obtain ⟨pl,us,rfl,eφ,eH,hkk,rr⟩:=S1.dct q1 en
      cases ei:gC (kvs.map (·.1)) with
      | none=>rw [ei] at h1;exact h1.elim
      | some ks=>
       rw [ei] at h1
       dsimp only at h1
       by_cases h64:ks.length<64
       ·rw [if_pos h64] at h1
        refine ⟨pl,us,ks,rfl,eH,by rw [hkk];exact X6 ei,h64,λ l hl=>?_⟩
        obtain ⟨a1,a2,a3⟩:=gn S1 hl (zx.ints.mpr rfl:zx X.K φ1 H1 ((sortI ks).map W.int) ((sortI ks).map V.int))
        exact h1 _ _ _ (l1.trans a1) a2 a3
       ·rw [if_neg h64] at h1;exact h1.elim
     | _=>rw [en] at h1;exact h1.elim
   | _=>exact h1.elim
theorem MV {X:Cx}{xr:XR}{e:Expr}{st:Expr}{m:Ev}{ms:Ev}{pos:Pos}{p2:Pos}(he:YE X xr e m)(hs:YE X xr st ms):YE X xr (.Subscript e (.Slice none none (some st) p2) pos) (JR m ms):=by
 (try simp only [kH] at *)
 exact PE.imp (LG he (Mi.ye hs)) λ σ H Q ⟨φ,A,ρ,S,re,h⟩=>by
   refine tM.go S re (zU.mp h) λ w A1 φ1 H1 v h1 l1 S1 q1=>?_
   refine ⟨φ1,A1,ρ,S1,re.mono l1,qe (zU.mp h1) (λ o A2 h2 φ2 H2 l2 S2=>?_) λ _ _ z=>z.mono l1⟩
   cases w with
   | tup ws=>
    dsimp only at h2
    by_cases hc:ws≠[]/\o=some (-1)
    ·rw [if_pos hc] at h2
     obtain ⟨a,vs,rfl,t,r⟩:=q1.mono l2
     refine ⟨hc.2,a,vs,rfl,t,λ e=>hc.1 ?_,λ p hp=>?_⟩
     ·have:=r.length;rw [e] at this;exact List.length_eq_zero_iff.mp this
     ·obtain ⟨a1,a2,a3⟩:=g7 S2 hp (zx.rev r)
      exact h2 _ _ _ ((l1.trans l2).trans a1) a2 a3
    ·rw [if_neg hc] at h2;exact h2.elim
   | _=>exact h2.elim
theorem NI {X:Cx}{xr:XR}{e:Expr}{m:Ev}{pos:Pos}{k:Nat}{o i:Expr}{mo mi:Ev}{tpos:Pos}(hr:jo k X.A)(he:YE X xr e m)(ho:YE X xr o mo)(hi:YE X xr i mi)
  (hs:swapsWithSole [.Subscript o i tpos] e pos.line X.env=pure false:=by rfl)(hw:swappedStores [.Subscript o i tpos] e X.env=pure none:=by rfl)
  (h1:(assignEach [.Subscript o i tpos] X.env).map (·.2)=[assign (.Subscript o i tpos) X.env]:=by rfl)
  (ha:∀v,assign (.Subscript o i tpos) X.env v=(do
   let ov <- holding [v] (eval o X.env)
   let iv <- holding [v,ov] (eval i X.env)
   standAt tpos
   holding [v,ov,iv] (setItem ov iv v)
   release [v,ov,iv] []):=by intro _;rfl):YS X xr (.Assign [.Subscript o i tpos] e pos) (jK kI m mo mi):=by
 (try simp only [kH] at *)
 exact X7 (set_dict hr) O5 PN he ho hi hs hw h1 ha
end Y
namespace G
open PySem L2 Mi
noncomputable def top (i:Nat):Stmt:=PySem.Challenge.pw_nearkinds_k01_tables_known.main.body.getD i (.Pass ⟨0,0,0,0⟩)
structure Bu (mg:Str->Option Value):Prop where
 W4:mg "abs" = none
 Qs:mg "all" = none
 Jw:mg "bool" = none
 Xd:mg "enumerate" = none
 gD:mg "int" = none
 yA:mg "isinstance" = none
 j7:mg "len" = none
 kd:mg "list" = none
 Jx:mg "max" = none
 WC:mg "min" = none
 jh:mg "range" = none
 Im:mg "set" = none
 XX:mg "sorted" = none
 Ia:mg "sum" = none
 yd:mg "tuple" = none
 IE:mg "zip" = none
 Tw:∃t,mg "MOST_PLACES" = some (.int 8 t)
noncomputable abbrev Kg:Stmt:=top 1
theorem SK:ju ["thing"] ["thing"] (qH Kg):=⟨rfl,rfl,rfl,by decide +kernel,rfl,by decide +kernel,by decide +kernel⟩
noncomputable def Xh:Ex:=zr (z8 (yx (jA .int (zc 0)) (qK (jA .bl (zc 0))))) (zB)
theorem S6 {P:Program}{w:World}{K:Frag}{mg:Str->Option Value}{base:Heap}{k:Nat}(T:Bu mg){f:Addr}{fd:FuncData}(F:jd K "is_whole" "is_whole" Kg f fd)(hm:mg "is_whole" = some (.ref f)):zM P w K mg base (k+1) "is_whole" 1 (qi 1 (Xh)):=
 Y.yb F hm SK (λ _ _ _ _ _ _ us hl=>(kr hl).elim λ a q=>by subst q;rfl) λ cdv A outer s H E hr=>Y.zw (Y.qp (Y.gu (Y.yK .int T.yA T.gD (by rfl) (Y.zl 0)) (Y.gU (Y.V6 (Y.yK .bl T.yA T.Jw (by rfl) (Y.zl 0)))))) (Y.zI)
noncomputable abbrev Y9:Stmt:=top 2
theorem Sd:ju ["thing", "many"] ["thing", "many"] (qH Y9):=⟨rfl,rfl,rfl,by decide +kernel,rfl,by decide +kernel,by decide +kernel⟩
noncomputable def Y8 (Q6:Fn):Ex:=zr (z8 (yx (jA .tup (zc 0)) (yx (zj qL (mQ qh (zS (zc 0))) (zc 1)) (mQ Zg (zR 1 [] (qc (zc 0)) (zD 0) (zi (.bl true)) (zN (zH Q6 (zh (zc 0) (zp))))))))) (zB)
theorem Sr {P:Program}{w:World}{K:Frag}{mg:Str->Option Value}{base:Heap}{k:Nat}(T:Bu mg){f:Addr}{fd:FuncData}(F:jd K "is_wholes" "is_wholes" Y9 f fd)(hm:mg "is_wholes" = some (.ref f)){Q6:Fn}(gM:zM P w K mg base k "is_whole" 1 Q6):zM P w K mg base (k+1) "is_wholes" 2 (qi 2 (Y8 Q6)):=
 Y.yb F hm Sd (λ _ _ _ _ _ _ us hl=>(wR hl).elim λ a h=>h.elim λ b q=>by subst q;rfl) λ cdv A outer s H E hr=>Y.zw (Y.qp (Y.gu (Y.yK .tup T.yA T.yd (by rfl) (Y.zl 0)) (Y.gu (Y.yy (j6 hr) (Y.yf T.j7 (Y.jl (Y.zl 0))) (Y.zl 1)) (Y.gU (Y.Qr rfl T.Qs (Y.yw (Y.qI (N:=["part"]) 1 [] rfl (cps (by kernel_rfl)) (by kernel_rfl) (Y.jQ (Y.zl 0)) (λ _ _ _=>⟨Y.qg 0 (by decide +kernel:(["part"]:List Str).Nodup),Y.qE,Y.qA (λ _ _ z=>z) (Y.qm gM hr (Y.zo (Y.zl 0) (Y.zu)) (zm zt)) rfl⟩)))))))) (Y.zI)
noncomputable abbrev Yd:Stmt:=top 3
theorem U6:ju ["thing", "many", "limit"] ["thing", "many", "limit"] (qH Yd):=⟨rfl,rfl,rfl,by decide +kernel,rfl,by decide +kernel,by decide +kernel⟩
noncomputable def Yf (Q0:Fn):Ex:=zr (z8 (yx (zH Q0 (zh (zc 0) (zh (zc 1) (zp)))) (mQ Zg (zR 1 [2] (qc (zc 0)) (zD 0) (zi (.bl true)) (zN (jw jN kL (zi (.int 0)) (zc 0) (zc 1))))))) (zB)
theorem Td {P:Program}{w:World}{K:Frag}{mg:Str->Option Value}{base:Heap}{k:Nat}(T:Bu mg){f:Addr}{fd:FuncData}(F:jd K "is_wholes_below" "is_wholes_below" Yd f fd)(hm:mg "is_wholes_below" = some (.ref f)){Q0:Fn}(gL:zM P w K mg base k "is_wholes" 2 Q0):zM P w K mg base (k+1) "is_wholes_below" 3 (qi 3 (Yf Q0)):=
 Y.yb F hm U6 (λ _ _ _ _ _ _ us hl=>(Hi hl).elim λ a h=>h.elim λ b h=>h.elim λ c q=>by subst q;rfl) λ cdv A outer s H E hr=>Y.zw (Y.qp (Y.gu (Y.qm gL hr (Y.zo (Y.zl 0) (Y.zo (Y.zl 1) (Y.zu))) (zm (zm zt))) (Y.gU (Y.Qr rfl T.Qs (Y.yw (Y.qI (N:=["part", "limit"]) 1 [2] rfl (cps (by kernel_rfl)) (by kernel_rfl) (Y.jQ (Y.zl 0)) (λ _ _ _=>⟨Y.qg 0 (by decide +kernel:(["part", "limit"]:List Str).Nodup),Y.qE,Y.qA (λ _ _ z=>z) (Y.LZ ZU Gh (Y.zq) (Y.zl 0) (Y.zl 1)) rfl⟩))))))) (Y.zI)
noncomputable abbrev Km:Stmt:=top 6
theorem G7:ju ["thing", "many"] ["thing"] (qH Km):=⟨rfl,rfl,rfl,by decide +kernel,rfl,by decide +kernel,by decide +kernel⟩
noncomputable def Kl (Jb:Fn)(QL:Fn)(QK:Fn):Ex:=zr (qw (jH (qK (jA .tup (zc 0))) (qK (jw jN jN (zi (.int 1)) (mQ qh (zS (zc 0))) (zi (.int 8))))) (zr (z8 (zi (.bl false))) (zB)) (zB)) (zr (zX 1 (mQ qh (zS (zc 0)))) (zr (qw (qK (mQ Zg (zR 1 [1] (qc (zc 0)) (zD 0) (zi (.bl true)) (zN (zH QL (zh (zc 0) (zh (zc 1) (zh (zc 1) (zp))))))))) (zr (z8 (zi (.bl false))) (zB)) (zB)) (zr (z8 (yx (zH Jb (zh (zc 0) (zp))) (zH QK (zh (zc 0) (zp))))) (zB))))
theorem S7 {P:Program}{w:World}{K:Frag}{mg:Str->Option Value}{base:Heap}{k:Nat}(T:Bu mg){f:Addr}{fd:FuncData}(F:jd K "is_table" "is_table" Km f fd)(hm:mg "is_table" = some (.ref f)){Jb:Fn}(Qc:zM P w K mg base k "is_even" 1 Jb){QL:Fn}(gI:zM P w K mg base k "is_wholes_below" 3 QL){QK:Fn}(Z1:zM P w K mg base k "leaves_no_kind_out" 1 QK):zM P w K mg base (k+1) "is_table" 1 (qi 2 (Kl Jb QL QK)):=
 Y.yb F hm G7 (λ _ _ _ _ _ _ us hl=>(kr hl).elim λ a q=>by subst q;rfl) λ cdv A outer s H E hr=>Y.zw (Y.jD (Y.gg (Y.Zb (Y.wH (Y.gr (Y.yK .tup T.yA T.yd (by rfl) (Y.zl 0)))) (Y.gZ (Y.wH (Y.Wy ZU ZU (Y.zq) (Y.yf T.j7 (Y.jl (Y.zl 0))) (Y.NS rfl T.Tw.choose_spec)))))) (Y.zw (Y.qp (Y.jP)) (Y.zI)) (Y.zI)) (Y.zw (Y.qt 1 G7.nd (Y.yf T.j7 (Y.jl (Y.zl 0)))) (Y.zw (Y.jD (Y.wH (Y.gr (Y.Qr rfl T.Qs (Y.yw (Y.qI (N:=["row", "many"]) 1 [1] rfl (cps (by kernel_rfl)) (by kernel_rfl) (Y.jQ (Y.zl 0)) (λ _ _ _=>⟨Y.qg 0 (by decide +kernel:(["row", "many"]:List Str).Nodup),Y.qE,Y.qA (λ _ _ z=>z) (Y.qm gI hr (Y.zo (Y.zl 0) (Y.zo (Y.zl 1) (Y.zo (Y.zl 1) (Y.zu)))) (zm (zm (zm zt)))) rfl⟩)))))) (Y.zw (Y.qp (Y.jP)) (Y.zI)) (Y.zI)) (Y.zw (Y.qp (Y.gu (Y.qm Qc hr (Y.zo (Y.zl 0) (Y.zu)) (zm zt)) (Y.gU (Y.qm Z1 hr (Y.zo (Y.zl 0) (Y.zu)) (zm zt))))) (Y.zI))))
noncomputable abbrev Kw:Stmt:=top 7
theorem Kf:ju ["rows", "a", "row", "b", "kind"] ["rows"] (qH Kw):=⟨rfl,rfl,rfl,by decide +kernel,rfl,by decide +kernel,by decide +kernel⟩
noncomputable def Ja:Ex:=zr (jZ (ZS (zc 0)) (wK 1 2) (zr (jZ (ZS (zc 2)) (wK 3 4) (zr (qw (jH (zj qG (zj qL (zc 4) (zi (.int 0))) (zj qL (zc 1) (zc 3))) (zj qG (zj zz (zj zz (zc 0) (zc 3)) (zc 1)) (zc 4))) (zr (z8 (zi (.bl false))) (zB)) (zB)) (zB))) (zB))) (zr (z8 (zi (.bl true))) (zB))
theorem RN {P:Program}{w:World}{K:Frag}{mg:Str->Option Value}{base:Heap}{k:Nat}(T:Bu mg){f:Addr}{fd:FuncData}(F:jd K "is_even" "is_even" Kw f fd)(hm:mg "is_even" = some (.ref f)):zM P w K mg base (k+1) "is_even" 1 (qi 5 (Ja)):=
 Y.yb F hm Kf (λ _ _ _ _ _ _ us hl=>(kr hl).elim λ a q=>by subst q;rfl) λ cdv A outer s H E hr=>Y.zw (Y.kE PassesOwn.never rfl (Y.Vj rfl T.Xd (Y.zl 0)) (Y.Jm 1 2 rfl Kf.nd) (Y.zw (Y.kE PassesOwn.never rfl (Y.Vj rfl T.Xd (Y.zl 2)) (Y.Jm 3 4 rfl Kf.nd) (Y.zw (Y.jD (Y.gg (Y.Zb (Y.jE (yE hr) (Y.yy (j6 hr) (Y.zl 4) (Y.zq)) (Y.yy (j6 hr) (Y.zl 1) (Y.zl 3))) (Y.gZ (Y.jE (yE hr) (Y.qb (Y.qb (Y.zl 0) (Y.zl 3)) (Y.zl 1)) (Y.zl 4))))) (Y.zw (Y.qp (Y.jP)) (Y.zI)) (Y.zI)) (Y.zI))) (Y.zI))) (Y.zw (Y.qp (Y.jP)) (Y.zI))
noncomputable abbrev Ya:Stmt:=top 8
theorem GL:ju ["rows", "standing"] ["rows"] (qH Ya):=⟨rfl,rfl,rfl,by decide +kernel,rfl,by decide +kernel,by decide +kernel⟩
noncomputable def Yc:Ex:=zr (zX 1 (z7 (zR 2 [] (qc (zc 0)) (zD 0) (zi (.bl true)) (ZR (qc (zc 0)) (zD 1) (zi (.bl true)) (zN (zc 1)))))) (zr (z8 (mQ Zg (zR 1 [1] (qB (mQ j8 (zS (zc 1)))) (zD 0) (zi (.bl true)) (zN (zj J2 (zc 0) (zc 1)))))) (zB))
theorem U4 {P:Program}{w:World}{K:Frag}{mg:Str->Option Value}{base:Heap}{k:Nat}(T:Bu mg){f:Addr}{fd:FuncData}(F:jd K "leaves_no_kind_out" "leaves_no_kind_out" Ya f fd)(hm:mg "leaves_no_kind_out" = some (.ref f)):zM P w K mg base (k+1) "leaves_no_kind_out" 1 (qi 2 (Yc)):=
 Y.yb F hm GL (λ _ _ _ _ _ _ us hl=>(kr hl).elim λ a q=>by subst q;rfl) λ cdv A outer s H E hr=>Y.zw (Y.qt 1 GL.nd (Y.jW (Y.qI (N:=["row", "kind"]) 2 [] rfl (cps (by kernel_rfl)) (by kernel_rfl) (Y.jQ (Y.zl 0)) (λ _ _ _=>⟨Y.qg 0 (by decide +kernel:(["row", "kind"]:List Str).Nodup),Y.qE,Y.LP (λ _ _ z=>z) rfl rfl (by intro _ h;cases h<;>rfl) (Y.jQ (Y.zl 0)) (Y.qg 1 (by decide +kernel:(["row", "kind"]:List Str).Nodup)) (Y.qE) (Y.qA (λ _ _ z=>z) (Y.zl 1) rfl)⟩)))) (Y.zw (Y.qp (Y.Qr rfl T.Qs (Y.yw (Y.qI (N:=["kind", "standing"]) 1 [1] rfl (cps (by kernel_rfl)) (by kernel_rfl) (Y.jv rfl T.jh (Y.KQ rfl T.Jx (Y.jl (Y.zl 1)))) (λ _ _ _=>⟨Y.qg 0 (by decide +kernel:(["kind", "standing"]:List Str).Nodup),Y.qE,Y.qA (λ _ _ z=>z) (Y.IJ UH (Y.zl 0) (Y.zl 1)) rfl⟩))))) (Y.zI))
noncomputable abbrev Yq:Stmt:=top 10
theorem To:ju ["_law_script", "_law_k"] ["_law_script", "_law_k"] (qH Yq):=⟨rfl,rfl,rfl,by decide +kernel,rfl,by decide +kernel,by decide +kernel⟩
noncomputable def QO:Ex:=zr (qw (zj kL (zc 1) (mQ qh (zS (zc 0)))) (zr (z8 (zj zz (zc 0) (zc 1))) (zB)) (zB)) (zr (z8 (zi (.int 0))) (zB))
theorem Tt {P:Program}{w:World}{K:Frag}{mg:Str->Option Value}{base:Heap}{k:Nat}(T:Bu mg){f:Addr}{fd:FuncData}(F:jd K "_law_cell_at" "_law_cell_at" Yq f fd)(hm:mg "_law_cell_at" = some (.ref f)):zM P w K mg base (k+1) "_law_cell_at" 2 (qi 2 (QO)):=
 Y.yb F hm To (λ _ _ _ _ _ _ us hl=>(wR hl).elim λ a h=>h.elim λ b q=>by subst q;rfl) λ cdv A outer s H E hr=>Y.zw (Y.jD (Y.jE Gh (Y.zl 1) (Y.yf T.j7 (Y.jl (Y.zl 0)))) (Y.zw (Y.qp (Y.qb (Y.zl 0) (Y.zl 1))) (Y.zI)) (Y.zI)) (Y.zw (Y.qp (Y.zq)) (Y.zI))
noncomputable abbrev Yy:Stmt:=top 11
theorem GX:ju ["_law_script", "_law_k", "_law_cell"] ["_law_script", "_law_k"] (qH Yy):=⟨rfl,rfl,rfl,by decide +kernel,rfl,by decide +kernel,by decide +kernel⟩
noncomputable def QR (QP:Fn):Ex:=zr (zX 2 (zH QP (zh (zc 0) (zh (zc 1) (zp))))) (zr (qw (zj Gz (zc 2) (zj Zl (zi (.int 10)) (zi (.int 18)))) (zr (z8 (zY (zh (zj jS (zc 2) (zj Zl (zi (.int 10)) (zi (.int 18)))) (zh (zi (.bl true)) (zp))))) (zB)) (zB)) (zr (z8 (zY (zh (zj yD (zc 2) (zi (.int 2147483647))) (zh (zi (.bl false)) (zp))))) (zB)))
theorem T9 {P:Program}{w:World}{K:Frag}{mg:Str->Option Value}{base:Heap}{k:Nat}(T:Bu mg){f:Addr}{fd:FuncData}(F:jd K "_law_state" "_law_state" Yy f fd)(hm:mg "_law_state" = some (.ref f)){QP:Fn}(Zv:zM P w K mg base k "_law_cell_at" 2 QP):zM P w K mg base (k+1) "_law_state" 2 (qi 3 (QR QP)):=
 Y.yb F hm GX (λ _ _ _ _ _ _ us hl=>(wR hl).elim λ a h=>h.elim λ b q=>by subst q;rfl) λ cdv A outer s H E hr=>Y.zw (Y.qt 2 GX.nd (Y.qm Zv hr (Y.zo (Y.zl 0) (Y.zo (Y.zl 1) (Y.zu))) (zm (zm zt)))) (Y.zw (Y.jD (Y.jE Ha (Y.zl 2) (Y.Wg (Y.zq) (Y.zq))) (Y.zw (Y.qp (Y.qY (Y.zo (Y.kZ (Y.zl 2) (Y.Wg (Y.zq) (Y.zq))) (Y.zo (Y.jP) (Y.zu))) (zm (zm zt)))) (Y.zI)) (Y.zI)) (Y.zw (Y.qp (Y.qY (Y.zo (Y.gw (Y.zl 2) (Y.zq)) (Y.zo (Y.jP) (Y.zu))) (zm (zm zt)))) (Y.zI)))
noncomputable abbrev Kb:Stmt:=top 12
theorem QT:ju ["_law_state_here", "_law_many", "_law_found", "_law_stirred"] ["_law_state_here", "_law_many"] (qH Kb):=⟨rfl,rfl,rfl,by decide +kernel,rfl,by decide +kernel,by decide +kernel⟩
noncomputable def QY:Ex:=zr (qw (zj zz (zc 0) (zi (.int 1))) (zr (zX 2 (zj yD (zj zz (zc 0) (zi (.int 0))) (zc 1))) (zr (jK j3 (zj we (zj zz (zc 0) (zi (.int 0))) (zc 1)) (zc 0) (zi (.int 0))) (zr (z8 (zc 2)) (zB)))) (zB)) (zr (jK j3 (zj yD (zj zL (zj qU (zj zz (zc 0) (zi (.int 0))) (zi (.int 48271))) (zi (.int 29))) (zi (.int 2147483647))) (zc 0) (zi (.int 0))) (zr (zX 3 (zj yD (zj zL (zj zL (zj qU (zj zz (zc 0) (zi (.int 0))) (zj zz (zc 0) (zi (.int 0)))) (zj qU (zi (.int 39373)) (zj zz (zc 0) (zi (.int 0))))) (zi (.int 7))) (zi (.int 2147483629)))) (zr (zX 3 (zj yD (zj zL (zj qU (zc 3) (zc 3)) (zj qU (zi (.int 16807)) (zc 3))) (zi (.int 2147483587)))) (zr (z8 (zj yD (zj we (zc 3) (zi (.int 8))) (zc 1))) (zB)))))
theorem Su {P:Program}{w:World}{K:Frag}{mg:Str->Option Value}{base:Heap}{k:Nat}(T:Bu mg){f:Addr}{fd:FuncData}(F:jd K "_law_take" "_law_take" Kb f fd)(hm:mg "_law_take" = some (.ref f)):zM P w K mg base (k+1) "_law_take" 2 (qi 4 (QY)):=
 Y.yb F hm QT (λ _ _ _ _ _ _ us hl=>(wR hl).elim λ a h=>h.elim λ b q=>by subst q;rfl) λ cdv A outer s H E hr=>Y.zw (Y.jD (Y.gr (Y.qb (Y.zl 0) (Y.zq))) (Y.zw (Y.qt 2 QT.nd (Y.gw (Y.qb (Y.zl 0) (Y.zq)) (Y.zl 1))) (Y.zw (Y.gv (Y.ZN (Y.qb (Y.zl 0) (Y.zq)) (Y.zl 1)) (Y.zl 0) (Y.zq)) (Y.zw (Y.qp (Y.zl 2)) (Y.zI)))) (Y.zI)) (Y.zw (Y.gv (Y.gw (Y.qT (Y.ka (Y.qb (Y.zl 0) (Y.zq)) (Y.zq)) (Y.zq)) (Y.zq)) (Y.zl 0) (Y.zq)) (Y.zw (Y.qt 3 QT.nd (Y.gw (Y.qT (Y.qT (Y.ka (Y.qb (Y.zl 0) (Y.zq)) (Y.qb (Y.zl 0) (Y.zq))) (Y.ka (Y.zq) (Y.qb (Y.zl 0) (Y.zq)))) (Y.zq)) (Y.zq))) (Y.zw (Y.qt 3 QT.nd (Y.gw (Y.qT (Y.ka (Y.zl 3) (Y.zl 3)) (Y.ka (Y.zq) (Y.zl 3))) (Y.zq))) (Y.zw (Y.qp (Y.gw (Y.ZN (Y.zl 3) (Y.zq)) (Y.zl 1))) (Y.zI)))))
noncomputable abbrev Yl:Stmt:=top 13
theorem Ye:ju ["_law_state_here", "_law_things", "_law_left", "_law_found"] ["_law_state_here", "_law_things"] (qH Yl):=⟨rfl,rfl,rfl,by decide +kernel,rfl,by decide +kernel,by decide +kernel⟩
noncomputable def Yk (qD:Fn):Ex:=zr (zX 2 (z7 (zS (zc 1)))) (zr (zX 3 (zY (zp))) (zr (Wh 1000 (zj qG (zc 2) (zY (zp))) (zr (Zo (yF kD (zc 3) (yF k9 (zc 2) (zH qD (zh (zc 0) (zh (mQ qh (zS (zc 2))) (zp))))))) (zB))) (zr (z8 (zc 3)) (zB))))
theorem Tf {P:Program}{w:World}{K:Frag}{mg:Str->Option Value}{base:Heap}{k:Nat}(T:Bu mg){f:Addr}{fd:FuncData}(F:jd K "_law_mixed_row" "_law_mixed_row" Yl f fd)(hm:mg "_law_mixed_row" = some (.ref f)){qD:Fn}(qk:zM P w K mg base k "_law_take" 2 qD):zM P w K mg base (k+1) "_law_mixed_row" 2 (qi 4 (Yk qD)):=
 Y.yb F hm Ye (λ _ _ _ _ _ _ us hl=>(wR hl).elim λ a h=>h.elim λ b q=>by subst q;rfl) λ cdv A outer s H E hr=>Y.zw (Y.qt 2 Ye.nd (Y.ZI T.kd (Y.jl (Y.zl 1)))) (Y.zw (Y.qt 3 Ye.nd (Y.qY (Y.zu) (zt))) (Y.zw (Y.PR 1000 PassesOwn.never (Y.jE (yE hr) (Y.zl 2) (Y.qY (Y.zu) (zt))) (Y.zw (Y.KW (Y.Ks (Y.zl 3) (Y.P5 (Y.zl 2) (Y.qm qk hr (Y.zo (Y.zl 0) (Y.zo (Y.yf T.j7 (Y.jl (Y.zl 2))) (Y.zu))) (zm (zm zt)))))) (Y.zI))) (Y.zw (Y.qp (Y.zl 3)) (Y.zI))))
noncomputable abbrev YU:Stmt:=top 14
theorem GW:ju ["_law_rows", "_law_some"] ["_law_rows"] (qH YU):=⟨rfl,rfl,rfl,by decide +kernel,rfl,by decide +kernel,by decide +kernel⟩
noncomputable def YY:Ex:=zr (zX 1 (Jg (zj wL (z7 (zR 1 [] (qc (zc 0)) (zD 0) (zi (.bl true)) (zN (z7 (zS (zc 0)))))) (zY (zp))))) (zr (z8 (mQ jF (zR 1 [1] (qc (zc 0)) (zD 0) (zi (.bl true)) (zN (mQ jF (zR 1 [1] (qc (zc 0)) (zD 0) (zi (.bl true)) (zN (yF k8 (zc 1) (zc 0))))))))) (zB))
theorem Sf {P:Program}{w:World}{K:Frag}{mg:Str->Option Value}{base:Heap}{k:Nat}(T:Bu mg){f:Addr}{fd:FuncData}(F:jd K "_law_named" "_law_named" YU f fd)(hm:mg "_law_named" = some (.ref f)):zM P w K mg base (k+1) "_law_named" 1 (qi 2 (YY)):=
 Y.yb F hm GW (λ _ _ _ _ _ _ us hl=>(kr hl).elim λ a q=>by subst q;rfl) λ cdv A outer s H E hr=>Y.zw (Y.qt 1 GW.nd (Y.Rg rfl T.XX T.Im (Y.O9 rfl T.Ia (Y.jW (Y.qI (N:=["_law_row"]) 1 [] rfl (cps (by kernel_rfl)) (by kernel_rfl) (Y.jQ (Y.zl 0)) (λ _ _ _=>⟨Y.qg 0 (by decide +kernel:(["_law_row"]:List Str).Nodup),Y.qE,Y.qA (λ _ _ z=>z) (Y.ZI T.kd (Y.jl (Y.zl 0))) rfl⟩))) (Y.qY (Y.zu) (zt))))) (Y.zw (Y.qp (Y.kC T.yd (Y.yw (Y.qI (N:=["_law_row", "_law_some"]) 1 [1] rfl (cps (by kernel_rfl)) (by kernel_rfl) (Y.jQ (Y.zl 0)) (λ _ _ _=>⟨Y.qg 0 (by decide +kernel:(["_law_row", "_law_some"]:List Str).Nodup),Y.qE,Y.qA (λ _ _ z=>z) (Y.kC T.yd (Y.yw (Y.qI (N:=["_law_kind", "_law_some"]) 1 [1] rfl (cps (by kernel_rfl)) (by kernel_rfl) (Y.jQ (Y.zl 0)) (λ _ _ _=>⟨Y.qg 0 (by decide +kernel:(["_law_kind", "_law_some"]:List Str).Nodup),Y.qE,Y.qA (λ _ _ z=>z) (Y.Pq hr (Y.zl 1) (Y.zl 0)) rfl⟩)))) rfl⟩))))) (Y.zI))
noncomputable abbrev YX:Stmt:=top 15
theorem yH:ju ["_law_state_here", "_law_way", "_law_many", "_law_wide", "_law_high", "_law_some", "_law_ring", "_law_rows", "_law_a", "_law_near", "_law_far"] ["_law_state_here"] (qH YX):=⟨rfl,rfl,rfl,by decide +kernel,rfl,by decide +kernel,by decide +kernel⟩
noncomputable def QU (qD:Fn):Ex:=zr (zX 1 (zH qD (zh (zc 0) (zh (zi (.int 8)) (zp))))) (zr (zX 2 (zj zz (zY (zh (zi (.int 8)) (zh (zi (.int 7)) (zh (zi (.int 6)) (zh (zi (.int 5)) (zh (zi (.int 4)) (zh (zi (.int 3)) (zh (zi (.int 2)) (zh (zi (.int 1)) (zp)))))))))) (zH qD (zh (zc 0) (zh (zi (.int 8)) (zp)))))) (zr (qw (zj qL (zc 1) (zi (.int 0))) (zr (z8 (z7 (zR 1 [2] (qB (zc 2)) (zD 0) (zi (.bl true)) (zN (z7 (zR 1 [0,1] (qB (zc 1)) (zD 0) (zi (.bl true)) (zN (zj gz (q9 QA (zj jS (zc 1) (zc 0))) (zj jS (zc 2) (q9 QA (zj jS (zc 1) (zc 0)))))))))))) (zB)) (zB)) (zr (qw (zj qL (zc 1) (zi (.int 1))) (zr (zX 2 (zj zz (zY (zh (zi (.int 8)) (zh (zi (.int 4)) (zh (zi (.int 2)) (zp))))) (zH qD (zh (zc 0) (zh (zi (.int 3)) (zp)))))) (zr (z8 (z7 (zR 1 [2] (qB (zc 2)) (zD 0) (zi (.bl true)) (zN (z7 (zR 1 [0] (qB (zc 1)) (zD 0) (zi (.bl true)) (zN (zj zz (zY (zh (zi (.int 0)) (zh (zi (.int 1)) (zh (zi (.int 1)) (zh (zi (.int 2)) (zh (zi (.int 1)) (zh (zi (.int 2)) (zh (zi (.int 2)) (zh (zi (.int 3)) (zp)))))))))) (zj Gb (zc 1) (zc 0)))))))))) (zB))) (zB)) (zr (qw (zj qL (zc 1) (zi (.int 2))) (zr (z8 (z7 (zR 1 [2] (qB (zc 2)) (zD 0) (zi (.bl true)) (zN (z7 (zR 1 [0] (qB (zc 1)) (zD 0) (zi (.bl true)) (zN (q9 wO (zj qG (zc 1) (zc 0)))))))))) (zB)) (zB)) (zr (qw (zj qL (zc 1) (zi (.int 3))) (zr (JM (zj zz (zY (zh (zy (zh (zi (.int 2)) (zh (zi (.int 4)) (zp)))) (zh (zy (zh (zi (.int 4)) (zh (zi (.int 2)) (zp)))) (zh (zy (zh (zi (.int 2)) (zh (zi (.int 3)) (zp)))) (zh (zy (zh (zi (.int 3)) (zh (zi (.int 2)) (zp)))) (zh (zy (zh (zi (.int 2)) (zh (zi (.int 2)) (zp)))) (zp))))))) (zH qD (zh (zc 0) (zh (zi (.int 5)) (zp))))) (wK 3 4)) (zr (zX 2 (zj qU (zc 3) (zc 4))) (zr (z8 (z7 (zR 1 [2,3] (qB (zc 2)) (zD 0) (zi (.bl true)) (zN (z7 (zR 1 [0,2] (qB (zc 1)) (zD 0) (zi (.bl true)) (zN (zj zL (q9 wO (zj qG (zc 1) (zc 0))) (q9 wO (zj qG (zj we (zc 1) (zc 2)) (zj we (zc 0) (zc 2)))))))))))) (zB)))) (zB)) (zr (qw (zj qL (zc 1) (zi (.int 4))) (zr (zX 5 (zY (zh (zy (zh (zi (.int 0)) (zh (zi (.int 1)) (zp)))) (zh (zy (zh (zi (.int 0)) (zh (zi (.int 2)) (zp)))) (zh (zy (zh (zi (.int 0)) (zh (zi (.int 3)) (zp)))) (zh (zy (zh (zi (.int 1)) (zh (zi (.int 2)) (zp)))) (zh (zy (zh (zi (.int 1)) (zh (zi (.int 3)) (zp)))) (zh (zy (zh (zi (.int 2)) (zh (zi (.int 3)) (zp)))) (zp))))))))) (zr (z8 (z7 (zR 1 [5] (qc (zc 5)) (zD 0) (zi (.bl true)) (zN (z7 (zR 1 [0] (qc (zc 1)) (zD 0) (zi (.bl true)) (zN (zj jS (zi (.int 2)) (mQ qh (zR 1 [0] (qc (zc 1)) (zD 0) (zj J2 (zc 0) (zc 1)) (zN (zc 0)))))))))))) (zB))) (zB)) (zr (qw (zj qL (zc 1) (zi (.int 5))) (zr (zX 2 (zj zz (zY (zh (zi (.int 4)) (zh (zi (.int 8)) (zh (zi (.int 2)) (zp))))) (zH qD (zh (zc 0) (zh (zi (.int 3)) (zp)))))) (zr (z8 (z7 (zR 1 [2] (qB (zc 2)) (zD 0) (zi (.bl true)) (zN (z7 (zR 1 [0] (qB (zc 1)) (zD 0) (zi (.bl true)) (zN (zj Gb (zc 1) (zc 0))))))))) (zB))) (zB)) (zr (zX 3 (zj zz (zY (zh (zi (.int 4)) (zh (zi (.int 3)) (zh (zi (.int 2)) (zp))))) (zH qD (zh (zc 0) (zh (zi (.int 3)) (zp)))))) (zr (zX 6 (zY (zh (zi (.int 0)) (zh (zi (.int 1)) (zh (zj zz (zY (zh (zi (.int 2)) (zh (zi (.int 1)) (zp)))) (q9 wO (zj qL (zc 3) (zi (.int 3))))) (zh (zi (.int 1)) (zp))))))) (zr (zX 7 (zY (zp))) (zr (jZ (qB (zj qU (zi (.int 2)) (zc 3))) (zD 8) (zr (zX 9 (z7 (zR 1 [3,6,8] (qB (zj qU (zi (.int 2)) (zc 3))) (zD 0) (zi (.bl true)) (zN (zj zz (zc 2) (zj yD (q9 QA (zj jS (zc 3) (zc 0))) (zc 1))))))) (zr (zX 10 (z7 (zR 1 [3,8] (qB (zj qU (zi (.int 2)) (zc 3))) (zD 0) (zi (.bl true)) (zN (q9 wO (zj qG (zj we (zc 2) (zc 1)) (zj we (zc 0) (zc 1)))))))) (zr (qw (zj qL (zc 1) (zi (.int 6))) (zr (Zo (yF kD (zc 7) (z7 (zR 1 [9,10] (qB (zj qU (zi (.int 2)) (zc 3))) (zD 0) (zi (.bl true)) (zN (zj zL (zj qU (zi (.int 3)) (zj zz (zc 2) (zc 0))) (zj zz (zc 1) (zc 0)))))))) (zB)) (zr (Zo (yF kD (zc 7) (z7 (zR 1 [9,10] (qB (zj qU (zi (.int 2)) (zc 3))) (zD 0) (zi (.bl true)) (zN (US (zj qL (zj zz (zc 2) (zc 0)) (zi (.int 1))) (zi (.int 3)) (zj zz (zc 1) (zc 0)))))))) (zB))) (zB))))) (zr (z8 (zc 7)) (zB)))))))))))))
theorem TY {P:Program}{w:World}{K:Frag}{mg:Str->Option Value}{base:Heap}{k:Nat}(T:Bu mg){f:Addr}{fd:FuncData}(F:jd K "_law_plain" "_law_plain" YX f fd)(hm:mg "_law_plain" = some (.ref f)){qD:Fn}(qk:zM P w K mg base k "_law_take" 2 qD):zM P w K mg base (k+1) "_law_plain" 1 (qi 11 (QU qD)):=
 Y.yb F hm yH (λ _ _ _ _ _ _ us hl=>(kr hl).elim λ a q=>by subst q;rfl) λ cdv A outer s H E hr=>Y.zw (Y.qt 1 yH.nd (Y.qm qk hr (Y.zo (Y.zl 0) (Y.zo (Y.zq) (Y.zu))) (zm (zm zt)))) (Y.zw (Y.qt 2 yH.nd (Y.qb (Y.qY (Y.zo (Y.zq) (Y.zo (Y.zq) (Y.zo (Y.zq) (Y.zo (Y.zq) (Y.zo (Y.zq) (Y.zo (Y.zq) (Y.zo (Y.zq) (Y.zo (Y.zq) (Y.zu))))))))) (zm (zm (zm (zm (zm (zm (zm (zm zt))))))))) (Y.qm qk hr (Y.zo (Y.zl 0) (Y.zo (Y.zq) (Y.zu))) (zm (zm zt))))) (Y.zw (Y.jD (Y.jE (j6 hr) (Y.zl 1) (Y.zq)) (Y.zw (Y.qp (Y.jW (Y.qI (N:=["_law_a", "_law_many"]) 1 [2] rfl (cps (by kernel_rfl)) (by kernel_rfl) (Y.jv rfl T.jh (Y.zl 2)) (λ _ _ _=>⟨Y.qg 0 (by decide +kernel:(["_law_a", "_law_many"]:List Str).Nodup),Y.qE,Y.qA (λ _ _ z=>z) (Y.jW (Y.qI (N:=["_law_b", "_law_a", "_law_many"]) 1 [0,1] rfl (cps (by kernel_rfl)) (by kernel_rfl) (Y.jv rfl T.jh (Y.zl 1)) (λ _ _ _=>⟨Y.qg 0 (by decide +kernel:(["_law_b", "_law_a", "_law_many"]:List Str).Nodup),Y.qE,Y.qA (λ _ _ z=>z) (Y.KY rfl T.WC (Y.Wj T.W4 (Y.kZ (Y.zl 1) (Y.zl 0))) (Y.kZ (Y.zl 2) (Y.Wj T.W4 (Y.kZ (Y.zl 1) (Y.zl 0))))) rfl⟩))) rfl⟩)))) (Y.zI)) (Y.zI)) (Y.zw (Y.jD (Y.jE (j6 hr) (Y.zl 1) (Y.zq)) (Y.zw (Y.qt 2 yH.nd (Y.qb (Y.qY (Y.zo (Y.zq) (Y.zo (Y.zq) (Y.zo (Y.zq) (Y.zu)))) (zm (zm (zm zt)))) (Y.qm qk hr (Y.zo (Y.zl 0) (Y.zo (Y.zq) (Y.zu))) (zm (zm zt))))) (Y.zw (Y.qp (Y.jW (Y.qI (N:=["_law_a", "_law_many"]) 1 [2] rfl (cps (by kernel_rfl)) (by kernel_rfl) (Y.jv rfl T.jh (Y.zl 2)) (λ _ _ _=>⟨Y.qg 0 (by decide +kernel:(["_law_a", "_law_many"]:List Str).Nodup),Y.qE,Y.qA (λ _ _ z=>z) (Y.jW (Y.qI (N:=["_law_b", "_law_a"]) 1 [0] rfl (cps (by kernel_rfl)) (by kernel_rfl) (Y.jv rfl T.jh (Y.zl 1)) (λ _ _ _=>⟨Y.qg 0 (by decide +kernel:(["_law_b", "_law_a"]:List Str).Nodup),Y.qE,Y.qA (λ _ _ z=>z) (Y.qb (Y.qY (Y.zo (Y.zq) (Y.zo (Y.zq) (Y.zo (Y.zq) (Y.zo (Y.zq) (Y.zo (Y.zq) (Y.zo (Y.zq) (Y.zo (Y.zq) (Y.zo (Y.zq) (Y.zu))))))))) (zm (zm (zm (zm (zm (zm (zm (zm zt))))))))) (Y.VZ (Y.zl 1) (Y.zl 0))) rfl⟩))) rfl⟩)))) (Y.zI))) (Y.zI)) (Y.zw (Y.jD (Y.jE (j6 hr) (Y.zl 1) (Y.zq)) (Y.zw (Y.qp (Y.jW (Y.qI (N:=["_law_a", "_law_many"]) 1 [2] rfl (cps (by kernel_rfl)) (by kernel_rfl) (Y.jv rfl T.jh (Y.zl 2)) (λ _ _ _=>⟨Y.qg 0 (by decide +kernel:(["_law_a", "_law_many"]:List Str).Nodup),Y.qE,Y.qA (λ _ _ z=>z) (Y.jW (Y.qI (N:=["_law_b", "_law_a"]) 1 [0] rfl (cps (by kernel_rfl)) (by kernel_rfl) (Y.jv rfl T.jh (Y.zl 1)) (λ _ _ _=>⟨Y.qg 0 (by decide +kernel:(["_law_b", "_law_a"]:List Str).Nodup),Y.qE,Y.qA (λ _ _ z=>z) (Y.ZE T.gD (Y.yy (yE hr) (Y.zl 1) (Y.zl 0))) rfl⟩))) rfl⟩)))) (Y.zI)) (Y.zI)) (Y.zw (Y.jD (Y.jE (j6 hr) (Y.zl 1) (Y.zq)) (Y.zw (Y.Mj (Y.qb (Y.qY (Y.zo (Y.zV (Y.zo (Y.zq) (Y.zo (Y.zq) (Y.zu))) (zm (zm zt))) (Y.zo (Y.zV (Y.zo (Y.zq) (Y.zo (Y.zq) (Y.zu))) (zm (zm zt))) (Y.zo (Y.zV (Y.zo (Y.zq) (Y.zo (Y.zq) (Y.zu))) (zm (zm zt))) (Y.zo (Y.zV (Y.zo (Y.zq) (Y.zo (Y.zq) (Y.zu))) (zm (zm zt))) (Y.zo (Y.zV (Y.zo (Y.zq) (Y.zo (Y.zq) (Y.zu))) (zm (zm zt))) (Y.zu)))))) (zm (zm (zm (zm (zm zt)))))) (Y.qm qk hr (Y.zo (Y.zl 0) (Y.zo (Y.zq) (Y.zu))) (zm (zm zt)))) (Y.Jm 3 4 rfl yH.nd)) (Y.zw (Y.qt 2 yH.nd (Y.ka (Y.zl 3) (Y.zl 4))) (Y.zw (Y.qp (Y.jW (Y.qI (N:=["_law_a", "_law_many", "_law_wide"]) 1 [2,3] rfl (cps (by kernel_rfl)) (by kernel_rfl) (Y.jv rfl T.jh (Y.zl 2)) (λ _ _ _=>⟨Y.qg 0 (by decide +kernel:(["_law_a", "_law_many", "_law_wide"]:List Str).Nodup),Y.qE,Y.qA (λ _ _ z=>z) (Y.jW (Y.qI (N:=["_law_b", "_law_a", "_law_wide"]) 1 [0,2] rfl (cps (by kernel_rfl)) (by kernel_rfl) (Y.jv rfl T.jh (Y.zl 1)) (λ _ _ _=>⟨Y.qg 0 (by decide +kernel:(["_law_b", "_law_a", "_law_wide"]:List Str).Nodup),Y.qE,Y.qA (λ _ _ z=>z) (Y.qT (Y.ZE T.gD (Y.yy (yE hr) (Y.zl 1) (Y.zl 0))) (Y.ZE T.gD (Y.yy (yE hr) (Y.ZN (Y.zl 1) (Y.zl 2)) (Y.ZN (Y.zl 0) (Y.zl 2))))) rfl⟩))) rfl⟩)))) (Y.zI)))) (Y.zI)) (Y.zw (Y.jD (Y.jE (j6 hr) (Y.zl 1) (Y.zq)) (Y.zw (Y.qt 5 yH.nd (Y.qY (Y.zo (Y.zV (Y.zo (Y.zq) (Y.zo (Y.zq) (Y.zu))) (zm (zm zt))) (Y.zo (Y.zV (Y.zo (Y.zq) (Y.zo (Y.zq) (Y.zu))) (zm (zm zt))) (Y.zo (Y.zV (Y.zo (Y.zq) (Y.zo (Y.zq) (Y.zu))) (zm (zm zt))) (Y.zo (Y.zV (Y.zo (Y.zq) (Y.zo (Y.zq) (Y.zu))) (zm (zm zt))) (Y.zo (Y.zV (Y.zo (Y.zq) (Y.zo (Y.zq) (Y.zu))) (zm (zm zt))) (Y.zo (Y.zV (Y.zo (Y.zq) (Y.zo (Y.zq) (Y.zu))) (zm (zm zt))) (Y.zu))))))) (zm (zm (zm (zm (zm (zm zt)))))))) (Y.zw (Y.qp (Y.jW (Y.qI (N:=["_law_a", "_law_some"]) 1 [5] rfl (cps (by kernel_rfl)) (by kernel_rfl) (Y.jQ (Y.zl 5)) (λ _ _ _=>⟨Y.qg 0 (by decide +kernel:(["_law_a", "_law_some"]:List Str).Nodup),Y.qE,Y.qA (λ _ _ z=>z) (Y.jW (Y.qI (N:=["_law_b", "_law_a"]) 1 [0] rfl (cps (by kernel_rfl)) (by kernel_rfl) (Y.jQ (Y.zl 1)) (λ _ _ _=>⟨Y.qg 0 (by decide +kernel:(["_law_b", "_law_a"]:List Str).Nodup),Y.qE,Y.qA (λ _ _ z=>z) (Y.kZ (Y.zq) (Y.yf T.j7 (Y.yw (Y.qI (N:=["_law_one", "_law_b"]) 1 [0] rfl (cps (by kernel_rfl)) (by kernel_rfl) (Y.jQ (Y.zl 1)) (λ _ _ _=>⟨Y.qg 0 (by decide +kernel:(["_law_one", "_law_b"]:List Str).Nodup),Y.Vn (Y.Iv UH (Y.zl 0) (Y.zl 1)),Y.qA (λ _ _ z=>z) (Y.zl 0) rfl⟩))))) rfl⟩))) rfl⟩)))) (Y.zI))) (Y.zI)) (Y.zw (Y.jD (Y.jE (j6 hr) (Y.zl 1) (Y.zq)) (Y.zw (Y.qt 2 yH.nd (Y.qb (Y.qY (Y.zo (Y.zq) (Y.zo (Y.zq) (Y.zo (Y.zq) (Y.zu)))) (zm (zm (zm zt)))) (Y.qm qk hr (Y.zo (Y.zl 0) (Y.zo (Y.zq) (Y.zu))) (zm (zm zt))))) (Y.zw (Y.qp (Y.jW (Y.qI (N:=["_law_a", "_law_many"]) 1 [2] rfl (cps (by kernel_rfl)) (by kernel_rfl) (Y.jv rfl T.jh (Y.zl 2)) (λ _ _ _=>⟨Y.qg 0 (by decide +kernel:(["_law_a", "_law_many"]:List Str).Nodup),Y.qE,Y.qA (λ _ _ z=>z) (Y.jW (Y.qI (N:=["_law_b", "_law_a"]) 1 [0] rfl (cps (by kernel_rfl)) (by kernel_rfl) (Y.jv rfl T.jh (Y.zl 1)) (λ _ _ _=>⟨Y.qg 0 (by decide +kernel:(["_law_b", "_law_a"]:List Str).Nodup),Y.qE,Y.qA (λ _ _ z=>z) (Y.VZ (Y.zl 1) (Y.zl 0)) rfl⟩))) rfl⟩)))) (Y.zI))) (Y.zI)) (Y.zw (Y.qt 3 yH.nd (Y.qb (Y.qY (Y.zo (Y.zq) (Y.zo (Y.zq) (Y.zo (Y.zq) (Y.zu)))) (zm (zm (zm zt)))) (Y.qm qk hr (Y.zo (Y.zl 0) (Y.zo (Y.zq) (Y.zu))) (zm (zm zt))))) (Y.zw (Y.qt 6 yH.nd (Y.qY (Y.zo (Y.zq) (Y.zo (Y.zq) (Y.zo (Y.qb (Y.qY (Y.zo (Y.zq) (Y.zo (Y.zq) (Y.zu))) (zm (zm zt))) (Y.ZE T.gD (Y.yy (j6 hr) (Y.zl 3) (Y.zq)))) (Y.zo (Y.zq) (Y.zu))))) (zm (zm (zm (zm zt)))))) (Y.zw (Y.qt 7 yH.nd (Y.qY (Y.zu) (zt))) (Y.zw (Y.kE PassesOwn.never rfl (Y.jv rfl T.jh (Y.ka (Y.zq) (Y.zl 3))) (Y.qg 8 yH.nd) (Y.zw (Y.qt 9 yH.nd (Y.jW (Y.qI (N:=["_law_b", "_law_wide", "_law_ring", "_law_a"]) 1 [3,6,8] rfl (cps (by kernel_rfl)) (by kernel_rfl) (Y.jv rfl T.jh (Y.ka (Y.zq) (Y.zl 3))) (λ _ _ _=>⟨Y.qg 0 (by decide +kernel:(["_law_b", "_law_wide", "_law_ring", "_law_a"]:List Str).Nodup),Y.qE,Y.qA (λ _ _ z=>z) (Y.qb (Y.zl 2) (Y.gw (Y.Wj T.W4 (Y.kZ (Y.zl 3) (Y.zl 0))) (Y.zl 1))) rfl⟩)))) (Y.zw (Y.qt 10 yH.nd (Y.jW (Y.qI (N:=["_law_b", "_law_wide", "_law_a"]) 1 [3,8] rfl (cps (by kernel_rfl)) (by kernel_rfl) (Y.jv rfl T.jh (Y.ka (Y.zq) (Y.zl 3))) (λ _ _ _=>⟨Y.qg 0 (by decide +kernel:(["_law_b", "_law_wide", "_law_a"]:List Str).Nodup),Y.qE,Y.qA (λ _ _ z=>z) (Y.ZE T.gD (Y.yy (yE hr) (Y.ZN (Y.zl 2) (Y.zl 1)) (Y.ZN (Y.zl 0) (Y.zl 1)))) rfl⟩)))) (Y.zw (Y.jD (Y.jE (j6 hr) (Y.zl 1) (Y.zq)) (Y.zw (Y.KW (Y.Ks (Y.zl 7) (Y.jW (Y.qI (N:=["_law_b", "_law_near", "_law_far"]) 1 [9,10] rfl (cps (by kernel_rfl)) (by kernel_rfl) (Y.jv rfl T.jh (Y.ka (Y.zq) (Y.zl 3))) (λ _ _ _=>⟨Y.qg 0 (by decide +kernel:(["_law_b", "_law_near", "_law_far"]:List Str).Nodup),Y.qE,Y.qA (λ _ _ z=>z) (Y.qT (Y.ka (Y.zq) (Y.qb (Y.zl 2) (Y.zl 0))) (Y.qb (Y.zl 1) (Y.zl 0))) rfl⟩))))) (Y.zI)) (Y.zw (Y.KW (Y.Ks (Y.zl 7) (Y.jW (Y.qI (N:=["_law_b", "_law_near", "_law_far"]) 1 [9,10] rfl (cps (by kernel_rfl)) (by kernel_rfl) (Y.jv rfl T.jh (Y.ka (Y.zq) (Y.zl 3))) (λ _ _ _=>⟨Y.qg 0 (by decide +kernel:(["_law_b", "_law_near", "_law_far"]:List Str).Nodup),Y.qE,Y.qA (λ _ _ z=>z) (Y.L8 (Y.jE (j6 hr) (Y.qb (Y.zl 2) (Y.zl 0)) (Y.zq)) (Y.zq) (Y.qb (Y.zl 1) (Y.zl 0))) rfl⟩))))) (Y.zI))) (Y.zI))))) (Y.zw (Y.qp (Y.zl 7)) (Y.zI)))))))))))))
noncomputable abbrev Yx:Stmt:=top 16
theorem QQ:ju ["_law_state_here", "_law_rows", "_law_order", "_law_kinds"] ["_law_state_here"] (qH Yx):=⟨rfl,rfl,rfl,by decide +kernel,rfl,by decide +kernel,by decide +kernel⟩
noncomputable def YD (Z3:Fn)(kR:Fn)(QX:Fn):Ex:=zr (zX 1 (zH kR (zh (zH QX (zh (zc 0) (zp))) (zp)))) (zr (zX 2 (zH Z3 (zh (zc 0) (zh (ZK (mQ qh (zS (zc 1)))) (zp))))) (zr (zX 3 (zj zL (zY (zh (zi (.int 0)) (zp))) (zH Z3 (zh (zc 0) (zh (Qk (zi (.int 1)) (zj zL (zi (.int 1)) (mQ j8 (zR 1 [] (qc (zc 1)) (zD 0) (zi (.bl true)) (zN (mQ j8 (zS (zc 0)))))))) (zp)))))) (zr (z8 (mQ jF (zR 1 [1,2,3] (qc (zc 2)) (zD 0) (zi (.bl true)) (zN (mQ jF (zR 1 [0,1,3] (qc (zc 2)) (zD 0) (zi (.bl true)) (zN (zj zz (zc 3) (zj zz (zj zz (zc 2) (zc 1)) (zc 0)))))))))) (zB))))
theorem TM {P:Program}{w:World}{K:Frag}{mg:Str->Option Value}{base:Heap}{k:Nat}(T:Bu mg){f:Addr}{fd:FuncData}(F:jd K "_law_known" "_law_known" Yx f fd)(hm:mg "_law_known" = some (.ref f)){Z3:Fn}(wy:zM P w K mg base k "_law_mixed_row" 2 Z3){kR:Fn}(y8:zM P w K mg base k "_law_named" 1 kR){QX:Fn}(Zw:zM P w K mg base k "_law_plain" 1 QX):zM P w K mg base (k+1) "_law_known" 1 (qi 4 (YD Z3 kR QX)):=
 Y.yb F hm QQ (λ _ _ _ _ _ _ us hl=>(kr hl).elim λ a q=>by subst q;rfl) λ cdv A outer s H E hr=>Y.zw (Y.qt 1 QQ.nd (Y.qm y8 hr (Y.zo (Y.qm Zw hr (Y.zo (Y.zl 0) (Y.zu)) (zm zt)) (Y.zu)) (zm zt))) (Y.zw (Y.qt 2 QQ.nd (Y.qm wy hr (Y.zo (Y.zl 0) (Y.zo (Y.XG rfl T.kd T.jh (Y.yf T.j7 (Y.jl (Y.zl 1)))) (Y.zu))) (zm (zm zt)))) (Y.zw (Y.qt 3 QQ.nd (Y.qT (Y.qY (Y.zo (Y.zq) (Y.zu)) (zm zt)) (Y.qm wy hr (Y.zo (Y.zl 0) (Y.zo (Y.Ry rfl T.kd T.jh (Y.zq) (Y.qT (Y.zq) (Y.KQ rfl T.Jx (Y.yw (Y.qI (N:=["_law_row"]) 1 [] rfl (cps (by kernel_rfl)) (by kernel_rfl) (Y.jQ (Y.zl 1)) (λ _ _ _=>⟨Y.qg 0 (by decide +kernel:(["_law_row"]:List Str).Nodup),Y.qE,Y.qA (λ _ _ z=>z) (Y.KQ rfl T.Jx (Y.jl (Y.zl 0))) rfl⟩)))))) (Y.zu))) (zm (zm zt))))) (Y.zw (Y.qp (Y.kC T.yd (Y.yw (Y.qI (N:=["_law_a", "_law_rows", "_law_order", "_law_kinds"]) 1 [1,2,3] rfl (cps (by kernel_rfl)) (by kernel_rfl) (Y.jQ (Y.zl 2)) (λ _ _ _=>⟨Y.qg 0 (by decide +kernel:(["_law_a", "_law_rows", "_law_order", "_law_kinds"]:List Str).Nodup),Y.qE,Y.qA (λ _ _ z=>z) (Y.kC T.yd (Y.yw (Y.qI (N:=["_law_b", "_law_a", "_law_rows", "_law_kinds"]) 1 [0,1,3] rfl (cps (by kernel_rfl)) (by kernel_rfl) (Y.jQ (Y.zl 2)) (λ _ _ _=>⟨Y.qg 0 (by decide +kernel:(["_law_b", "_law_a", "_law_rows", "_law_kinds"]:List Str).Nodup),Y.qE,Y.qA (λ _ _ z=>z) (Y.qb (Y.zl 3) (Y.qb (Y.qb (Y.zl 2) (Y.zl 1)) (Y.zl 0))) rfl⟩)))) rfl⟩))))) (Y.zI))))
noncomputable abbrev YH:Stmt:=top 17
theorem wz:ju ["_law_state_here", "_law_way", "_law_rows", "_law_many", "_law_a", "_law_b", "_law_far"] ["_law_state_here"] (qH YH):=⟨rfl,rfl,rfl,by decide +kernel,rfl,by decide +kernel,by decide +kernel⟩
noncomputable def YZ (Z6:Fn)(kR:Fn)(qD:Fn):Ex:=zr (zX 1 (zH qD (zh (zc 0) (zh (zi (.int 3)) (zp))))) (zr (qw (zj qL (zc 1) (zi (.int 0))) (zr (z8 (zH Z6 (zh (zc 0) (zp)))) (zB)) (zB)) (zr (zX 2 (z7 (zR 1 [] (qc (zH Z6 (zh (zc 0) (zp)))) (zD 0) (zi (.bl true)) (zN (z7 (zS (zc 0))))))) (zr (zX 3 (mQ qh (zS (zc 2)))) (zr (qw (yx (zj qL (zc 1) (zi (.int 1))) (zj Gx (zc 3) (zi (.int 1)))) (zr (zX 4 (zH qD (zh (zc 0) (zh (zc 3) (zp))))) (zr (zX 5 (zj yD (zj zL (zj zL (zc 4) (zi (.int 1))) (zH qD (zh (zc 0) (zh (zj jS (zc 3) (zi (.int 1))) (zp))))) (zc 3))) (zr (jK j3 (zj zL (zi (.int 1)) (zH qD (zh (zc 0) (zh (zj jS (zc 3) (zi (.int 1))) (zp))))) (zj zz (zc 2) (zc 4)) (zc 5)) (zr (jK j3 (zj zz (zj zz (zc 2) (zc 4)) (zc 5)) (zj zz (zc 2) (zc 5)) (zc 4)) (zr (z8 (zH kR (zh (zc 2) (zp)))) (zB)))))) (zB)) (zr (zX 6 (zj zz (zY (zh (zi (.int 2)) (zh (zi (.int 3)) (zh (zi (.int 1)) (zp))))) (zH qD (zh (zc 0) (zh (zi (.int 3)) (zp)))))) (zr (jZ (qB (zc 3)) (zD 4) (zr (jZ (qB (zc 4)) (zD 5) (zr (jK j3 (zj zL (zi (.int 1)) (zH qD (zh (zc 0) (zh (zj gz (zc 6) (zj jS (zc 3) (zi (.int 1)))) (zp))))) (zj zz (zc 2) (zc 4)) (zc 5)) (zr (jK j3 (zj zz (zj zz (zc 2) (zc 4)) (zc 5)) (zj zz (zc 2) (zc 5)) (zc 4)) (zB)))) (zB))) (zr (z8 (zH kR (zh (zc 2) (zp)))) (zB))))))))
theorem T4 {P:Program}{w:World}{K:Frag}{mg:Str->Option Value}{base:Heap}{k:Nat}(T:Bu mg){f:Addr}{fd:FuncData}(F:jd K "_law_table" "_law_table" YH f fd)(hm:mg "_law_table" = some (.ref f)){Z6:Fn}(wA:zM P w K mg base k "_law_known" 1 Z6){kR:Fn}(y8:zM P w K mg base k "_law_named" 1 kR){qD:Fn}(qk:zM P w K mg base k "_law_take" 2 qD):zM P w K mg base (k+1) "_law_table" 1 (qi 7 (YZ Z6 kR qD)):=
 Y.yb F hm wz (λ _ _ _ _ _ _ us hl=>(kr hl).elim λ a q=>by subst q;rfl) λ cdv A outer s H E hr=>Y.zw (Y.qt 1 wz.nd (Y.qm qk hr (Y.zo (Y.zl 0) (Y.zo (Y.zq) (Y.zu))) (zm (zm zt)))) (Y.zw (Y.jD (Y.jE (j6 hr) (Y.zl 1) (Y.zq)) (Y.zw (Y.qp (Y.qm wA hr (Y.zo (Y.zl 0) (Y.zu)) (zm zt))) (Y.zI)) (Y.zI)) (Y.zw (Y.Xm 2 (N:=["_law_row"]) 1 [] wz.nd rfl (cps (by kernel_rfl)) (by kernel_rfl) (Y.jQ (Y.qm wA hr (Y.zo (Y.zl 0) (Y.zu)) (zm zt))) (λ _ _ _=>⟨Y.qg 0 (by decide +kernel:(["_law_row"]:List Str).Nodup),Y.qE,Y.qA (λ _ _ z=>z) (Y.ZI T.kd (Y.jl (Y.zl 0))) rfl⟩)) (Y.zw (Y.qt 3 wz.nd (Y.yf T.j7 (Y.jl (Y.zl 2)))) (Y.zw (Y.jD (Y.gg (Y.My (Y.jE (j6 hr) (Y.zl 1) (Y.zq)) (Y.Nr (Y.jE Hd (Y.zl 3) (Y.zq))))) (Y.zw (Y.qt 4 wz.nd (Y.qm qk hr (Y.zo (Y.zl 0) (Y.zo (Y.zl 3) (Y.zu))) (zm (zm zt)))) (Y.zw (Y.qt 5 wz.nd (Y.gw (Y.qT (Y.qT (Y.zl 4) (Y.zq)) (Y.qm qk hr (Y.zo (Y.zl 0) (Y.zo (Y.kZ (Y.zl 3) (Y.zq)) (Y.zu))) (zm (zm zt)))) (Y.zl 3))) (Y.zw (Y.gv (Y.qT (Y.zq) (Y.qm qk hr (Y.zo (Y.zl 0) (Y.zo (Y.kZ (Y.zl 3) (Y.zq)) (Y.zu))) (zm (zm zt)))) (Y.qb (Y.zl 2) (Y.zl 4)) (Y.zl 5)) (Y.zw (Y.gv (Y.qb (Y.qb (Y.zl 2) (Y.zl 4)) (Y.zl 5)) (Y.qb (Y.zl 2) (Y.zl 5)) (Y.zl 4)) (Y.zw (Y.qp (Y.qm y8 hr (Y.zo (Y.zl 2) (Y.zu)) (zm zt))) (Y.zI)))))) (Y.zI)) (Y.zw (Y.qt 6 wz.nd (Y.qb (Y.qY (Y.zo (Y.zq) (Y.zo (Y.zq) (Y.zo (Y.zq) (Y.zu)))) (zm (zm (zm zt)))) (Y.qm qk hr (Y.zo (Y.zl 0) (Y.zo (Y.zq) (Y.zu))) (zm (zm zt))))) (Y.zw (Y.kE PassesOwn.never rfl (Y.jv rfl T.jh (Y.zl 3)) (Y.qg 4 wz.nd) (Y.zw (Y.kE PassesOwn.never rfl (Y.jv rfl T.jh (Y.zl 4)) (Y.qg 5 wz.nd) (Y.zw (Y.gv (Y.qT (Y.zq) (Y.qm qk hr (Y.zo (Y.zl 0) (Y.zo (Y.KY rfl T.WC (Y.zl 6) (Y.kZ (Y.zl 3) (Y.zq))) (Y.zu))) (zm (zm zt)))) (Y.qb (Y.zl 2) (Y.zl 4)) (Y.zl 5)) (Y.zw (Y.gv (Y.qb (Y.qb (Y.zl 2) (Y.zl 4)) (Y.zl 5)) (Y.qb (Y.zl 2) (Y.zl 5)) (Y.zl 4)) (Y.zI)))) (Y.zI))) (Y.zw (Y.qp (Y.qm y8 hr (Y.zo (Y.zl 2) (Y.zu)) (zm zt))) (Y.zI))))))))
noncomputable abbrev YR:Stmt:=top 18
theorem TC:ju ["_law_thing"] ["_law_thing"] (qH YR):=⟨rfl,rfl,rfl,by decide +kernel,rfl,by decide +kernel,by decide +kernel⟩
noncomputable def GZ:Ex:=zr (z8 (yx (jA .int (zc 0)) (qK (jA .bl (zc 0))))) (zB)
theorem Sa {P:Program}{w:World}{K:Frag}{mg:Str->Option Value}{base:Heap}{k:Nat}(T:Bu mg){f:Addr}{fd:FuncData}(F:jd K "_law_whole" "_law_whole" YR f fd)(hm:mg "_law_whole" = some (.ref f)):zM P w K mg base (k+1) "_law_whole" 1 (qi 1 (GZ)):=
 Y.yb F hm TC (λ _ _ _ _ _ _ us hl=>(kr hl).elim λ a q=>by subst q;rfl) λ cdv A outer s H E hr=>Y.zw (Y.qp (Y.gu (Y.yK .int T.yA T.gD (by rfl) (Y.zl 0)) (Y.gU (Y.V6 (Y.yK .bl T.yA T.Jw (by rfl) (Y.zl 0)))))) (Y.zI)
noncomputable abbrev Yi:Stmt:=top 19
theorem Z2:ju ["_law_state_here", "_law_some"] ["_law_state_here"] (qH Yi):=⟨rfl,rfl,rfl,by decide +kernel,rfl,by decide +kernel,by decide +kernel⟩
noncomputable def Yj (qD:Fn):Ex:=zr (zX 1 (zY (zh (zi .non) (zh (zi (.int 0)) (zh (zy (zp)) (zh (zy (zh (zy (zp)) (zp))) (zh (zy (zh (zy (zh (zi (.int 1)) (zp))) (zp))) (zh (zY (zh (zY (zh (zi (.int 0)) (zp))) (zp))) (zh (zy (zh (zY (zh (zi (.int 0)) (zp))) (zp))) (zh (zy (zh (zy (zh (zi (.int 0)) (zp))) (zh (zy (zh (zi (.int 0)) (zp))) (zp)))) (zh (zy (zh (zy (zh (zi (.int 0)) (zh (zi (.int 1)) (zp)))) (zh (zy (zh (zi (.int 2)) (zh (zi (.int 0)) (zp)))) (zp)))) (zh (zy (zh (zy (zh (zi (.int 0)) (zh (zi (.int 2)) (zp)))) (zh (zy (zh (zi (.int 2)) (zh (zi (.int 0)) (zp)))) (zp)))) (zh (wj) (zp)))))))))))))) (zr (zX 1 (zj zL (zc 1) (zY (zh (zy (zh (zy (zh (zi (.int 0)) (zh (zi (.int 1)) (zp)))) (zh (zy (zh (zi (.int 1)) (zh (zi (.int 1)) (zp)))) (zp)))) (zh (zy (zh (zy (zh (zi (.bl true)) (zp))) (zp))) (zh (zy (zh (zy (zh (zi (.int 0)) (zh (zi (.bl true)) (zp)))) (zh (zy (zh (zi (.bl true)) (zh (zi (.int 0)) (zp)))) (zp)))) (zh (zy (zh (zy (zh (zi (.int 0)) (zh (q9 kJ (zi (.int 1))) (zp)))) (zh (zy (zh (q9 kJ (zi (.int 1))) (zh (zi (.int 0)) (zp)))) (zp)))) (zh (zy (zh (zy (zh (zi (.int 0)) (zh (zi (.int 1)) (zp)))) (zh (zy (zh (zi (.int 1)) (zh (zi (.int 0)) (zp)))) (zh (zy (zh (zi (.int 1)) (zh (zi (.int 1)) (zp)))) (zp))))) (zp))))))))) (zr (zX 1 (zj zL (zc 1) (zY (zh (zy (zh (zy (zh (zi (.int 0)) (zh (zi (.int 1)) (zh (zi (.int 2)) (zp))))) (zh (zy (zh (zi (.int 1)) (zh (zi (.int 0)) (zh (zi (.int 2)) (zp))))) (zh (zy (zh (zi (.int 2)) (zh (zi (.int 2)) (zh (zi (.int 1)) (zp))))) (zp))))) (zh (zi (.str "0")) (zh (zy (zh (zy (zh (zi (.int 0)) (zh (zi (.int 3)) (zh (zi (.int 3)) (zp))))) (zh (zy (zh (zi (.int 3)) (zh (zi (.int 0)) (zh (zi (.int 1)) (zp))))) (zh (zy (zh (zi (.int 3)) (zh (zi (.int 1)) (zh (zi (.int 0)) (zp))))) (zp))))) (zh (zy (zh (zy (zh (zi (.int 0)) (zp))) (zh (zy (zp)) (zp)))) (zh (zy (zh (zi (.int 0)) (zp))) (zp))))))))) (zr (zX 1 (zj zL (zc 1) (zY (zh (zy (zh (zy (zh (zi .non) (zp))) (zp))) (zh (zy (zh (zy (zh (zi (.int 0)) (zh (zi (.int 0)) (zp)))) (zh (zy (zh (zi (.int 0)) (zh (zi (.int 0)) (zp)))) (zp)))) (zp)))))) (zr (z8 (zj zz (zc 1) (zH qD (zh (zc 0) (zh (zi (.int 23)) (zp)))))) (zB)))))
theorem Th {P:Program}{w:World}{K:Frag}{mg:Str->Option Value}{base:Heap}{k:Nat}(T:Bu mg){f:Addr}{fd:FuncData}(F:jd K "_law_bad_table" "_law_bad_table" Yi f fd)(hm:mg "_law_bad_table" = some (.ref f)){qD:Fn}(qk:zM P w K mg base k "_law_take" 2 qD):zM P w K mg base (k+1) "_law_bad_table" 1 (qi 2 (Yj qD)):=
 Y.yb F hm Z2 (λ _ _ _ _ _ _ us hl=>(kr hl).elim λ a q=>by subst q;rfl) λ cdv A outer s H E hr=>Y.zw (Y.qt 1 Z2.nd (Y.qY (Y.zo (Y.Jt) (Y.zo (Y.zq) (Y.zo (Y.zV (Y.zu) (zt)) (Y.zo (Y.zV (Y.zo (Y.zV (Y.zu) (zt)) (Y.zu)) (zm zt)) (Y.zo (Y.zV (Y.zo (Y.zV (Y.zo (Y.zq) (Y.zu)) (zm zt)) (Y.zu)) (zm zt)) (Y.zo (Y.qY (Y.zo (Y.qY (Y.zo (Y.zq) (Y.zu)) (zm zt)) (Y.zu)) (zm zt)) (Y.zo (Y.zV (Y.zo (Y.qY (Y.zo (Y.zq) (Y.zu)) (zm zt)) (Y.zu)) (zm zt)) (Y.zo (Y.zV (Y.zo (Y.zV (Y.zo (Y.zq) (Y.zu)) (zm zt)) (Y.zo (Y.zV (Y.zo (Y.zq) (Y.zu)) (zm zt)) (Y.zu))) (zm (zm zt))) (Y.zo (Y.zV (Y.zo (Y.zV (Y.zo (Y.zq) (Y.zo (Y.zq) (Y.zu))) (zm (zm zt))) (Y.zo (Y.zV (Y.zo (Y.zq) (Y.zo (Y.zq) (Y.zu))) (zm (zm zt))) (Y.zu))) (zm (zm zt))) (Y.zo (Y.zV (Y.zo (Y.zV (Y.zo (Y.zq) (Y.zo (Y.zq) (Y.zu))) (zm (zm zt))) (Y.zo (Y.zV (Y.zo (Y.zq) (Y.zo (Y.zq) (Y.zu))) (zm (zm zt))) (Y.zu))) (zm (zm zt))) (Y.zo (Y.Wo) (Y.zu)))))))))))) (zm (zm (zm (zm (zm (zm (zm (zm (zm (zm (zm zt))))))))))))) (Y.zw (Y.qt 1 Z2.nd (Y.qT (Y.zl 1) (Y.qY (Y.zo (Y.zV (Y.zo (Y.zV (Y.zo (Y.zq) (Y.zo (Y.zq) (Y.zu))) (zm (zm zt))) (Y.zo (Y.zV (Y.zo (Y.zq) (Y.zo (Y.zq) (Y.zu))) (zm (zm zt))) (Y.zu))) (zm (zm zt))) (Y.zo (Y.zV (Y.zo (Y.zV (Y.zo (Y.jP) (Y.zu)) (zm zt)) (Y.zu)) (zm zt)) (Y.zo (Y.zV (Y.zo (Y.zV (Y.zo (Y.zq) (Y.zo (Y.jP) (Y.zu))) (zm (zm zt))) (Y.zo (Y.zV (Y.zo (Y.jP) (Y.zo (Y.zq) (Y.zu))) (zm (zm zt))) (Y.zu))) (zm (zm zt))) (Y.zo (Y.zV (Y.zo (Y.zV (Y.zo (Y.zq) (Y.zo (Y.Jo (Y.zq)) (Y.zu))) (zm (zm zt))) (Y.zo (Y.zV (Y.zo (Y.Jo (Y.zq)) (Y.zo (Y.zq) (Y.zu))) (zm (zm zt))) (Y.zu))) (zm (zm zt))) (Y.zo (Y.zV (Y.zo (Y.zV (Y.zo (Y.zq) (Y.zo (Y.zq) (Y.zu))) (zm (zm zt))) (Y.zo (Y.zV (Y.zo (Y.zq) (Y.zo (Y.zq) (Y.zu))) (zm (zm zt))) (Y.zo (Y.zV (Y.zo (Y.zq) (Y.zo (Y.zq) (Y.zu))) (zm (zm zt))) (Y.zu)))) (zm (zm (zm zt)))) (Y.zu)))))) (zm (zm (zm (zm (zm zt)))))))) (Y.zw (Y.qt 1 Z2.nd (Y.qT (Y.zl 1) (Y.qY (Y.zo (Y.zV (Y.zo (Y.zV (Y.zo (Y.zq) (Y.zo (Y.zq) (Y.zo (Y.zq) (Y.zu)))) (zm (zm (zm zt)))) (Y.zo (Y.zV (Y.zo (Y.zq) (Y.zo (Y.zq) (Y.zo (Y.zq) (Y.zu)))) (zm (zm (zm zt)))) (Y.zo (Y.zV (Y.zo (Y.zq) (Y.zo (Y.zq) (Y.zo (Y.zq) (Y.zu)))) (zm (zm (zm zt)))) (Y.zu)))) (zm (zm (zm zt)))) (Y.zo (Y.V9) (Y.zo (Y.zV (Y.zo (Y.zV (Y.zo (Y.zq) (Y.zo (Y.zq) (Y.zo (Y.zq) (Y.zu)))) (zm (zm (zm zt)))) (Y.zo (Y.zV (Y.zo (Y.zq) (Y.zo (Y.zq) (Y.zo (Y.zq) (Y.zu)))) (zm (zm (zm zt)))) (Y.zo (Y.zV (Y.zo (Y.zq) (Y.zo (Y.zq) (Y.zo (Y.zq) (Y.zu)))) (zm (zm (zm zt)))) (Y.zu)))) (zm (zm (zm zt)))) (Y.zo (Y.zV (Y.zo (Y.zV (Y.zo (Y.zq) (Y.zu)) (zm zt)) (Y.zo (Y.zV (Y.zu) (zt)) (Y.zu))) (zm (zm zt))) (Y.zo (Y.zV (Y.zo (Y.zq) (Y.zu)) (zm zt)) (Y.zu)))))) (zm (zm (zm (zm (zm zt)))))))) (Y.zw (Y.qt 1 Z2.nd (Y.qT (Y.zl 1) (Y.qY (Y.zo (Y.zV (Y.zo (Y.zV (Y.zo (Y.Jt) (Y.zu)) (zm zt)) (Y.zu)) (zm zt)) (Y.zo (Y.zV (Y.zo (Y.zV (Y.zo (Y.zq) (Y.zo (Y.zq) (Y.zu))) (zm (zm zt))) (Y.zo (Y.zV (Y.zo (Y.zq) (Y.zo (Y.zq) (Y.zu))) (zm (zm zt))) (Y.zu))) (zm (zm zt))) (Y.zu))) (zm (zm zt))))) (Y.zw (Y.qp (Y.qb (Y.zl 1) (Y.qm qk hr (Y.zo (Y.zl 0) (Y.zo (Y.zq) (Y.zu))) (zm (zm zt))))) (Y.zI)))))
noncomputable abbrev Y5:Stmt:=top 20
theorem TV:ju ["_law_found", "_law_due"] ["_law_found", "_law_due"] (qH Y5):=⟨rfl,rfl,rfl,by decide +kernel,rfl,by decide +kernel,by decide +kernel⟩
noncomputable def Q3 (wC:Fn):Ex:=zr (qw (UA .tup .lst (zc 1)) (zr (qw (jH (zj qG (jA .tup (zc 0)) (jA .tup (zc 1))) (zj qG (jA .lst (zc 0)) (jA .lst (zc 1)))) (zr (z8 (zi (.bl false))) (zB)) (zB)) (zr (qw (zj qG (mQ qh (zS (zc 0))) (mQ qh (zS (zc 1)))) (zr (z8 (zi (.bl false))) (zB)) (zB)) (zr (z8 (mQ Zg (zR 2 [] (Uu (zc 0) (zc 1)) (wK 0 1) (zi (.bl true)) (zN (zH wC (zh (zc 0) (zh (zc 1) (zp)))))))) (zB)))) (zB)) (zr (z8 (yx (zj qL (zc 0) (zc 1)) (zj qL (jA .bl (zc 0)) (jA .bl (zc 1))))) (zB))
theorem Kc {P:Program}{w:World}{K:Frag}{mg:Str->Option Value}{base:Heap}{k:Nat}(T:Bu mg){f:Addr}{fd:FuncData}(F:jd K "_law_same" "_law_same" Y5 f fd)(hm:mg "_law_same" = some (.ref f)){wC:Fn}(w9:zM P w K mg base k "_law_same" 2 wC):zM P w K mg base (k+1) "_law_same" 2 (qi 2 (Q3 wC)):=
 Y.yb F hm TV (λ _ _ _ _ _ _ us hl=>(wR hl).elim λ a h=>h.elim λ b q=>by subst q;rfl) λ cdv A outer s H E hr=>Y.zw (Y.jD (Y.gr (Y.Lx .tup .lst T.yA T.yd T.kd (by rfl) (by rfl) (Y.zl 1))) (Y.zw (Y.jD (Y.gg (Y.Zb (Y.jE (yE hr) (Y.yK .tup T.yA T.yd (by rfl) (Y.zl 0)) (Y.yK .tup T.yA T.yd (by rfl) (Y.zl 1))) (Y.gZ (Y.jE (yE hr) (Y.yK .lst T.yA T.kd (by rfl) (Y.zl 0)) (Y.yK .lst T.yA T.kd (by rfl) (Y.zl 1)))))) (Y.zw (Y.qp (Y.jP)) (Y.zI)) (Y.zI)) (Y.zw (Y.jD (Y.jE (yE hr) (Y.yf T.j7 (Y.jl (Y.zl 0))) (Y.yf T.j7 (Y.jl (Y.zl 1)))) (Y.zw (Y.qp (Y.jP)) (Y.zI)) (Y.zI)) (Y.zw (Y.qp (Y.Qr rfl T.Qs (Y.yw (Y.qI (N:=["_law_one", "_law_other"]) 2 [] rfl (cps (by kernel_rfl)) (by kernel_rfl) (Y.LA rfl T.IE (Y.zl 0) (Y.zl 1)) (λ _ _ _=>⟨Y.Jm 0 1 rfl (by decide +kernel:(["_law_one", "_law_other"]:List Str).Nodup),Y.qE,Y.qA (λ _ _ z=>z) (Y.qm w9 hr (Y.zo (Y.zl 0) (Y.zo (Y.zl 1) (Y.zu))) (zm (zm zt))) rfl⟩))))) (Y.zI)))) (Y.zI)) (Y.zw (Y.qp (Y.gu (Y.yy (j6 hr) (Y.zl 0) (Y.zl 1)) (Y.gU (Y.yy (j6 hr) (Y.yK .bl T.yA T.Jw (by rfl) (Y.zl 0)) (Y.yK .bl T.yA T.Jw (by rfl) (Y.zl 1)))))) (Y.zI))
noncomputable abbrev Yn:Stmt:=top 21
theorem Z4:ju ["_law_thing", "_law_row", "_law_found", "_law_a", "_law_b"] ["_law_thing"] (qH Yn):=⟨rfl,rfl,rfl,by decide +kernel,rfl,by decide +kernel,by decide +kernel⟩
noncomputable def Yp (QW:Fn):Ex:=zr (qw (jH (qK (jA .tup (zc 0))) (qK (jw jN jN (zi (.int 1)) (mQ qh (zS (zc 0))) (zi (.int 8))))) (zr (z8 (zi (.bl false))) (zB)) (zB)) (zr (jZ (qc (zc 0)) (zD 1) (zr (qw (jH (qK (jA .tup (zc 1))) (zj qG (mQ qh (zS (zc 1))) (mQ qh (zS (zc 0))))) (zr (z8 (zi (.bl false))) (zB)) (zB)) (zr (qw (zj qG (z7 (zR 1 [0] (qc (zc 1)) (zD 0) (jH (qK (zH QW (zh (zc 0) (zp)))) (qK (jw jN kL (zi (.int 0)) (zc 0) (mQ qh (zS (zc 1)))))) (zN (zc 0)))) (zY (zp))) (zr (z8 (zi (.bl false))) (zB)) (zB)) (zB)))) (zr (zX 2 (wj)) (zr (jZ (qB (mQ qh (zS (zc 0)))) (zD 3) (zr (jZ (qB (mQ qh (zS (zc 0)))) (zD 4) (zr (jK kI (zi (.bl true)) (zc 2) (zj zz (zj zz (zc 0) (zc 3)) (zc 4))) (zr (qw (jH (zj qG (zj qL (zj zz (zj zz (zc 0) (zc 3)) (zc 4)) (zi (.int 0))) (zj qL (zc 3) (zc 4))) (zj qG (zj zz (zj zz (zc 0) (zc 3)) (zc 4)) (zj zz (zj zz (zc 0) (zc 4)) (zc 3)))) (zr (z8 (zi (.bl false))) (zB)) (zB)) (zB)))) (zB))) (zr (z8 (zj qL (Jr (zc 2)) (ZK (Jy (zc 2))))) (zB)))))
theorem Tj {P:Program}{w:World}{K:Frag}{mg:Str->Option Value}{base:Heap}{k:Nat}(T:Bu mg){f:Addr}{fd:FuncData}(F:jd K "_law_is_table" "_law_is_table" Yn f fd)(hm:mg "_law_is_table" = some (.ref f)){QW:Fn}(kA:zM P w K mg base k "_law_whole" 1 QW):zM P w K mg base (k+1) "_law_is_table" 1 (qi 5 (Yp QW)):=
 Y.yb F hm Z4 (λ _ _ _ _ _ _ us hl=>(kr hl).elim λ a q=>by subst q;rfl) λ cdv A outer s H E hr=>Y.zw (Y.jD (Y.gg (Y.Zb (Y.wH (Y.gr (Y.yK .tup T.yA T.yd (by rfl) (Y.zl 0)))) (Y.gZ (Y.wH (Y.Wy ZU ZU (Y.zq) (Y.yf T.j7 (Y.jl (Y.zl 0))) (Y.zq)))))) (Y.zw (Y.qp (Y.jP)) (Y.zI)) (Y.zI)) (Y.zw (Y.kE PassesOwn.never rfl (Y.jQ (Y.zl 0)) (Y.qg 1 Z4.nd) (Y.zw (Y.jD (Y.gg (Y.Zb (Y.wH (Y.gr (Y.yK .tup T.yA T.yd (by rfl) (Y.zl 1)))) (Y.gZ (Y.jE (yE hr) (Y.yf T.j7 (Y.jl (Y.zl 1))) (Y.yf T.j7 (Y.jl (Y.zl 0))))))) (Y.zw (Y.qp (Y.jP)) (Y.zI)) (Y.zI)) (Y.zw (Y.jD (Y.jE (yE hr) (Y.jW (Y.qI (N:=["_law_kind", "_law_thing"]) 1 [0] rfl (cps (by kernel_rfl)) (by kernel_rfl) (Y.jQ (Y.zl 1)) (λ _ _ _=>⟨Y.qg 0 (by decide +kernel:(["_law_kind", "_law_thing"]:List Str).Nodup),Y.Vn (Y.gg (Y.Zb (Y.wH (Y.gr (Y.qm kA hr (Y.zo (Y.zl 0) (Y.zu)) (zm zt)))) (Y.gZ (Y.wH (Y.Wy ZU Gh (Y.zq) (Y.zl 0) (Y.yf T.j7 (Y.jl (Y.zl 1)))))))),Y.qA (λ _ _ z=>z) (Y.zl 0) rfl⟩))) (Y.qY (Y.zu) (zt))) (Y.zw (Y.qp (Y.jP)) (Y.zI)) (Y.zI)) (Y.zI)))) (Y.zw (Y.qt 2 Z4.nd (Y.Wo)) (Y.zw (Y.kE PassesOwn.never rfl (Y.jv rfl T.jh (Y.yf T.j7 (Y.jl (Y.zl 0)))) (Y.qg 3 Z4.nd) (Y.zw (Y.kE PassesOwn.never rfl (Y.jv rfl T.jh (Y.yf T.j7 (Y.jl (Y.zl 0)))) (Y.qg 4 Z4.nd) (Y.zw (Y.NI hr (Y.jP) (Y.zl 2) (Y.qb (Y.qb (Y.zl 0) (Y.zl 3)) (Y.zl 4))) (Y.zw (Y.jD (Y.gg (Y.Zb (Y.jE (yE hr) (Y.yy (j6 hr) (Y.qb (Y.qb (Y.zl 0) (Y.zl 3)) (Y.zl 4)) (Y.zq)) (Y.yy (j6 hr) (Y.zl 3) (Y.zl 4))) (Y.gZ (Y.jE (yE hr) (Y.qb (Y.qb (Y.zl 0) (Y.zl 3)) (Y.zl 4)) (Y.qb (Y.qb (Y.zl 0) (Y.zl 4)) (Y.zl 3)))))) (Y.zw (Y.qp (Y.jP)) (Y.zI)) (Y.zI)) (Y.zI)))) (Y.zI))) (Y.zw (Y.qp (Y.yy (j6 hr) (Y.OC rfl T.XX (Y.zl 2)) (Y.XG rfl T.kd T.jh (Y.Nj T.j7 (Y.zl 2))))) (Y.zI)))))
noncomputable abbrev Y3:Stmt:=top 22
theorem kQ:ju ["_law_state_here", "_law_table_here", "_law_many", "_law_a", "_law_b", "_law_odd", "_law_rows", "_law_one", "_law_both", "_law_some"] ["_law_state_here", "_law_table_here"] (qH Y3):=⟨rfl,rfl,rfl,by decide +kernel,rfl,by decide +kernel,by decide +kernel⟩
noncomputable def Ka (qD:Fn):Ex:=zr (zX 2 (mQ qh (zS (zc 1)))) (zr (Gn 3 4 (zH qD (zh (zc 0) (zh (zc 2) (zp)))) (zH qD (zh (zc 0) (zh (zc 2) (zp))))) (zr (zX 5 (zj zz (zY (zh (zi (.int 0)) (zh (zi (.int 1)) (zh (zj jS (zc 2) (zi (.int 1))) (zh (zc 2) (zh (q9 kJ (zi (.int 1))) (zh (zi (.bl true)) (zh (zi .non) (zh (zi (.str "1")) (zh (zy (zh (zi (.int 1)) (zp))) (zh (zj Zl (zi (.int 10)) (zi (.int 29))) (zp)))))))))))) (zH qD (zh (zc 0) (zh (zi (.int 10)) (zp)))))) (zr (zX 6 (z7 (zR 1 [] (qc (zc 1)) (zD 0) (zi (.bl true)) (zN (z7 (zS (zc 0))))))) (zr (jK j3 (zc 5) (zj zz (zc 6) (zc 3)) (zc 4)) (zr (zX 7 (mQ jF (zR 1 [] (qc (zc 6)) (zD 0) (zi (.bl true)) (zN (mQ jF (zS (zc 0))))))) (zr (jK j3 (zc 5) (zj zz (zc 6) (zc 4)) (zc 3)) (zr (zX 8 (mQ jF (zR 1 [] (qc (zc 6)) (zD 0) (zi (.bl true)) (zN (mQ jF (zS (zc 0))))))) (zr (zX 9 (zY (zh (zc 7) (zh (zc 8) (zh (zc 8) (zh (zj zL (qJ (zc 1) (ja) (qC (zc 3))) (qJ (zc 1) (qC (zj zL (zc 3) (zi (.int 1)))) (ja))) (zh (zj zL (zj zL (qJ (zc 1) (ja) (qC (zc 3))) (qJ (zc 1) (qC (zc 3)) (qC (zj zL (zc 3) (zi (.int 1)))))) (qJ (zc 1) (qC (zc 3)) (ja))) (zh (z7 (zS (zc 1))) (zh (zy (zh (zc 1) (zp))) (zp)))))))))) (zr (zX 9 (zj zL (zc 9) (zY (zh (zj zL (zj zL (qJ (zc 1) (ja) (qC (zc 3))) (zy (zh (z7 (zS (zj zz (zc 1) (zc 3)))) (zp)))) (qJ (zc 1) (qC (zj zL (zc 3) (zi (.int 1)))) (ja))) (zh (zj zL (zj zL (qJ (zc 1) (ja) (qC (zc 3))) (zy (zh (qJ (zj zz (zc 1) (zc 3)) (ja) (qC (zc 4))) (zp)))) (qJ (zc 1) (qC (zj zL (zc 3) (zi (.int 1)))) (ja))) (zh (zi .non) (zp))))))) (zr (zX 9 (zj zL (zc 9) (zY (zh (JR (zc 1) (q9 kJ (zi (.int 1)))) (zh (zj zL (zj zL (qJ (zc 1) (ja) (qC (zc 3))) (zy (zh (zj zz (zc 1) (zc 4)) (zp)))) (qJ (zc 1) (qC (zj zL (zc 3) (zi (.int 1)))) (ja))) (zh (mQ jF (zR 1 [] (qc (qJ (zc 1) (qC (zi (.int 1))) (ja))) (zD 0) (zi (.bl true)) (zN (qJ (zc 0) (qC (zi (.int 1))) (ja))))) (zh (wj) (zp)))))))) (zr (z8 (zj zz (zc 9) (zH qD (zh (zc 0) (zh (zi (.int 14)) (zp)))))) (zB))))))))))))
theorem Sl {P:Program}{w:World}{K:Frag}{mg:Str->Option Value}{base:Heap}{k:Nat}(T:Bu mg){f:Addr}{fd:FuncData}(F:jd K "_law_bent" "_law_bent" Y3 f fd)(hm:mg "_law_bent" = some (.ref f)){qD:Fn}(qk:zM P w K mg base k "_law_take" 2 qD):zM P w K mg base (k+1) "_law_bent" 2 (qi 10 (Ka qD)):=
 Y.yb F hm kQ (λ _ _ _ _ _ _ us hl=>(wR hl).elim λ a h=>h.elim λ b q=>by subst q;rfl) λ cdv A outer s H E hr=>Y.zw (Y.qt 2 kQ.nd (Y.yf T.j7 (Y.jl (Y.zl 1)))) (Y.zw (Y.MX 3 4 rfl kQ.nd (Y.qm qk hr (Y.zo (Y.zl 0) (Y.zo (Y.zl 2) (Y.zu))) (zm (zm zt))) (Y.qm qk hr (Y.zo (Y.zl 0) (Y.zo (Y.zl 2) (Y.zu))) (zm (zm zt)))) (Y.zw (Y.qt 5 kQ.nd (Y.qb (Y.qY (Y.zo (Y.zq) (Y.zo (Y.zq) (Y.zo (Y.kZ (Y.zl 2) (Y.zq)) (Y.zo (Y.zl 2) (Y.zo (Y.Jo (Y.zq)) (Y.zo (Y.jP) (Y.zo (Y.Jt) (Y.zo (Y.V9) (Y.zo (Y.zV (Y.zo (Y.zq) (Y.zu)) (zm zt)) (Y.zo (Y.Wg (Y.zq) (Y.zq)) (Y.zu))))))))))) (zm (zm (zm (zm (zm (zm (zm (zm (zm (zm zt))))))))))) (Y.qm qk hr (Y.zo (Y.zl 0) (Y.zo (Y.zq) (Y.zu))) (zm (zm zt))))) (Y.zw (Y.Xm 6 (N:=["_law_row"]) 1 [] kQ.nd rfl (cps (by kernel_rfl)) (by kernel_rfl) (Y.jQ (Y.zl 1)) (λ _ _ _=>⟨Y.qg 0 (by decide +kernel:(["_law_row"]:List Str).Nodup),Y.qE,Y.qA (λ _ _ z=>z) (Y.ZI T.kd (Y.jl (Y.zl 0))) rfl⟩)) (Y.zw (Y.gv (Y.zl 5) (Y.qb (Y.zl 6) (Y.zl 3)) (Y.zl 4)) (Y.zw (Y.qt 7 kQ.nd (Y.kC T.yd (Y.yw (Y.qI (N:=["_law_row"]) 1 [] rfl (cps (by kernel_rfl)) (by kernel_rfl) (Y.jQ (Y.zl 6)) (λ _ _ _=>⟨Y.qg 0 (by decide +kernel:(["_law_row"]:List Str).Nodup),Y.qE,Y.qA (λ _ _ z=>z) (Y.kC T.yd (Y.jl (Y.zl 0))) rfl⟩))))) (Y.zw (Y.gv (Y.zl 5) (Y.qb (Y.zl 6) (Y.zl 4)) (Y.zl 3)) (Y.zw (Y.qt 8 kQ.nd (Y.kC T.yd (Y.yw (Y.qI (N:=["_law_row"]) 1 [] rfl (cps (by kernel_rfl)) (by kernel_rfl) (Y.jQ (Y.zl 6)) (λ _ _ _=>⟨Y.qg 0 (by decide +kernel:(["_law_row"]:List Str).Nodup),Y.qE,Y.qA (λ _ _ z=>z) (Y.kC T.yd (Y.jl (Y.zl 0))) rfl⟩))))) (Y.zw (Y.qt 9 kQ.nd (Y.qY (Y.zo (Y.zl 7) (Y.zo (Y.zl 8) (Y.zo (Y.zl 8) (Y.zo (Y.qT (Y.yJ (Y.zl 1) (Y.yR) (Y.ye (Y.zl 3))) (Y.yJ (Y.zl 1) (Y.ye (Y.qT (Y.zl 3) (Y.zq))) (Y.yR))) (Y.zo (Y.qT (Y.qT (Y.yJ (Y.zl 1) (Y.yR) (Y.ye (Y.zl 3))) (Y.yJ (Y.zl 1) (Y.ye (Y.zl 3)) (Y.ye (Y.qT (Y.zl 3) (Y.zq))))) (Y.yJ (Y.zl 1) (Y.ye (Y.zl 3)) (Y.yR))) (Y.zo (Y.ZI T.kd (Y.jl (Y.zl 1))) (Y.zo (Y.zV (Y.zo (Y.zl 1) (Y.zu)) (zm zt)) (Y.zu)))))))) (zm (zm (zm (zm (zm (zm (zm zt))))))))) (Y.zw (Y.qt 9 kQ.nd (Y.qT (Y.zl 9) (Y.qY (Y.zo (Y.qT (Y.qT (Y.yJ (Y.zl 1) (Y.yR) (Y.ye (Y.zl 3))) (Y.zV (Y.zo (Y.ZI T.kd (Y.jl (Y.qb (Y.zl 1) (Y.zl 3)))) (Y.zu)) (zm zt))) (Y.yJ (Y.zl 1) (Y.ye (Y.qT (Y.zl 3) (Y.zq))) (Y.yR))) (Y.zo (Y.qT (Y.qT (Y.yJ (Y.zl 1) (Y.yR) (Y.ye (Y.zl 3))) (Y.zV (Y.zo (Y.yJ (Y.qb (Y.zl 1) (Y.zl 3)) (Y.yR) (Y.ye (Y.zl 4))) (Y.zu)) (zm zt))) (Y.yJ (Y.zl 1) (Y.ye (Y.qT (Y.zl 3) (Y.zq))) (Y.yR))) (Y.zo (Y.Jt) (Y.zu)))) (zm (zm (zm zt)))))) (Y.zw (Y.qt 9 kQ.nd (Y.qT (Y.zl 9) (Y.qY (Y.zo (Y.MV (Y.zl 1) (Y.Jo (Y.zq))) (Y.zo (Y.qT (Y.qT (Y.yJ (Y.zl 1) (Y.yR) (Y.ye (Y.zl 3))) (Y.zV (Y.zo (Y.qb (Y.zl 1) (Y.zl 4)) (Y.zu)) (zm zt))) (Y.yJ (Y.zl 1) (Y.ye (Y.qT (Y.zl 3) (Y.zq))) (Y.yR))) (Y.zo (Y.kC T.yd (Y.yw (Y.qI (N:=["_law_row"]) 1 [] rfl (cps (by kernel_rfl)) (by kernel_rfl) (Y.jQ (Y.yJ (Y.zl 1) (Y.ye (Y.zq)) (Y.yR))) (λ _ _ _=>⟨Y.qg 0 (by decide +kernel:(["_law_row"]:List Str).Nodup),Y.qE,Y.qA (λ _ _ z=>z) (Y.yJ (Y.zl 0) (Y.ye (Y.zq)) (Y.yR)) rfl⟩)))) (Y.zo (Y.Wo) (Y.zu))))) (zm (zm (zm (zm zt))))))) (Y.zw (Y.qp (Y.qb (Y.zl 9) (Y.qm qk hr (Y.zo (Y.zl 0) (Y.zo (Y.zq) (Y.zu))) (zm (zm zt))))) (Y.zI))))))))))))
noncomputable abbrev Jz:Stmt:=top 23
theorem gR:ju ["_law_script", "_law_k", "_law_state_here", "_law_table_here", "_law_thing", "_law_turn", "_law_nine"] ["_law_script"] (qH Jz):=⟨rfl,rfl,rfl,by decide +kernel,rfl,by decide +kernel,by decide +kernel⟩
noncomputable def WO (QM:Fn)(Q4:Fn)(QN:Fn)(wC:Fn)(QV:Fn)(QS:Fn)(gN:Fn):Ex:=zr (jZ (qB (zj W2 (zi (.int 1)) (zj gz (mQ qh (zS (zc 0))) (zi (.int 8))))) (zD 1) (zr (zX 2 (zH QV (zh (zc 0) (zh (zc 1) (zp))))) (zr (zX 3 (zH QS (zh (zc 2) (zp)))) (zr (qw (zj (wq true) (zH gN (zh (zc 3) (zp))) (zi (.bl true))) (zr (z8 (zi (.bl false))) (zB)) (zB)) (zr (jZ (qc (zj zL (z7 (zR 1 [2,3] (qB (zi (.int 6))) (zD 0) (zi (.bl true)) (zN (zH Q4 (zh (zc 1) (zh (zc 2) (zp))))))) (zY (zh (zH QM (zh (zc 2) (zp))) (zp))))) (zD 4) (zr (jZ (qB (zi (.int 2))) (zD 5) (zr (qw (qK (zH wC (zh (zH gN (zh (zc 4) (zp))) (zh (zH QN (zh (zc 4) (zp))) (zp))))) (zr (z8 (zi (.bl false))) (zB)) (zB)) (zB))) (zB))) (zB)))))) (zr (zX 6 (mQ jF (zR 1 [] (qB (zi (.int 9))) (zD 0) (zi (.bl true)) (zN (mQ jF (zR 1 [0] (qB (zi (.int 9))) (zD 0) (zi (.bl true)) (zN (q9 wO (zj qG (zc 1) (zc 0)))))))))) (zr (z8 (yx (zj (wq false) (zH gN (zh (zy (zh (zy (zh (zi (.int 0)) (zp))) (zp))) (zp))) (zi (.bl true))) (zj (wq false) (zH gN (zh (zc 6) (zp))) (zi (.bl false))))) (zB)))
theorem o_law {P:Program}{w:World}{K:Frag}{mg:Str->Option Value}{base:Heap}{k:Nat}(T:Bu mg){f:Addr}{fd:FuncData}(F:jd K "law" "law" Jz f fd){QM:Fn}(wx:zM P w K mg base k "_law_bad_table" 1 QM){Q4:Fn}(wB:zM P w K mg base k "_law_bent" 2 Q4){QN:Fn}(gJ:zM P w K mg base k "_law_is_table" 1 QN){wC:Fn}(w9:zM P w K mg base k "_law_same" 2 wC){QV:Fn}(Zx:zM P w K mg base k "_law_state" 2 QV){QS:Fn}(gK:zM P w K mg base k "_law_table" 1 QS){gN:Fn}(yI:zM P w K mg base k "is_table" 1 gN):yi P w K mg base ku (k+1) f fd ["_law_script"] (wW K 1 (qi 7 (WO QM Q4 QN wC QV QS gN))):=
 Y.HG F gR λ cdv A outer s H E hr=>Y.zw (Y.kE PassesOwn.never rfl (Y.jv rfl T.jh (Y.OQ rfl T.Jx (Y.zq) (Y.KY rfl T.WC (Y.yf T.j7 (Y.jl (Y.zl 0))) (Y.zq)))) (Y.qg 1 gR.nd) (Y.zw (Y.qt 2 gR.nd (Y.qm Zx hr (Y.zo (Y.zl 0) (Y.zo (Y.zl 1) (Y.zu))) (zm (zm zt)))) (Y.zw (Y.qt 3 gR.nd (Y.qm gK hr (Y.zo (Y.zl 2) (Y.zu)) (zm zt))) (Y.zw (Y.jD (Y.jE NB (Y.qm yI hr (Y.zo (Y.zl 3) (Y.zu)) (zm zt)) (Y.jP)) (Y.zw (Y.qp (Y.jP)) (Y.zI)) (Y.zI)) (Y.zw (Y.kE PassesOwn.never rfl (Y.jQ (Y.qT (Y.jW (Y.qI (N:=["_law_turn", "_law_state_here", "_law_table_here"]) 1 [2,3] rfl (cps (by kernel_rfl)) (by kernel_rfl) (Y.jv rfl T.jh (Y.zq)) (λ _ _ _=>⟨Y.qg 0 (by decide +kernel:(["_law_turn", "_law_state_here", "_law_table_here"]:List Str).Nodup),Y.qE,Y.qA (λ _ _ z=>z) (Y.qm wB hr (Y.zo (Y.zl 1) (Y.zo (Y.zl 2) (Y.zu))) (zm (zm zt))) rfl⟩))) (Y.qY (Y.zo (Y.qm wx hr (Y.zo (Y.zl 2) (Y.zu)) (zm zt)) (Y.zu)) (zm zt)))) (Y.qg 4 gR.nd) (Y.zw (Y.kE PassesOwn.never rfl (Y.jv rfl T.jh (Y.zq)) (Y.qg 5 gR.nd) (Y.zw (Y.jD (Y.wH (Y.gr (Y.qm w9 hr (Y.zo (Y.qm yI hr (Y.zo (Y.zl 4) (Y.zu)) (zm zt)) (Y.zo (Y.qm gJ hr (Y.zo (Y.zl 4) (Y.zu)) (zm zt)) (Y.zu))) (zm (zm zt))))) (Y.zw (Y.qp (Y.jP)) (Y.zI)) (Y.zI)) (Y.zI))) (Y.zI))) (Y.zI)))))) (Y.zw (Y.qt 6 gR.nd (Y.kC T.yd (Y.yw (Y.qI (N:=["_law_a"]) 1 [] rfl (cps (by kernel_rfl)) (by kernel_rfl) (Y.jv rfl T.jh (Y.zq)) (λ _ _ _=>⟨Y.qg 0 (by decide +kernel:(["_law_a"]:List Str).Nodup),Y.qE,Y.qA (λ _ _ z=>z) (Y.kC T.yd (Y.yw (Y.qI (N:=["_law_b", "_law_a"]) 1 [0] rfl (cps (by kernel_rfl)) (by kernel_rfl) (Y.jv rfl T.jh (Y.zq)) (λ _ _ _=>⟨Y.qg 0 (by decide +kernel:(["_law_b", "_law_a"]:List Str).Nodup),Y.qE,Y.qA (λ _ _ z=>z) (Y.ZE T.gD (Y.yy (yE hr) (Y.zl 1) (Y.zl 0))) rfl⟩)))) rfl⟩))))) (Y.zw (Y.qp (Y.gu (Y.yy Uz (Y.qm yI hr (Y.zo (Y.zV (Y.zo (Y.zV (Y.zo (Y.zq) (Y.zu)) (zm zt)) (Y.zu)) (zm zt)) (Y.zu)) (zm zt)) (Y.jP)) (Y.gU (Y.yy Uz (Y.qm yI hr (Y.zo (Y.zl 6) (Y.zu)) (zm zt)) (Y.jP))))) (Y.zI)))
noncomputable def Xj:Fn:=qi 1 (Xh)
noncomputable def gM:Fn :=  Xj
noncomputable def XC:Fn:=qi 5 (Ja)
noncomputable def Qc:Fn:=iso XC
noncomputable def GN:Fn:=qi 2 (Yc)
noncomputable def Z1:Fn:=iso GN
noncomputable def Tq:Fn:=qi 2 (QO)
noncomputable def Zv:Fn :=  Tq
noncomputable def Q2:Fn:=qi 4 (QY)
noncomputable def qk:Fn:=kj Q2
noncomputable def G3:Fn:=qi 2 (YY)
noncomputable def y8:Fn :=  G3
noncomputable def G0:Fn:=qi 1 (GZ)
noncomputable def kA:Fn :=  G0
noncomputable def G8:Fn:=qi 2 (Y8 gM)
noncomputable def gL:Fn :=  G8
noncomputable def TK:Fn:=qi 3 (QR Zv)
noncomputable def Zx:Fn :=  TK
noncomputable def GQ:Fn:=qi 4 (Yk qk)
noncomputable def wy:Fn :=  GQ
noncomputable def G5:Fn:=qi 11 (QU qk)
noncomputable def Zw:Fn :=  G5
noncomputable def GR:Fn:=qi 2 (Yj qk)
noncomputable def wx:Fn :=  GR
noncomputable def GU:Fn:=qi 5 (Yp kA)
noncomputable def gJ:Fn :=  GU
noncomputable def G9:Fn:=qi 10 (Ka qk)
noncomputable def wB:Fn :=  G9
noncomputable def GP:Fn:=qi 3 (Yf gL)
noncomputable def gI:Fn :=  GP
noncomputable def Y1:Fn:=qi 4 (YD wy y8 Zw)
noncomputable def wA:Fn:=kj Y1
noncomputable def T7:Fn:=qi 2 (Q3 (λ _ _=>.bad))
noncomputable def G1:Fn:=iso T7
noncomputable def Sb:Fn:=qi 2 (Q3 G1)
noncomputable def G2:Fn:=iso Sb
noncomputable def Ss:Fn:=qi 2 (Q3 G2)
noncomputable def w9:Fn:=iso Ss
noncomputable def Xi:Fn:=qi 2 (Kl Qc gI Z1)
noncomputable def yI:Fn :=  Xi
noncomputable def YN:Fn:=qi 7 (YZ wA y8 qk)
noncomputable def gK:Fn:=kj YN
structure Tx (K:Frag):Prop where
 Kk:FD K "is_whole" Kg
 Ko:FD K "is_even" Kw
 Yb:FD K "leaves_no_kind_out" Ya
 Yr:FD K "_law_cell_at" Yq
 Y4:FD K "_law_take" Kb
 YO:FD K "_law_named" YU
 Yz:FD K "_law_whole" YR
 Kd:FD K "is_wholes" Y9
 Y0:FD K "_law_state" Yy
 Yh:FD K "_law_mixed_row" Yl
 YB:FD K "_law_plain" YX
 Ym:FD K "_law_bad_table" Yi
 Yo:FD K "_law_is_table" Yn
 Y7:FD K "_law_bent" Y3
 Yg:FD K "is_wholes_below" Yd
 YV:FD K "_law_known" Yx
 Z7:FD K "_law_same" Y5
 Kj:FD K "is_table" Km
 YC:FD K "_law_table" YH
 Wu:FD K "law" Jz
 W7:PySem.W.nsIn K mainGlobals "abs" = some none
 WY:PySem.W.nsIn K mainGlobals "all" = some none
 Wb:PySem.W.nsIn K mainGlobals "bool" = some none
 Y6:PySem.W.nsIn K mainGlobals "enumerate" = some none
 Wz:PySem.W.nsIn K mainGlobals "int" = some none
 YL:PySem.W.nsIn K mainGlobals "isinstance" = some none
 WI:PySem.W.nsIn K mainGlobals "len" = some none
 Wr:PySem.W.nsIn K mainGlobals "list" = some none
 WQ:PySem.W.nsIn K mainGlobals "max" = some none
 WL:PySem.W.nsIn K mainGlobals "min" = some none
 K2:PySem.W.nsIn K mainGlobals "range" = some none
 WD:PySem.W.nsIn K mainGlobals "set" = some none
 KD:PySem.W.nsIn K mainGlobals "sorted" = some none
 WR:PySem.W.nsIn K mainGlobals "sum" = some none
 K9:PySem.W.nsIn K mainGlobals "tuple" = some none
 WW:PySem.W.nsIn K mainGlobals "zip" = some none
 Yw:CD K "MOST_PLACES" 8
section
variable {P:Program}{w:World}{K:Frag}{mg:Str->Option Value}{base h:Heap}
theorem bu (X:K.In h)(G:h.Ns mainGlobals mg)(T:Tx K):Bu mg:=⟨PySem.W.mg_none_of X G T.W7,PySem.W.mg_none_of X G T.WY,PySem.W.mg_none_of X G T.Wb,PySem.W.mg_none_of X G T.Y6,PySem.W.mg_none_of X G T.Wz,PySem.W.mg_none_of X G T.YL,PySem.W.mg_none_of X G T.WI,PySem.W.mg_none_of X G T.Wr,PySem.W.mg_none_of X G T.WQ,PySem.W.mg_none_of X G T.WL,PySem.W.mg_none_of X G T.K2,PySem.W.mg_none_of X G T.WD,PySem.W.mg_none_of X G T.KD,PySem.W.mg_none_of X G T.WR,PySem.W.mg_none_of X G T.K9,PySem.W.mg_none_of X G T.WW,(let ⟨t,e⟩:=T.Yw;⟨t,PySem.W.mg_of X G e⟩)⟩
theorem S9 (X:K.In h)(G:h.Ns mainGlobals mg)(T:Tx K):zM P w K mg base 1 "is_whole" 1 gM:=by
 obtain ⟨f,fd,F,a⟩:=T.Kk
 exact (S6 (k:=0) (bu X G T) F (PySem.W.mg_of X G a))
theorem RC (X:K.In h)(G:h.Ns mainGlobals mg)(T:Tx K):zM P w K mg base 1 "is_even" 1 Qc:=by
 obtain ⟨f,fd,F,a⟩:=T.Ko
 exact (RN (k:=0) (bu X G T) F (PySem.W.mg_of X G a)).iso
theorem U3 (X:K.In h)(G:h.Ns mainGlobals mg)(T:Tx K):zM P w K mg base 1 "leaves_no_kind_out" 1 Z1:=by
 obtain ⟨f,fd,F,a⟩:=T.Yb
 exact (U4 (k:=0) (bu X G T) F (PySem.W.mg_of X G a)).iso
theorem Tu (X:K.In h)(G:h.Ns mainGlobals mg)(T:Tx K):zM P w K mg base 1 "_law_cell_at" 2 Zv:=by
 obtain ⟨f,fd,F,a⟩:=T.Yr
 exact (Tt (k:=0) (bu X G T) F (PySem.W.mg_of X G a))
theorem Z8 (X:K.In h)(G:h.Ns mainGlobals mg)(T:Tx K):zM P w K mg base 1 "_law_take" 2 qk:=by
 obtain ⟨f,fd,F,a⟩:=T.Y4
 exact (Su (k:=0) (bu X G T) F (PySem.W.mg_of X G a)).kj
theorem G4 (X:K.In h)(G:h.Ns mainGlobals mg)(T:Tx K):zM P w K mg base 1 "_law_named" 1 y8:=by
 obtain ⟨f,fd,F,a⟩:=T.YO
 exact (Sf (k:=0) (bu X G T) F (PySem.W.mg_of X G a))
theorem T3 (X:K.In h)(G:h.Ns mainGlobals mg)(T:Tx K):zM P w K mg base 1 "_law_whole" 1 kA:=by
 obtain ⟨f,fd,F,a⟩:=T.Yz
 exact (Sa (k:=0) (bu X G T) F (PySem.W.mg_of X G a))
theorem Sw (X:K.In h)(G:h.Ns mainGlobals mg)(T:Tx K):zM P w K mg base 2 "is_wholes" 2 gL:=by
 obtain ⟨f,fd,F,a⟩:=T.Kd
 exact (Sr (k:=1) (bu X G T) F (PySem.W.mg_of X G a) ((S9 X G T).mono (by decide)))
theorem TQ (X:K.In h)(G:h.Ns mainGlobals mg)(T:Tx K):zM P w K mg base 2 "_law_state" 2 Zx:=by
 obtain ⟨f,fd,F,a⟩:=T.Y0
 exact (T9 (k:=1) (bu X G T) F (PySem.W.mg_of X G a) ((Tu X G T).mono (by decide)))
theorem Ti (X:K.In h)(G:h.Ns mainGlobals mg)(T:Tx K):zM P w K mg base 2 "_law_mixed_row" 2 wy:=by
 obtain ⟨f,fd,F,a⟩:=T.Yh
 exact (Tf (k:=1) (bu X G T) F (PySem.W.mg_of X G a) ((Z8 X G T).mono (by decide)))
theorem TX (X:K.In h)(G:h.Ns mainGlobals mg)(T:Tx K):zM P w K mg base 2 "_law_plain" 1 Zw:=by
 obtain ⟨f,fd,F,a⟩:=T.YB
 exact (TY (k:=1) (bu X G T) F (PySem.W.mg_of X G a) ((Z8 X G T).mono (by decide)))
theorem Te (X:K.In h)(G:h.Ns mainGlobals mg)(T:Tx K):zM P w K mg base 2 "_law_bad_table" 1 wx:=by
 obtain ⟨f,fd,F,a⟩:=T.Ym
 exact (Th (k:=1) (bu X G T) F (PySem.W.mg_of X G a) ((Z8 X G T).mono (by decide)))
theorem Tp (X:K.In h)(G:h.Ns mainGlobals mg)(T:Tx K):zM P w K mg base 2 "_law_is_table" 1 gJ:=by
 obtain ⟨f,fd,F,a⟩:=T.Yo
 exact (Tj (k:=1) (bu X G T) F (PySem.W.mg_of X G a) ((T3 X G T).mono (by decide)))
theorem Sn (X:K.In h)(G:h.Ns mainGlobals mg)(T:Tx K):zM P w K mg base 2 "_law_bent" 2 wB:=by
 obtain ⟨f,fd,F,a⟩:=T.Y7
 exact (Sl (k:=1) (bu X G T) F (PySem.W.mg_of X G a) ((Z8 X G T).mono (by decide)))
theorem Ta (X:K.In h)(G:h.Ns mainGlobals mg)(T:Tx K):zM P w K mg base 3 "is_wholes_below" 3 gI:=by
 obtain ⟨f,fd,F,a⟩:=T.Yg
 exact (Td (k:=2) (bu X G T) F (PySem.W.mg_of X G a) ((Sw X G T).mono (by decide)))
theorem TJ (X:K.In h)(G:h.Ns mainGlobals mg)(T:Tx K):zM P w K mg base 3 "_law_known" 1 wA:=by
 obtain ⟨f,fd,F,a⟩:=T.YV
 exact (TM (k:=2) (bu X G T) F (PySem.W.mg_of X G a) ((Ti X G T).mono (by decide)) ((G4 X G T).mono (by decide)) ((TX X G T).mono (by decide))).kj
theorem Se (X:K.In h)(G:h.Ns mainGlobals mg)(T:Tx K):zM P w K mg base 1 "_law_same" 2 G1:=by
 obtain ⟨f,fd,F,a⟩:=T.Z7
 exact (Kc (k:=0) (bu X G T) F (PySem.W.mg_of X G a) (IT (ps:=["_law_found", "_law_due"]) F (PySem.W.mg_of X G a) (λ _ _ _ _ _ _ us hl=>(wR hl).elim λ a h=>h.elim λ b q=>by subst q;rfl))).iso
theorem Sg (X:K.In h)(G:h.Ns mainGlobals mg)(T:Tx K):zM P w K mg base 2 "_law_same" 2 G2:=by
 obtain ⟨f,fd,F,a⟩:=T.Z7
 exact (Kc (k:=1) (bu X G T) F (PySem.W.mg_of X G a) (Se X G T)).iso
theorem So (X:K.In h)(G:h.Ns mainGlobals mg)(T:Tx K):zM P w K mg base 3 "_law_same" 2 w9:=by
 obtain ⟨f,fd,F,a⟩:=T.Z7
 exact (Kc (k:=2) (bu X G T) F (PySem.W.mg_of X G a) (Sg X G T)).iso
theorem SV (X:K.In h)(G:h.Ns mainGlobals mg)(T:Tx K):zM P w K mg base 4 "is_table" 1 yI:=by
 obtain ⟨f,fd,F,a⟩:=T.Kj
 exact (S7 (k:=3) (bu X G T) F (PySem.W.mg_of X G a) ((RC X G T).mono (by decide)) ((Ta X G T).mono (by decide)) ((U3 X G T).mono (by decide)))
theorem TN (X:K.In h)(G:h.Ns mainGlobals mg)(T:Tx K):zM P w K mg base 4 "_law_table" 1 gK:=by
 obtain ⟨f,fd,F,a⟩:=T.YC
 exact (T4 (k:=3) (bu X G T) F (PySem.W.mg_of X G a) ((TJ X G T).mono (by decide)) ((G4 X G T).mono (by decide)) ((Z8 X G T).mono (by decide))).kj
end
end G
namespace Mi
open PySem L2
section
variable {ws:List W}{m me:Ev}{ρ:En}{A A1:Hx}{cap:List Nat}
theorem gj (h:m ρ A=.ok (.tup ws) A1):qc m ρ A=.ok ⟨λ A i=>(zT (.tup ws) A).map λ ws=>ws[i]?,ws.length⟩ A1:=by
 unfold qc JT
 rw [h,zE]
 rfl
theorem KN (h:m ρ A=.ok (.tup ws) A)(hl:ws.length<=zW){g:W->W}(he:∀w∈ws,me (some w::cap.map λ i=>(ρ[i]?).join) A=.ok (g w) A):
  zR 1 cap (qc m) (zD 0) (zi (.bl true)) (zN me) ρ A=.ok (ws.map g) A:=by
 have e:=gO (cap:=cap) (me:=me) (ρ:=ρ) (A:=A) (N:=ws.length) (item:=λ i=>ws.getD i .non) (g:=λ i=>g (ws.getD i .non)) (gj h) rfl hl
  (λ i hi=>by show some ws[i]? =_;rw [List.getElem?_eq_getElem hi,List.getD_eq_getElem?_getD,List.getElem?_eq_getElem hi];rfl)
  (by show some ws[ws.length]? =_;rw [List.getElem?_eq_none (Nat.le_refl _)])
  (λ i hi=>by
   have:ws.getD i .non=ws[i]:=by rw [List.getD_eq_getElem?_getD,List.getElem?_eq_getElem hi];rfl
   rw [this];exact he _ (List.getElem_mem hi))
 rw [e]
 congr 1
 apply List.ext_getElem
 ·simp
 ·intro i h1 h2
  have hi:i<ws.length:=by simpa using h2
  simp [List.getD_eq_getElem?_getD,List.getElem?_eq_getElem hi]
theorem Xw {α:Type}(p:α->Bool):∀l:List α,kG (l.map λ x=>W.bl (p x))=some (l.map p)
 | []=>rfl
 | x::l=>by
  show (match QC (.bl (p x)),kG (l.map λ x=>W.bl (p x)) with | some k,some ks=>some (k::ks) | _,_=>none)=_
  rw [Xw p l];rfl
theorem K3 {α:Type}{f:α->W}(h:∀x,(f x).nr=true):∀l:List α,jc (l.map f)=true
 | []=>rfl
 | x::l=>by
  show ((f x).nr&&jc (l.map f))=true
  rw [h x,K3 h l];rfl
theorem Zp (i j:Int)(A:Hx):qL (.int i) (.int j) A=.ok (.bl (decide (i=j))) A:=by
 show R.ok (W.bl (PyData.eqv (.int i) (.int j))) A=_
 simp [PyData.eqv]
 rfl
theorem GH (i j:Int)(A:Hx):qG (.int i) (.int j) A=.ok (.bl (!decide (i=j))) A:=by
 show R.ok (W.bl (!PyData.eqv (.int i) (.int j))) A=_
 simp [PyData.eqv]
 rfl
theorem UN (i j:Bool)(A:Hx):qG (.bl i) (.bl j) A=.ok (.bl (!(i==j))) A:=by
 cases i<;>cases j<;>rfl
end
noncomputable def zG (r:List Int):W:=.tup (r.map W.int)
noncomputable def zC (t:List (List Int)):W:=.tup (t.map zG)
theorem ND (r:List Int):(zG r).nr=true:=by
 show jc (r.map W.int)=true
 exact K3 (λ _=>rfl) r
theorem Jh (t:List (List Int)):(zC t).nr=true:=by
 show jc (t.map zG)=true
 exact K3 ND t
end Mi
namespace G
open PySem L2 Mi
end G
namespace Mi
open PySem L2
theorem Q9 {m:Ev}{ρ:En}{A A1:Hx}{ws:List W}(h:m ρ A=.ok (.tup ws) A1):ZS m ρ A=.ok (km (.tup ws) ws.length) A1:=by
 unfold ZS
 rw [h,zE]
 rfl
theorem Uc {A:Hx}{ws:List W}{i:Nat}{w:W}(h:ws[i]? =some w):(km (.tup ws) ws.length).at_ A i=some (some (.tup [.int i,w])):=by
 show atEnd ws i _=_
 unfold atEnd
 rw [h]
theorem V3 {A:Hx}{ws:List W}:(km (.tup ws) ws.length).at_ A ws.length=some none:=by
 show atEnd ws _ _=_
 unfold atEnd
 rw [List.getElem?_eq_none (Nat.le_refl _)]
 exact if_pos rfl
noncomputable def at2 (t:List (List Int))(a b:Nat):Int:=(t.getD a []).getD b 0
structure qW (t:List (List Int)):Prop where
 n1:1<=t.length
 n8:t.length<=8
 sq:∀r∈t,r.length=t.length
 lo:∀r∈t,∀v∈r,0<=v/\v<(t.length:Int)
 dg:∀a b,a<t.length->b<t.length->(at2 t a b=0↔a=b)
 sy:∀a b,a<t.length->b<t.length->at2 t a b=at2 t b a
 fu:∀k:Nat,(∃v∈t.flatten,(k:Int)<v)->(k:Int)∈t.flatten
section
variable {t:List (List Int)}{A:Hx}{a b:Nat}
theorem Wi (ha:a<t.length):(t.map zG)[a]? =some (zG (t.getD a [])):=by
 rw [List.getElem?_map,List.getD_eq_getElem?_getD,List.getElem?_eq_getElem ha];rfl
theorem yu (ha:a<t.length):t.getD a []∈t:=by
 rw [List.getD_eq_getElem?_getD,List.getElem?_eq_getElem ha];exact List.getElem_mem ha
theorem Qp (ha:a<t.length):zz (zC t) (.int a) A=.ok (zG (t.getD a [])) A:=by
 unfold zz
 show (match yO (t.map zG) (a:Int) with | some w=>R.ok w A | none=>R.bad)=_
 rw [Ji (Wi ha)]
theorem int_at {r:List Int}(hb:b<r.length):(r.map W.int)[b]? =some (.int (r.getD b 0)):=by
 rw [List.getElem?_map,List.getD_eq_getElem?_getD,List.getElem?_eq_getElem hb];rfl
theorem Wd {r:List Int}(hb:b<r.length):zz (zG r) (.int b) A=.ok (.int (r.getD b 0)) A:=by
 unfold zz
 show (match yO (r.map W.int) (b:Int) with | some w=>R.ok w A | none=>R.bad)=_
 rw [Ji (v:=.int (r.getD b 0)) (by rw [List.getElem?_map,List.getD_eq_getElem?_getD,List.getElem?_eq_getElem hb];rfl)]
end
end Mi
namespace G
open PySem L2 Mi
end G
namespace Mi
open PySem L2
section
variable {t:List (List Int)}{A:Hx}
theorem Oq {j:ji}{me:Ev}{ws:List W}{c:Option W}(hj:∀i,i<ws.length->j.at_ A i=some (some (ws.getD i .non)))(hend:j.at_ A ws.length=some none)(he:∀w,me [c,some w] A=.ok w A):
  ∀(f i:Nat) (x:Option W) (acc:List W),i+f=ws.length->acc.length+f<=zW->∃y,jn j (zD 1) (zi (.bl true)) (zN me) f i [c,x] acc A=.ok ([c,y],acc++ws.drop i) A:=by
 intro f
 induction f with
 | zero=>
  intro i x acc h hl
  have:i=ws.length:=by omega
  subst this
  refine ⟨x,?_⟩
  unfold jn
  rw [hend,List.drop_length,List.append_nil]
 | succ f ih=>
  intro i x acc h hl
  have hi:i<ws.length:=by omega
  have ew:ws.getD i .non=ws[i]:=by rw [List.getD_eq_getElem?_getD,List.getElem?_eq_getElem hi];rfl
  obtain ⟨y,e⟩:=ih (i+1) (some ws[i]) (acc++[ws[i]]) (by omega) (by rw [List.length_append,List.length_singleton];omega)
  refine ⟨y,?_⟩
  rw [jn,hj i hi,ew]
  dsimp only [zD,List.set,zi]
  rw [zE]
  dsimp only
  have ee:zN me [c,some ws[i]] acc A=.ok ([c,some ws[i]],acc++[ws[i]]) A:=by
   unfold zN
   rw [he,zE,if_pos (by omega)]
  rw [ee,zE]
  rw [e,List.append_assoc]
  congr 3
  rw [List.singleton_append,<- List.drop_eq_getElem_cons hi]
theorem RL {j:ji}(hj:∀i,i<t.length->j.at_ A i=some (some (zG (t.getD i []))))(hend:j.at_ A t.length=some none):
  ∀(f i:Nat) (x y:Option W) (acc:List W),i+f=t.length->acc.length+(t.drop i).flatten.length<=zW->
   ∃ρ,jn j (zD 0) (zi (.bl true)) (ZR (qc (zc 0)) (zD 1) (zi (.bl true)) (zN (zc 1))) f i [x,y] acc A=.ok (ρ,acc++(t.drop i).flatten.map W.int) A:=by
 intro f
 induction f with
 | zero=>
  intro i x y acc h hl
  have:i=t.length:=by omega
  subst this
  refine ⟨[x,y],?_⟩
  unfold jn
  rw [hend,List.drop_length]
  simp
 | succ f ih=>
  intro i x y acc h hl
  have hi:i<t.length:=by omega
  have er:t.getD i []=t[i]:=by rw [List.getD_eq_getElem?_getD,List.getElem?_eq_getElem hi];rfl
  have ed:t.drop i=t[i]::t.drop (i+1):=List.drop_eq_getElem_cons hi
  rw [ed,List.flatten_cons,List.length_append] at hl
  obtain ⟨z,e1⟩:=Oq (A:=A) (j:=⟨λ A i_1=>(zT (zG t[i]) A).map λ ws=>ws[i_1]?,(t[i].map W.int).length⟩) (me:=zc 1) (ws:=t[i].map W.int) (c:=some (zG t[i]))
   (λ k hk=>by
    show some (t[i].map W.int)[k]? =_
    rw [List.getD_eq_getElem?_getD,List.getElem?_eq_getElem hk];rfl)
   (by show some (t[i].map W.int)[(t[i].map W.int).length]? =_;rw [List.getElem?_eq_none (Nat.le_refl _)])
   (λ w=>zA rfl) (t[i].map W.int).length 0 y acc (by omega) (by rw [List.length_map];omega)
  rw [List.drop_zero] at e1
  obtain ⟨ρ,e2⟩:=ih (i+1) (some (zG t[i])) z (acc++t[i].map W.int) (by omega) (by rw [List.length_append,List.length_map];omega)
  refine ⟨ρ,?_⟩
  rw [jn,hj i hi,er]
  dsimp only [zD,List.set,zi]
  rw [zE]
  dsimp only
  have ee:ZR (qc (zc 0)) (zD 1) (zi (.bl true)) (zN (zc 1)) [some (zG t[i]),y] acc A=.ok ([some (zG t[i]),z],acc++t[i].map W.int) A:=by
   unfold ZR
   rw [gj (ws:=t[i].map W.int) (A1:=A) (zA (i:=0) rfl),zE]
   exact e1
  rw [ee,zE]
  rw [e2,ed,List.flatten_cons,List.map_append,List.append_assoc]
theorem O7 {m:Ev}{ρ:En}(h:m ρ A=.ok (zC t) A)(hl:t.flatten.length<=zW):
  zR 2 [] (qc m) (zD 0) (zi (.bl true)) (ZR (qc (zc 0)) (zD 1) (zi (.bl true)) (zN (zc 1))) ρ A=.ok (t.flatten.map W.int) A:=by
 have hlen:(t.map zG).length=t.length:=List.length_map ..
 obtain ⟨ρ',e⟩:=RL (t:=t) (A:=A) (j:=⟨λ A i=>(zT (zC t) A).map λ ws=>ws[i]?,(t.map zG).length⟩) (λ i hi=>by show some (t.map zG)[i]? =_;rw [Wi hi])
  (by show some (t.map zG)[t.length]? =_;rw [List.getElem?_eq_none (by omega)]) t.length 0 none none [] (by omega) (by simpa using hl)
 unfold zR
 rw [gj (ws:=t.map zG) h,zE]
 show R.bind (R.nox (jn ⟨λ A i=>(zT (zC t) A).map λ ws=>ws[i]?,(t.map zG).length⟩ _ _ _ (t.map zG).length 0 [none,none] [] A)) _=_
 rw [hlen] at e ⊢
 rw [e]
 simp
 rfl
end
theorem QZ:∀l:List Int,intsOf (l.map W.int)=some l
 | []=>rfl
 | i::l=>by
  show (match intsOf (l.map W.int) with | some is=>some (i::is) | none=>none)=_
  rw [QZ l]
theorem KH:∀(l:List Int) (m:Int),jy l m=m∨jy l m∈l
 | [],_=>.inl rfl
 | i::l,m=>by
  show jy l (if i > m then i else m)=m∨jy l (if i > m then i else m)∈i::l
  rcases KH l (if i > m then i else m) with e | e
  ·by_cases h:i > m
   ·rw [if_pos h] at e ⊢;exact .inr (by rw [e];exact List.mem_cons_self ..)
   ·rw [if_neg h] at e ⊢;exact .inl e
  ·exact .inr (List.mem_cons_of_mem _ e)
end Mi
namespace G
open PySem L2 Mi
end G
namespace Mi
open PySem L2
section
variable {A:Hx}{c:En}{me:Ev}{j jin:ji}{N M:Nat}{ot it:Nat->W}{u:Option W}
end
end Mi
namespace G
open PySem L2 Mi
section
variable {s t:List (List Int)}
theorem Q8 {n:Nat}(h:n<1000000):jk (n:Int)=true:=by
 unfold jk
 simp
 omega
end
end G
namespace Mi
open PySem L2
theorem Qj {m:Ev}{ρ:En}{A A1:Hx}{n:Nat}{ws:List W}(h:m ρ A=.ok (.ref n) A1)(hA:A1[n]? =some (.lst ws)):qc m ρ A=.ok ⟨λ A i=>(zT (.ref n) A).map λ ws=>ws[i]?,ws.length⟩ A1:=by
 unfold qc JT
 rw [h,zE]
 have e:zT (.ref n) A1=some ws:=by unfold zT;dsimp only;rw [hA]
 rw [e]
theorem k6 {n i:Nat}{A:Hx}{ws:List W}(hA:A[n]? =some (.lst ws)):((zT (.ref n) A).map λ ws=>ws[i]?)=some ws[i]?:=by
 have e:zT (.ref n) A=some ws:=by unfold zT;dsimp only;rw [hA]
 rw [e];rfl
noncomputable def yM:List Int->Int
 | []=>0
 | i::is=>jy is i
theorem Vv {r:List Int}{A:Hx}(h:r≠[]):j8 (r.map W.int) A=.ok (.int (yM r)) A:=by
 unfold j8
 rw [QZ]
 cases r with
 | nil=>exact absurd rfl h
 | cons i is=>rfl
theorem Jd {r:List Int}(h:r≠[]):yM r∈r:=by
 cases r with
 | nil=>exact absurd rfl h
 | cons i is=>
  rcases KH is i with e | e
  ·show jy is i∈_;rw [e];exact List.mem_cons_self ..
  ·exact List.mem_cons_of_mem _ e
noncomputable def yc (t:List (List Int)):Int:=yM (t.map yM)+1
end Mi
namespace G
open PySem L2 Mi
section
variable {s t:List (List Int)}
theorem _root_.Mi.qW.row_ne (h:qW t){r:List Int}(hr:r∈t):r≠[]:=λ e=>by
 have h1:=h.sq r hr
 have h2:=h.n1
 rw [e,List.length_nil] at h1
 omega
theorem _root_.Mi.qW.map_ne (h:qW t):t.map yM≠[]:=λ e=>by
 have:=h.n1
 rw [List.map_eq_nil_iff] at e
 rw [e] at this
 simp at this
theorem Ug (h:qW t):1<=yc t/\yc t<=8:=by
 obtain ⟨r,hr,e⟩:=List.mem_map.mp (Jd h.map_ne)
 have:=h.lo r hr _ (Jd (h.row_ne hr))
 have:=h.n8
 unfold yc
 rw [<- e]
 omega
theorem Um (h:qW t){a b:Nat}(ha:a<t.length)(hb:b<t.length):0<=at2 t a b/\at2 t a b<8:=by
 have hl:=h.sq _ (yu ha)
 have:(t.getD a []).getD b 0∈t.getD a []:=by
  rw [List.getD_eq_getElem?_getD (l:=t.getD a []),List.getElem?_eq_getElem (by omega)];exact List.getElem_mem _
 have h1:=h.lo _ (yu ha) _ this
 have:=h.n8
 unfold at2
 omega
theorem gY {q:jt}{ρ:En}{A A1:Hx}{ws:List W}(h:q ρ A=.ok ws A1):mQ jF q ρ A=.ok (.tup ws) A1:=(yS h).trans rfl
end
end G
namespace Mi
open PySem L2
theorem kW {n:Nat}{ws:List W}{w:W}{A:Hx}{s:Nat}(h:A[n]? =some (.lst ws))(hs:ws[s]? =some w):zz (.ref n) (.int (s:Int)) A=.ok w A:=by
 unfold zz
 have e:zT (.ref n) A=some ws:=by unfold zT;dsimp only;rw [h]
 rw [e]
 dsimp only
 rw [Ji hs]
theorem yk {A:Hx}{o u:O}{n:Nat}(h:A[n]? =some o):(A++[u])[n]? =some o:=by
 have:=(List.getElem?_eq_some_iff.mp h).1
 rw [List.getElem?_append_left this];exact h
theorem qZ {A:Hx}{u:O}:(A++[u])[A.length]? =some u:=by simp
theorem Js:∀(n:Nat) (ks:List Int),ks.Nodup->(∀r∈ks,0<=r/\r<(n:Int))->ks.length<=n
 | 0,ks,_,h=>by
  cases ks with
  | nil=>exact Nat.le_refl _
  | cons r l=>have:=h r (List.mem_cons_self ..);omega
 | n+1,ks,nd,h=>by
  by_cases hm:(n:Int)∈ks
  ·have h1:=Js n (ks.erase (n:Int)) (nd.erase _) λ r hr=>by
    have h2:=h r (List.mem_of_mem_erase hr)
    have h3:r≠(n:Int):=λ z=>(List.Nodup.mem_erase_iff nd).mp hr |>.1 z
    omega
   rw [List.length_erase_of_mem hm] at h1
   omega
  ·have:=Js n ks nd λ r hr=>by
    have h2:=h r hr
    have h3:r≠(n:Int):=λ z=>hm (z ▸ hr)
    omega
   omega
noncomputable def wk (μ:Nat->Nat->Int)(a b:Nat)(k:Int):Nat->Nat->Int:=λ i j=>if i=a/\j=b then k else μ i j
structure Mu (n:Nat)(μ:Nat->Nat->Int)(c:Nat)(done:Nat->Nat->Prop):Prop where
 dg:∀i,μ i i=0
 sy:∀i j,μ i j=μ j i
 dn:∀i j,i<j->j<n->done i j->1<=μ i j/\μ i j<=(c:Int)
 un:∀i j,i<j->j<n->¬done i j->μ i j=0
 fu:∀k:Nat,1<=k->k<=c->∃i j,i<n/\j<n/\μ i j=(k:Int)
noncomputable def jM (n:Nat)(μ:Nat->Nat->Int):List (List Int):=(List.range n).map λ i=>(List.range n).map (μ i)
theorem gi {n:Nat}{μ:Nat->Nat->Int}{i j:Nat}(hi:i<n)(hj:j<n):at2 (jM n μ) i j=μ i j:=by
 unfold at2 jM
 rw [List.getD_eq_getElem?_getD (l:=(List.range n).map λ i=>(List.range n).map (μ i)),List.getElem?_map,List.getElem?_range hi]
 show ((List.range n).map (μ i)).getD j 0=_
 rw [List.getD_eq_getElem?_getD,List.getElem?_map,List.getElem?_range hj]
 rfl
theorem Mu.tab {n c:Nat}{μ:Nat->Nat->Int}{d:Nat->Nat->Prop}(h:Mu n μ c d)(all:∀i j,i<j->j<n->d i j)(n1:1<=n)(n8:n<=8)(hc:n=1∨c<n):qW (jM n μ):=by
 have len:(jM n μ).length=n:=by unfold jM;simp
 have val:∀i j,i<n->j<n->i≠j->1<=μ i j/\μ i j<=(c:Int):=λ i j hi hj ne=>by
  rcases Nat.lt_or_gt_of_ne ne with q | q
  ·exact h.dn i j q hj (all i j q hj)
  ·rw [h.sy];exact h.dn j i q hi (all j i q hi)
 have mem:∀r∈jM n μ,∀v∈r,∃i j,i<n/\j<n/\v=μ i j:=λ r hr v hv=>by
  unfold jM at hr
  obtain ⟨i,hi,rfl⟩:=List.mem_map.mp hr
  obtain ⟨j,hj,rfl⟩:=List.mem_map.mp hv
  exact ⟨i,j,List.mem_range.mp hi,List.mem_range.mp hj,rfl⟩
 have inF:∀i j,i<n->j<n->μ i j∈(jM n μ).flatten:=λ i j hi hj=>List.mem_flatten.mpr ⟨_,List.mem_map.mpr ⟨i,List.mem_range.mpr hi,rfl⟩,List.mem_map.mpr ⟨j,List.mem_range.mpr hj,rfl⟩⟩
 refine ⟨by rw [len];exact n1,by rw [len];exact n8,λ r hr=>?_,λ r hr v hv=>?_,λ a b ha hb=>?_,λ a b ha hb=>?_,λ k hk=>?_⟩
 ·rw [len]
  unfold jM at hr
  obtain ⟨i,hi,rfl⟩:=List.mem_map.mp hr
  simp
 ·rw [len]
  obtain ⟨i,j,hi,hj,rfl⟩:=mem r hr v hv
  by_cases q:i=j
  ·subst q;rw [h.dg];omega
  ·have:=val i j hi hj q
   omega
 ·rw [len] at ha hb
  rw [gi ha hb]
  constructor
  ·intro e
   by_cases q:a=b
   ·exact q
   ·have:=val a b ha hb q;omega
  ·intro e;subst e;exact h.dg a
 ·rw [len] at ha hb
  rw [gi ha hb,gi hb ha]
  exact h.sy a b
 ·obtain ⟨v,hv,hlt⟩:=hk
  obtain ⟨r,hr,hv'⟩:=List.mem_flatten.mp hv
  obtain ⟨i,j,hi,hj,rfl⟩:=mem r hr v hv'
  by_cases k0:k=0
  ·subst k0
   have:=inF 0 0 (by omega) (by omega)
   rw [h.dg] at this
   exact this
  ·by_cases q:i=j
   ·subst q;rw [h.dg] at hlt;omega
   ·have:=val i j hi hj q
    obtain ⟨i',j',hi',hj',e⟩:=h.fu k (by omega) (by omega)
    have:=inF i' j' hi' hj'
    rw [e] at this
    exact this
end Mi
namespace G
open PySem L2 Mi
theorem Qm {i j:Int}{A:Hx}(h1:-(2 ^ 64)<i)(h2:i<2 ^ 64):qU (.int i) (.int j) A=.ok (.int (i * j)) A:=by
 unfold qU
 dsimp only
 rw [if_pos]
 unfold QD
 rw [Bool.or_eq_true,Bool.and_eq_true,decide_eq_true_iff,decide_eq_true_iff]
 exact .inl ⟨h1,h2⟩
theorem gW {i j:Int}{A:Hx}(h:0<j):yD (.int i) (.int j) A=.ok (.int (i % j)) A:=by
 unfold yD wZ
 dsimp only
 rw [if_pos]
 unfold JH
 exact decide_eq_true h
theorem V7 {i j:Int}{A:Hx}(h:0<j)(h2:j<1073741824):we (.int i) (.int j) A=.ok (.int (i / j)) A:=by
 unfold we wZ
 dsimp only
 rw [if_pos]
 unfold JK
 rw [Bool.and_eq_true,decide_eq_true_iff,decide_eq_true_iff]
 exact ⟨h,h2⟩
theorem Mt {c m:Int}(h1:0<m)(h2:m<1000):Q2 [.ref 0,.int m] [.lst [.int c,.bl true]]=.ok (.int (c % m)) [.lst [.int (c / m),.bl true]]:=by
 refine qQ ?_
 unfold QY
 refine z9 (A1:=[.lst [.int (c / m),.bl true]]) ?_
 refine (yv (A1:=[.lst [.int c,.bl true]]) rfl).trans ?_
 refine (zQ (ρ1:=[some (.ref 0),some (.int m),some (.int (c % m)),none]) (A1:=[.lst [.int c,.bl true]]) ?_).trans ?_
 ·refine (qz (w:=.int (c % m)) (A1:=[.lst [.int c,.bl true]]) ?_).trans rfl
  exact (zJ (x:=.int c) (y:=.int m) (A1:=[.lst [.int c,.bl true]]) (A2:=[.lst [.int c,.bl true]]) rfl rfl).trans (gW h1)
 ·refine (zQ (ρ1:=[some (.ref 0),some (.int m),some (.int (c % m)),none]) (A1:=[.lst [.int (c / m),.bl true]]) ?_).trans rfl
  have e:zj we (zj zz (zc 0) (zi (.int 0))) (zc 1) [some (.ref 0),some (.int m),some (.int (c % m)),none] [.lst [.int c,.bl true]]=.ok (.int (c / m)) [.lst [.int c,.bl true]]:=
   (zJ (x:=.int c) (y:=.int m) (A1:=[.lst [.int c,.bl true]]) (A2:=[.lst [.int c,.bl true]]) rfl rfl).trans (V7 h1 (by omega))
  unfold jK
  rw [e,zE]
  rfl
noncomputable def gH (c:Int):Int:=(c * 48271+29) % 2147483647
noncomputable def yX (d:Int):Int:=(d * d+39373 * d+7) % 2147483629
noncomputable def kx (e:Int):Int:=(e * e+16807 * e) % 2147483587
theorem Ww (c:Int):0<=gH c/\gH c<2147483647:=⟨Int.emod_nonneg _ (by decide),Int.emod_lt_of_pos _ (by decide)⟩
theorem Iw (c:Int):0<=yX c/\yX c<2147483629:=⟨Int.emod_nonneg _ (by decide),Int.emod_lt_of_pos _ (by decide)⟩
theorem M0 {c m:Int}(hc:0<=c)(hc2:c<2147483647)(h1:0<m)(h2:m<1000):Q2 [.ref 0,.int m] [.lst [.int c,.bl false]]=.ok (.int (kx (yX (gH c)) / 8 % m)) [.lst [.int (gH c),.bl false]]:=by
 have b1:=Ww c
 refine qQ ?_
 unfold QY
 refine (zQ (ρ1:=[some (.ref 0),some (.int m),none,none]) (A1:=[.lst [.int c,.bl false]]) ((ym (A1:=[.lst [.int c,.bl false]]) rfl).trans rfl)).trans ?_
 have e1:zj yD (zj zL (zj qU (zj zz (zc 0) (zi (.int 0))) (zi (.int 48271))) (zi (.int 29))) (zi (.int 2147483647)) [some (.ref 0),some (.int m),none,none] [.lst [.int c,.bl false]]=.ok (.int (gH c)) [.lst [.int c,.bl false]]:=by
  have em:zj qU (zj zz (zc 0) (zi (.int 0))) (zi (.int 48271)) [some (.ref 0),some (.int m),none,none] [.lst [.int c,.bl false]]=.ok (.int (c * 48271)) [.lst [.int c,.bl false]]:=
   (zJ (x:=.int c) (y:=.int 48271) (A1:=[.lst [.int c,.bl false]]) (A2:=[.lst [.int c,.bl false]]) rfl rfl).trans (Qm (by omega) (by omega))
  refine (zJ (x:=.int (c * 48271+29)) (y:=.int 2147483647) (A1:=[.lst [.int c,.bl false]]) (A2:=[.lst [.int c,.bl false]]) ((zJ em rfl).trans rfl) rfl).trans ?_
  exact gW (by decide)
 refine (zQ (ρ1:=[some (.ref 0),some (.int m),none,none]) (A1:=[.lst [.int (gH c),.bl false]]) ?_).trans ?_
 ·unfold jK
  rw [e1,zE]
  rfl
 generalize gH c=d at *
 have e2:zj yD (zj zL (zj zL (zj qU (zj zz (zc 0) (zi (.int 0))) (zj zz (zc 0) (zi (.int 0)))) (zj qU (zi (.int 39373)) (zj zz (zc 0) (zi (.int 0))))) (zi (.int 7))) (zi (.int 2147483629)) [some (.ref 0),some (.int m),none,none] [.lst [.int d,.bl false]]=
   .ok (.int (yX d)) [.lst [.int d,.bl false]]:=by
  have em:zj qU (zj zz (zc 0) (zi (.int 0))) (zj zz (zc 0) (zi (.int 0))) [some (.ref 0),some (.int m),none,none] [.lst [.int d,.bl false]]=.ok (.int (d * d)) [.lst [.int d,.bl false]]:=
   (zJ (x:=.int d) (y:=.int d) (A1:=[.lst [.int d,.bl false]]) (A2:=[.lst [.int d,.bl false]]) rfl rfl).trans (Qm (by omega) (by omega))
  have en:zj qU (zi (.int 39373)) (zj zz (zc 0) (zi (.int 0))) [some (.ref 0),some (.int m),none,none] [.lst [.int d,.bl false]]=.ok (.int (39373 * d)) [.lst [.int d,.bl false]]:=
   (zJ (x:=.int 39373) (y:=.int d) (A1:=[.lst [.int d,.bl false]]) (A2:=[.lst [.int d,.bl false]]) rfl rfl).trans (Qm (by decide) (by decide))
  have es:zj zL (zj qU (zj zz (zc 0) (zi (.int 0))) (zj zz (zc 0) (zi (.int 0)))) (zj qU (zi (.int 39373)) (zj zz (zc 0) (zi (.int 0)))) [some (.ref 0),some (.int m),none,none] [.lst [.int d,.bl false]]=.ok (.int (d * d+39373 * d)) [.lst [.int d,.bl false]]:=
   (zJ em en).trans rfl
  refine (zJ (x:=.int (d * d+39373 * d+7)) (y:=.int 2147483629) (A1:=[.lst [.int d,.bl false]]) (A2:=[.lst [.int d,.bl false]]) ((zJ es rfl).trans rfl) rfl).trans ?_
  exact gW (by decide)
 refine (zQ (ρ1:=[some (.ref 0),some (.int m),none,some (.int (yX d))]) (A1:=[.lst [.int d,.bl false]]) ((qz e2).trans rfl)).trans ?_
 have b2:=Iw d
 generalize yX d=e at *
 have e3:zj yD (zj zL (zj qU (zc 3) (zc 3)) (zj qU (zi (.int 16807)) (zc 3))) (zi (.int 2147483587)) [some (.ref 0),some (.int m),none,some (.int e)] [.lst [.int d,.bl false]]=.ok (.int (kx e)) [.lst [.int d,.bl false]]:=by
  have em:zj qU (zc 3) (zc 3) [some (.ref 0),some (.int m),none,some (.int e)] [.lst [.int d,.bl false]]=.ok (.int (e * e)) [.lst [.int d,.bl false]]:=
   (zJ (x:=.int e) (y:=.int e) (A1:=[.lst [.int d,.bl false]]) (A2:=[.lst [.int d,.bl false]]) rfl rfl).trans (Qm (by omega) (by omega))
  have en:zj qU (zi (.int 16807)) (zc 3) [some (.ref 0),some (.int m),none,some (.int e)] [.lst [.int d,.bl false]]=.ok (.int (16807 * e)) [.lst [.int d,.bl false]]:=
   (zJ (x:=.int 16807) (y:=.int e) (A1:=[.lst [.int d,.bl false]]) (A2:=[.lst [.int d,.bl false]]) rfl rfl).trans (Qm (by decide) (by decide))
  refine (zJ (x:=.int (e * e+16807 * e)) (y:=.int 2147483587) (A1:=[.lst [.int d,.bl false]]) (A2:=[.lst [.int d,.bl false]]) ((zJ em en).trans rfl) rfl).trans ?_
  exact gW (by decide)
 refine (zQ (ρ1:=[some (.ref 0),some (.int m),none,some (.int (kx e))]) (A1:=[.lst [.int d,.bl false]]) ((qz e3).trans rfl)).trans ?_
 generalize kx e=f at *
 refine z9 (qS ?_)
 refine (zJ (x:=.int (f / 8)) (y:=.int m) (A1:=[.lst [.int d,.bl false]]) (A2:=[.lst [.int d,.bl false]]) ?_ rfl).trans (gW h1)
 exact (zJ (x:=.int f) (y:=.int 8) (A1:=[.lst [.int d,.bl false]]) (A2:=[.lst [.int d,.bl false]]) rfl rfl).trans (V7 (by decide) (by decide))
noncomputable def qo (n:Nat)(A:Hx):Prop:=∃c b,A[n]? =some (.lst [.int c,.bl b])/\0<=c/\(b=false->c<2147483647)
theorem VT {n:Nat}{A:Hx}(h:qo n A){m:Int}(h1:0<m)(h2:m<1000):∃r o,qk [.ref n,.int m] A=.ok (.int r) (A.set n o)/\0<=r/\r<m/\qo n (A.set n o):=by
 obtain ⟨c,b,hA,hc,hb⟩:=h
 have hn:n<A.length:=(List.getElem?_eq_some_iff.mp hA).1
 have fin:∀(r c':Int),Q2 [.ref 0,.int m] [.lst [.int c,.bl b]]=.ok (.int r) [.lst [.int c',.bl b]]->qk [.ref n,.int m] A=.ok (.int r) (A.set n (.lst [.int c',.bl b])):=λ r c' e=>by
  unfold qk kj
  dsimp only
  rw [hA]
  dsimp only
  have hn1:(jc [W.int c,W.bl b]&&jc [W.int m])=true:=rfl
  rw [if_pos hn1,e]
  rfl
 cases b with
 | true=>
  refine ⟨c % m,_,fin _ _ (Mt h1 h2),Int.emod_nonneg _ (by omega),Int.emod_lt_of_pos _ h1,c / m,true,List.getElem?_set_self hn,Int.ediv_nonneg hc (by omega),λ z=>nomatch z⟩
 | false=>
  exact ⟨_,_,fin _ _ (M0 hc (hb rfl) h1 h2),Int.emod_nonneg _ (by omega),Int.emod_lt_of_pos _ h1,gH c,false,List.getElem?_set_self hn,(Ww c).1,λ _=>(Ww c).2⟩
end G
namespace Mi
open PySem L2
theorem Kz {n k:Nat}{xs ys:List W}{A:Hx}(h:A[n]? =some (.lst xs))(h2:A[k]? =some (.lst ys))(hl:xs.length+ys.length<=zW):zL (.ref n) (.ref k) A=.ok (.ref A.length) (A++[.lst (xs++ys)]):=by
 unfold zL
 dsimp only
 rw [h,h2]
 dsimp only
 rw [if_pos hl]
noncomputable def Ext (A A':Hx):Prop:=∃l,A'=A++l
theorem Ext.refl {A:Hx}:Ext A A:=⟨[],by simp⟩
theorem Ext.trans {A B C:Hx}(a:Ext A B)(b:Ext B C):Ext A C:=let ⟨l,e⟩:=a;let ⟨k,f⟩:=b;⟨l++k,by rw [f,e,List.append_assoc]⟩
theorem Ext.one {A:Hx}{o:O}:Ext A (A++[o]):=⟨[o],rfl⟩
theorem Ext.at {A A':Hx}{n:Nat}{o:O}(x:Ext A A')(h:A[n]? =some o):A'[n]? =some o:=by
 obtain ⟨l,rfl⟩:=x
 have:=(List.getElem?_eq_some_iff.mp h).1
 rw [List.getElem?_append_left this];exact h
end Mi
namespace G
open PySem L2 Mi
end G
namespace Mi
open PySem L2
theorem Pz {j:ji}{tw:Tg}{ifs:Ev}{em:Em}{N:Nat}{I:Nat->En->List W->Hx->Prop}
  (hstep:∀i ρ acc A,i<N->I i ρ acc A->∃w ρ1,j.at_ A i=some (some w)/\tw w ρ=some ρ1/\((∃A1 ρ2 acc2 A2,ifs ρ1 A=.ok (.bl true) A1/\em ρ1 acc A1=.ok (ρ2,acc2) A2/\I (i+1) ρ2 acc2 A2)∨(∃A1,ifs ρ1 A=.ok (.bl false) A1/\I (i+1) ρ1 acc A1)))
  (hend:∀ρ acc A,I N ρ acc A->j.at_ A N=some none):
  ∀(f i:Nat) (ρ:En) (acc:List W) (A:Hx),i+f=N->I i ρ acc A->∃ρ' acc' A',jn j tw ifs em f i ρ acc A=.ok (ρ',acc') A'/\I N ρ' acc' A':=by
 intro f
 induction f with
 | zero=>
  intro i ρ acc A h hI
  have:i=N:=by omega
  subst this
  refine ⟨ρ,acc,A,?_,hI⟩
  unfold jn
  rw [hend _ _ _ hI]
 | succ f ih=>
  intro i ρ acc A h hI
  obtain ⟨w,ρ1,h1,h2,h3⟩:=hstep i ρ acc A (by omega) hI
  rw [jn,h1]
  dsimp only
  rw [h2]
  dsimp only
  rcases h3 with ⟨A1,ρ2,acc2,A2,e1,e2,e3⟩ | ⟨A1,e1,e3⟩
  ·rw [e1,zE]
   dsimp only
   rw [e2,zE]
   exact ih (i+1) _ _ _ (by omega) e3
  ·rw [e1,zE]
   dsimp only
   exact ih (i+1) _ _ _ (by omega) e3
theorem Ki {nl:Nat}{cap:List Nat}{mi:Ei}{ρ:En}{A A1:Hx}{j:ji}{tw:Tg}{ifs:Ev}{em:Em}{N:Nat}{I:Nat->En->List W->Hx->Prop}(hm:mi ρ A=.ok j A1)(hj:j.len=N)
  (hstep:∀i ρ acc A,i<N->I i ρ acc A->∃w ρ1,j.at_ A i=some (some w)/\tw w ρ=some ρ1/\((∃A1 ρ2 acc2 A2,ifs ρ1 A=.ok (.bl true) A1/\em ρ1 acc A1=.ok (ρ2,acc2) A2/\I (i+1) ρ2 acc2 A2)∨(∃A1,ifs ρ1 A=.ok (.bl false) A1/\I (i+1) ρ1 acc A1)))
  (hend:∀ρ acc A,I N ρ acc A->j.at_ A N=some none)(h0:I 0 (Za nl cap ρ) [] A1):∃ρ' acc' A',zR nl cap mi tw ifs em ρ A=.ok acc' A'/\I N ρ' acc' A':=by
 obtain ⟨ρ',acc',A',e,hI⟩:=Pz hstep hend N 0 _ _ _ (by omega) h0
 refine ⟨ρ',acc',A',?_,hI⟩
 unfold zR
 rw [hm,zE,hj,e]
 rfl
theorem Qb {j:ji}{st:W->Ex}{N:Nat}{I:Nat->En->Hx->Prop}
  (hstep:∀i ρ A,i<N->I i ρ A->∃w ρ1 A1,j.at_ A i=some (some w)/\st w ρ A=.ok (.nx ρ1) A1/\I (i+1) ρ1 A1)(hend:∀ρ A,I N ρ A->j.at_ A N=some none):
  ∀(f i:Nat) (ρ:En) (A:Hx),i+f=N->I i ρ A->∃ρ' A',jC j st f i ρ A=.ok (.nx ρ') A'/\I N ρ' A':=by
 intro f
 induction f with
 | zero=>
  intro i ρ A h hI
  have:i=N:=by omega
  subst this
  exact ⟨ρ,A,Xl (hend _ _ hI),hI⟩
 | succ f ih=>
  intro i ρ A h hI
  obtain ⟨w,ρ1,A1,h1,h2,h3⟩:=hstep i ρ A (by omega) hI
  rw [Vh h1 h2]
  exact ih (i+1) _ _ (by omega) h3
theorem KA {me:Ev}{ρ:En}{acc:List W}{A A1:Hx}{y:W}(h:me ρ A=.ok y A1)(hl:acc.length<zW):zN me ρ acc A=.ok (ρ,acc++[y]) A1:=by
 unfold zN
 rw [h,zE,if_pos hl]
theorem take_succ {α:Type}{l:List α}{i:Nat}(h:i<l.length):l.take (i+1)=l.take i++[l[i]]:=by
 rw [List.take_succ,List.getElem?_eq_getElem h];rfl
theorem Ext.set {A B:Hx}{n:Nat}{o:O}(x:Ext A B)(h:A.length<=n):Ext A (B.set n o):=by
 obtain ⟨l,rfl⟩:=x
 exact ⟨l.set (n - A.length) o,by rw [List.set_append_right _ _ h]⟩
theorem Ext.app {A B:Hx}{l:Hx}(x:Ext A B):Ext A (B++l):=x.trans ⟨l,rfl⟩
theorem Ext.len {A B:Hx}(x:Ext A B):A.length<=B.length:=by obtain ⟨l,rfl⟩:=x;simp
theorem kB {A:Hx}{n:Nat}{o:O}(h:A[n]? =some o):n<A.length:=(List.getElem?_eq_some_iff.mp h).1
end Mi
namespace G
open PySem L2 Mi
theorem Lj {n i:Nat}{A:Hx}{ws:List W}{w:W}(hA:A[n]? =some (.lst ws))(h:ws[i]? =some w):((zT (.ref n) A).map λ ws=>ws[i]?)=some (some w):=by
 rw [k6 hA,h]
theorem M4 {n i:Nat}{A:Hx}{ws:List W}(hA:A[n]? =some (.lst ws))(h:ws.length<=i):((zT (.ref n) A).map λ ws=>ws[i]?)=some none:=by
 rw [k6 hA,List.getElem?_eq_none h]
end G
namespace Mi
open PySem L2
theorem Qi:∀(l:List Int) (m:Int),m<=jy l m/\∀x∈l,x<=jy l m
 | [],m=>⟨Int.le_refl _,λ x h=>by cases h⟩
 | y::l,m=>by
  unfold jy
  split
  ·rename_i hy
   obtain ⟨h1,h2⟩:=Qi l y
   refine ⟨by omega,λ x hx=>?_⟩
   rcases List.mem_cons.mp hx with rfl | hx
   ·exact h1
   ·exact h2 x hx
  ·rename_i hy
   obtain ⟨h1,h2⟩:=Qi l m
   refine ⟨h1,λ x hx=>?_⟩
   rcases List.mem_cons.mp hx with rfl | hx
   ·omega
   ·exact h2 x hx
theorem Xq {α:Type}:∀{l:List α} {k:Nat} {w:α},l[k]? =some w->l.Perm (w::l.eraseIdx k)
 | [],_,_,h=>by simp at h
 | x::l,0,w,h=>by
  simp at h
  subst h
  simp
 | x::l,k+1,w,h=>by
  rw [List.getElem?_cons_succ] at h
  rw [List.eraseIdx_cons_succ]
  exact ((Xq h).cons x).trans (List.Perm.swap w x _)
theorem SO {A:Hx}{n k:Nat}{i:Int}{ws:List W}{w:W}(h:A[n]? =some (.lst ws))(hw:ws[k]? =some w)(hs:jk i=true)(e:seqIndex? i ws.length=some k):k9 (.ref n) (.int i) A=.ok w (A.set n (.lst (ws.eraseIdx k))):=by
 unfold k9
 dsimp only
 rw [h]
 dsimp only
 rw [if_pos hs,e]
 dsimp only
 rw [hw]
theorem MN {k n:Nat}(hl:k<n):seqIndex? (k:Int) n=some k:=by
 have:=PySem.StrLaws.seqIndex_nonneg (i:=(k:Int)) (n:=n) (by omega) (by omega)
 rw [Int.toNat_natCast] at this
 exact this
theorem RQ {A:Hx}{n k:Nat}{ws:List W}{w:W}(h:A[n]? =some (.lst ws))(hw:ws[k]? =some w)(hk:k<1000000):k9 (.ref n) (.int (k:Int)) A=.ok w (A.set n (.lst (ws.eraseIdx k))):=
 SO h hw (G.Q8 hk) (MN (List.getElem?_eq_some_iff.mp hw).1)
theorem XM {α β:Type}(f:α->β):∀(l:List α) (k:Nat),(l.map f).eraseIdx k=(l.eraseIdx k).map f
 | [],_=>rfl
 | _::_,0=>rfl
 | a::l,k+1=>by
  rw [List.map_cons,List.eraseIdx_cons_succ,List.eraseIdx_cons_succ,List.map_cons,XM f l k]
theorem KO {g:W->W->Hx->R W}{a b:Ev}{ρ:En}{A A1:Hx}{n:Nat}{ws:List W}{y:W}(ha:a ρ A=.ok (.ref n) A)(hA:A[n]? =some (.lst ws))(hb:b ρ A=.ok y A1):yF g a b ρ A=g (.ref n) y A1:=by
 unfold yF
 have hl:Z0 (.ref n) A=true:=by unfold Z0;dsimp only;rw [hA]
 rw [ha,zE,if_pos hl,hb,zE]
theorem SU {A:Hx}{n:Nat}{ws:List W}{y:W}(h:A[n]? =some (.lst ws))(hl:ws.length<1000):kD (.ref n) y A=.ok .non (A.set n (.lst (ws++[y]))):=by
 unfold kD
 dsimp only
 rw [h]
 dsimp only
 rw [if_pos (by unfold zW;omega)]
theorem Vl {f:Fn}{n:Nat}{us:List W}{A A1:Hx}{c c':Int}{b b':Bool}{w:W}(hA:A[n]? =some (.lst [.int c,.bl b]))(hu:jc us=true)(h:f (.ref 0::us) [.lst [.int c,.bl b]]=.ok w A1)(h1:A1[0]? =some (.lst [.int c',.bl b']))(hw:w.nr=true):kj f (.ref n::us) A=.ok w (A.set n (.lst [.int c',.bl b'])):=by
 unfold kj
 dsimp only
 rw [hA]
 dsimp only
 have h2:(jc [W.int c,W.bl b]&&jc us)=true:=by rw [hu];rfl
 rw [if_pos h2,h]
 dsimp only
 rw [List.head?_eq_getElem?,h1]
 dsimp only
 have h3:(jc [W.int c',W.bl b']&&w.nr)=true:=by rw [hw];rfl
 rw [if_pos h3]
noncomputable abbrev iL (l:List Nat):List W:=l.map λ (a:Nat)=>W.int (a:Int)
end Mi
namespace G
open PySem L2 Mi
theorem XA {m:Ev}{ρ:En}{A A1:Hx}{n:Nat}(h:m ρ A=.ok (.int (n:Int)) A1)(hn:n<=100):ZK m ρ A=.ok (.ref A1.length) (A1++[.lst (iL (List.range n))]):=by
 unfold ZK
 rw [h,zE]
 dsimp only
 rw [Q8 (by omega),Int.toNat_natCast,decide_eq_true (by unfold zW;omega)]
 rfl
end G
namespace Mi
open PySem L2
theorem XW {α:Type}{m me:Ev}{ρ:En}{A:Hx}{cap:List Nat}{o:List α}{f:α->W}{G:α->W}(h:m ρ A=.ok (.tup (o.map f)) A)(hl:o.length<=zW)(he:∀a∈o,me (some (f a)::cap.map λ i=>(ρ[i]?).join) A=.ok (G a) A):
  zR 1 cap (qc m) (zD 0) (zi (.bl true)) (zN me) ρ A=.ok (o.map G) A:=by
 by_cases h0:o=[]
 ·subst h0
  have e:=gO (cap:=cap) (me:=me) (ρ:=ρ) (A:=A) (N:=0) (item:=λ _=>.non) (g:=λ _=>.non) (gj h) rfl (by unfold zW;omega) (λ i hi=>by omega) rfl (λ i hi=>by omega)
  exact e
 ·obtain ⟨x,hx⟩:∃x,x∈o:=List.exists_mem_of_ne_nil o h0
  have e:=gO (cap:=cap) (me:=me) (ρ:=ρ) (A:=A) (N:=o.length) (item:=λ i=>f (o.getD i x)) (g:=λ i=>G (o.getD i x)) (gj h) (List.length_map ..) hl
   (λ i hi=>by show some (o.map f)[i]? =_;rw [List.getElem?_map,List.getElem?_eq_getElem hi,List.getD_eq_getElem?_getD,List.getElem?_eq_getElem hi];rfl)
   (by show some (o.map f)[o.length]? =_;rw [List.getElem?_eq_none (by rw [List.length_map];exact Nat.le_refl _)])
   (λ i hi=>by
    have:o.getD i x=o[i]:=by rw [List.getD_eq_getElem?_getD,List.getElem?_eq_getElem hi];rfl
    rw [this];exact he _ (List.getElem_mem hi))
  rw [e]
  congr 1
  apply List.ext_getElem
  ·simp
  ·intro i h1 h2
   have hi:i<o.length:=by simpa using h2
   simp [List.getD_eq_getElem?_getD,List.getElem?_eq_getElem hi]
theorem Z5 {α β:Type}(o:List α)(x:α)(f:α->β):o.map f=(List.range o.length).map λ i=>f (o.getD i x):=by
 apply List.ext_getElem
 ·simp
 ·intro i h1 h2
  have hi:i<o.length:=by simpa using h1
  simp [List.getD_eq_getElem?_getD,List.getElem?_eq_getElem hi]
theorem gk {t:List (List Int)}(hq:∀r∈t,r.length=t.length){v:Int}(h:v∈t.flatten):∃a b,a<t.length/\b<t.length/\at2 t a b=v:=by
 obtain ⟨r,hr,hv⟩:=List.mem_flatten.mp h
 obtain ⟨a,ha,e1⟩:=List.getElem_of_mem hr
 obtain ⟨b,hb,e2⟩:=List.getElem_of_mem hv
 refine ⟨a,b,ha,by rw [<- hq r hr];exact hb,?_⟩
 unfold at2
 have e3:t.getD a []=r:=by rw [List.getD_eq_getElem?_getD,List.getElem?_eq_getElem ha];exact e1
 rw [e3,List.getD_eq_getElem?_getD,List.getElem?_eq_getElem hb]
 exact e2
theorem ZJ {t:List (List Int)}(hq:∀r∈t,r.length=t.length){a b:Nat}(ha:a<t.length)(hb:b<t.length):∃r∈t,at2 t a b∈r/\at2 t a b∈t.flatten:=by
 have h1:t.getD a []∈t:=yu ha
 have h2:at2 t a b∈t.getD a []:=by
  unfold at2
  have hb':b<(t.getD a []).length:=by rw [hq _ h1];exact hb
  rw [List.getD_eq_getElem?_getD (l:=t.getD a []),List.getElem?_eq_getElem hb']
  exact List.getElem_mem _
 exact ⟨_,h1,h2,List.mem_flatten.mpr ⟨_,h1,h2⟩⟩
theorem VL {r:List Int}{x:Int}(h:x∈r):x<=yM r:=by
 cases r with
 | nil=>cases h
 | cons i is=>
  show x<=jy is i
  rcases List.mem_cons.mp h with rfl | h
  ·exact (Qi is x).1
  ·exact (Qi is i).2 x h
end Mi
namespace G
open PySem L2 Mi
section
variable {t:List (List Int)}
theorem V0 (h:qW t){a b:Nat}(ha:a<t.length)(hb:b<t.length):at2 t a b<yc t:=by
 obtain ⟨r,hr,h1,_⟩:=ZJ h.sq ha hb
 have e1:=VL h1
 have e2:=VL (List.mem_map.mpr ⟨r,hr,rfl⟩:yM r∈t.map yM)
 unfold yc
 omega
theorem KZ (h:qW t):yc t - 1∈t.flatten:=by
 obtain ⟨r,hr,e⟩:=List.mem_map.mp (Jd h.map_ne)
 have:yc t - 1=yM r:=by unfold yc;omega
 rw [this]
 exact List.mem_flatten.mpr ⟨r,hr,Jd (h.row_ne hr)⟩
theorem M5 (h:qW t):yc t<=(t.length:Int):=by
 obtain ⟨r,hr,hv⟩:=List.mem_flatten.mp (KZ h)
 have:=h.lo r hr _ hv
 omega
theorem M1 (h:qW t){v:Nat}(hv:(v:Int)<yc t):∃a b,a<t.length/\b<t.length/\at2 t a b=(v:Int):=by
 by_cases e:(v:Int)=yc t - 1
 ·rw [e];exact gk h.sq (KZ h)
 ·exact gk h.sq (h.fu v ⟨_,KZ h,by omega⟩)
noncomputable def jJ (p:List Nat):List Int:=0::p.map λ (k:Nat)=>1+(k:Int)
noncomputable def Zd (t:List (List Int))(p o:List Nat):List (List Int):=o.map λ a=>o.map λ b=>(jJ p).getD (at2 t a b).toNat 0
theorem Vo {p:List Nat}{v:Nat}(h1:1<=v)(h2:v<=p.length):(jJ p).getD v 0=1+((p[v - 1]'(by omega):Nat):Int):=by
 obtain ⟨v,rfl⟩:∃u,v=u+1:=⟨v - 1,by omega⟩
 unfold jJ
 rw [List.getD_eq_getElem?_getD,List.getElem?_cons_succ,List.getElem?_map,List.getElem?_eq_getElem (by omega)]
 rfl
theorem R3 (h:qW t){p o:List Nat}(hp:p.Perm (List.range (yc t - 1).toNat))(ho:o.Perm (List.range t.length)):qW (Zd t p o)/\(Zd t p o).length=t.length:=by
 have hol:o.length=t.length:=by rw [ho.length_eq,List.length_range]
 have kb:=Ug h
 have kl:=M5 h
 have hpl:p.length=(yc t - 1).toNat:=by rw [hp.length_eq,List.length_range]
 have n1:=h.n1
 have hin:∀i,o.getD i 0<t.length:=λ i=>by
  by_cases hi:i<o.length
  ·rw [List.getD_eq_getElem?_getD,List.getElem?_eq_getElem hi]
   exact List.mem_range.mp (ho.mem_iff.mp (List.getElem_mem hi))
  ·rw [List.getD_eq_getElem?_getD,List.getElem?_eq_none (by omega)]
   exact n1
 have hnd:o.Nodup:=(ho.nodup_iff).mpr List.nodup_range
 have hsur:∀a,a<t.length->∃i,i<t.length/\o.getD i 0=a:=λ a ha=>by
  obtain ⟨i,hi,e⟩:=List.getElem_of_mem (ho.mem_iff.mpr (List.mem_range.mpr ha))
  exact ⟨i,by omega,by rw [List.getD_eq_getElem?_getD,List.getElem?_eq_getElem hi];exact e⟩
 have hplt:∀q (hq:q<p.length),p[q]<p.length:=λ q hq=>by
  have:=List.mem_range.mp (hp.mem_iff.mp (List.getElem_mem hq))
  omega
 have hM:Mu t.length (λ i j=>(jJ p).getD (at2 t (o.getD i 0) (o.getD j 0)).toNat 0) p.length (λ _ _=>True):=by
  refine ⟨λ i=>?_,λ i j=>?_,λ i j hij hj _=>?_,λ i j _ _ hn=>absurd trivial hn,λ k k1 kc=>?_⟩
  ·show (jJ p).getD (at2 t (o.getD i 0) (o.getD i 0)).toNat 0=0
   rw [(h.dg _ _ (hin i) (hin i)).mpr rfl]
   rfl
  ·show (jJ p).getD (at2 t (o.getD i 0) (o.getD j 0)).toNat 0=(jJ p).getD (at2 t (o.getD j 0) (o.getD i 0)).toNat 0
   rw [h.sy _ _ (hin i) (hin j)]
  ·show 1<=(jJ p).getD (at2 t (o.getD i 0) (o.getD j 0)).toNat 0/\(jJ p).getD (at2 t (o.getD i 0) (o.getD j 0)).toNat 0<=(p.length:Int)
   have hne:o.getD i 0≠o.getD j 0:=by
    have hi':i<o.length:=by omega
    have hj':j<o.length:=by omega
    rw [List.getD_eq_getElem?_getD,List.getElem?_eq_getElem hi',List.getD_eq_getElem?_getD,List.getElem?_eq_getElem hj']
    intro e
    have e':o[i]=o[j]:=e
    have:=(List.getElem_inj hnd).mp e'
    omega
   have d:=h.dg _ _ (hin i) (hin j)
   have b0:=Um h (hin i) (hin j)
   have b2:=V0 h (hin i) (hin j)
   have b3:at2 t (o.getD i 0) (o.getD j 0)≠0:=λ e=>hne (d.mp e)
   rw [Vo (by omega) (by omega)]
   have:=hplt ((at2 t (o.getD i 0) (o.getD j 0)).toNat - 1) (by omega)
   omega
  ·obtain ⟨q,hq,e⟩:=List.getElem_of_mem (hp.mem_iff.mpr (List.mem_range.mpr (by omega:k - 1<(yc t - 1).toNat)))
   obtain ⟨a,b,ha,hb,e2⟩:=M1 h (v:=q+1) (by omega)
   obtain ⟨i,hi,e3⟩:=hsur a ha
   obtain ⟨j,hj,e4⟩:=hsur b hb
   refine ⟨i,j,hi,hj,?_⟩
   show (jJ p).getD (at2 t (o.getD i 0) (o.getD j 0)).toNat 0=(k:Int)
   rw [e3,e4,e2,Int.toNat_natCast,Vo (by omega) (by omega)]
   have:p[q+1 - 1]'(by omega)=k - 1:=e
   rw [this]
   omega
 have hT:Zd t p o=jM t.length (λ i j=>(jJ p).getD (at2 t (o.getD i 0) (o.getD j 0)).toNat 0):=by
  unfold Zd jM
  rw [Z5 o 0,hol]
  congr 1
  funext i
  rw [Z5 o 0 (λ b=>(jJ p).getD (at2 t (o.getD i 0) b).toNat 0),hol]
 refine ⟨?_,by unfold Zd;rw [List.length_map,hol]⟩
 rw [hT]
 exact hM.tab (λ _ _ _ _=>trivial) n1 h.n8 (.inr (by omega))
end
end G
namespace Mi
open PySem L2
theorem Vp {A:Hx}{r b:Nat}{ws:List W}{v:W}(h:A[r]? =some (.lst ws))(hb:b<ws.length):j3 (.ref r) (.int (b:Int)) v A=.ok () (A.set r (.lst (ws.set b v))):=by
 have e:kz ws.length (b:Int)=some b:=by unfold kz;rw [if_pos (by omega),if_pos (by omega),Int.toNat_natCast]
 unfold j3
 dsimp only
 rw [h]
 dsimp only
 rw [e]
structure Kp (n:Nat)(A B:Hx):Prop where
 len:A.length<=B.length
 at_:∀i,i<A.length->i≠n->B[i]? =A[i]?
section
variable {n:Nat}{A B C:Hx}
theorem Kp.refl:Kp n A A:=⟨Nat.le_refl _,λ _ _ _=>rfl⟩
theorem Kp.trans (a:Kp n A B)(b:Kp n B C):Kp n A C:=⟨Nat.le_trans a.len b.len,λ i h1 h2=>(b.at_ i (Nat.lt_of_lt_of_le h1 a.len) h2).trans (a.at_ i h1 h2)⟩
theorem Kp.set {o:O}:Kp n A (A.set n o):=⟨by rw [List.length_set];exact Nat.le_refl _,λ i _ h=>List.getElem?_set_ne (Ne.symm h)⟩
theorem Kp.ext (x:Ext A B):Kp n A B:=by
 obtain ⟨l,rfl⟩:=x
 exact ⟨by simp,λ i h _=>List.getElem?_append_left h⟩
theorem Kp.put (a:Kp n A B){k:Nat}{o:O}(h:A.length<=k):Kp n A (B.set k o):=⟨by rw [List.length_set];exact a.len,λ i h1 h2=>by rw [List.getElem?_set_ne (by omega)];exact a.at_ i h1 h2⟩
theorem Kp.get (a:Kp n A B){i:Nat}{o:O}(h:A[i]? =some o)(hn:i≠n):B[i]? =some o:=by rw [a.at_ i (kB h) hn];exact h
end
theorem Je {n:Nat}{μ:Nat->Nat->Int}:(jM n μ).length=n:=by unfold jM;simp
theorem K8 {n:Nat}{μ:Nat->Nat->Int}:∀r∈jM n μ,r.length=(jM n μ).length:=λ r hr=>by
 obtain ⟨i,_,rfl⟩:=List.mem_map.mp hr
 rw [Je];simp
end Mi
namespace G
open PySem L2 Mi
section
variable {ns:List Int}{Pt:Addr}{n:Nat}{A:Hx}{t:List (List Int)}
end
end G
namespace Mi
open PySem L2
section
variable {t:List (List Int)}{o:List Nat}{p q:Nat}
end
end Mi
namespace G
open PySem L2 Mi
section
variable {t:List (List Int)}{o:List Nat}{w:W}{A:Hx}
noncomputable abbrev Sq (t:List (List Int)):Prop:=∀r∈t,r.length=t.length
end
end G
namespace Mi
open PySem L2
noncomputable def Gm (t:List (List Int)):Bool:=decide (1<=t.length)&&(decide (t.length<=8)&&((t.all λ r=>r.length==t.length&&r.all λ v=>decide (0<=v)&&decide (v<(t.length:Int)))&&
 (((List.range t.length).all λ a=>(List.range t.length).all λ b=>(decide (at2 t a b=0)==decide (a=b))&&decide (at2 t a b=at2 t b a))&&(List.range 8).all λ k=>!(t.flatten.any λ v=>decide ((k:Int)<v)) || t.flatten.contains (k:Int))))
theorem VI {t:List (List Int)}(h:Gm t=true):qW t:=by
 unfold Gm at h
 rw [Bool.and_eq_true,Bool.and_eq_true,Bool.and_eq_true,Bool.and_eq_true,decide_eq_true_iff,decide_eq_true_iff] at h
 obtain ⟨n1,n8,hr,hs,hf⟩:=h
 have rw_:∀r∈t,r.length=t.length/\∀v∈r,0<=v/\v<(t.length:Int):=λ r hm=>by
  have:=List.all_eq_true.mp hr r hm
  rw [Bool.and_eq_true,beq_iff_eq] at this
  refine ⟨this.1,λ v hv=>?_⟩
  have:=List.all_eq_true.mp this.2 v hv
  rw [Bool.and_eq_true,decide_eq_true_iff,decide_eq_true_iff] at this
  exact this
 have at_:∀a b,a<t.length->b<t.length->(decide (at2 t a b=0)==decide (a=b))=true/\at2 t a b=at2 t b a:=λ a b ha hb=>by
  have:=List.all_eq_true.mp (List.all_eq_true.mp hs a (List.mem_range.mpr ha)) b (List.mem_range.mpr hb)
  rw [Bool.and_eq_true,decide_eq_true_iff] at this
  exact this
 refine ⟨n1,n8,λ r hm=>(rw_ r hm).1,λ r hm=>(rw_ r hm).2,λ a b ha hb=>?_,λ a b ha hb=>(at_ a b ha hb).2,λ k hk=>?_⟩
 ·have:=beq_iff_eq.mp (at_ a b ha hb).1
  by_cases q:a=b
  ·rw [decide_eq_true q] at this;exact ⟨λ _=>q,λ _=>of_decide_eq_true this⟩
  ·rw [decide_eq_false q] at this;exact ⟨λ z=>absurd z (of_decide_eq_false this),λ z=>absurd z q⟩
 ·obtain ⟨v,hv,hlt⟩:=hk
  obtain ⟨r,hm,hv'⟩:=List.mem_flatten.mp hv
  have:=(rw_ r hm).2 v hv'
  have h8:=List.all_eq_true.mp hf k (List.mem_range.mpr (by omega))
  rw [Bool.or_eq_true] at h8
  rcases h8 with z | z
  ·exfalso
   have:(t.flatten.any λ v=>decide ((k:Int)<v))=true:=List.any_eq_true.mpr ⟨v,hv,decide_eq_true hlt⟩
   rw [this] at z
   cases z
  ·exact List.contains_iff_mem.mp z
end Mi
namespace G
open PySem L2 Mi
section
variable (A:Hx)
end
section
variable {ns:List Int}{Pt:Addr}{n:Nat}{A:Hx}{t:List (List Int)}
end
end G
namespace Mi
open PySem L2
structure Part (w:W):Prop where
 ty:∃ty,∀A,jg w A=some ty
 dt:∃d,∀A,zZ A 7 w=some d
noncomputable def wu:W->Bool
 | .int _=>true
 | _=>false
inductive yU (A:Hx)(w:W):Prop
 | tup (ws:List W) (e:w=.tup ws) (hl:ws.length<=100) (h:∀x∈ws,Part x)
 | oth (ty:Ty) (h:jg w A=some ty) (hn:ty≠.tup)
inductive jV (A:Hx)(w:W):Prop
 | tup (ws:List W) (e:w=.tup ws) (hl:ws.length<=100) (h:∀x∈ws,yU A x)
 | oth (ty:Ty) (h:jg w A=some ty) (hn:ty≠.tup)
noncomputable def IL (n:Nat)(w:W):Prop:=∃r:List Int,w=zG r/\r.length=n
noncomputable def wm (n:Nat)(w:W):Prop:=∃r:List Int,w=zG r/\r.length=n/\∀v∈r,0<=v/\v<(n:Int)
theorem all_ints:∀{ws:List W},ws.all wu=true->∃r:List Int,ws=r.map W.int
 | [],_=>⟨[],rfl⟩
 | w::ws,h=>by
  rw [List.all_cons,Bool.and_eq_true] at h
  obtain ⟨r,rfl⟩:=all_ints h.2
  cases w with
  | int i=>exact ⟨i::r,rfl⟩
  | _=>cases h.1
theorem Oa (r:List Int):(r.map W.int).all wu=true:=by
 rw [List.all_map];exact List.all_eq_true.mpr λ _ _=>rfl
theorem Jn {α:Type}{A:Hx}(p:α->Bool)(l:List α):Zg (l.map λ x=>W.bl (p x)) A=.ok (.bl (l.all p)) A:=by
 show Zi (λ ks=>ks.all id) _ A=_
 unfold Zi
 rw [Xw]
 dsimp only
 rw [List.all_map]
 rfl
theorem XS {r s:List Int}(h:zG r=zG s):r=s:=by
 unfold zG at h
 injection h with h
 induction r generalizing s with
 | nil=>cases s with
  | nil=>rfl
  | cons _ _=>cases h
 | cons a r ih=>cases s with
  | nil=>cases h
  | cons b s=>
   simp only [List.map_cons,List.cons.injEq] at h
   injection h.1 with h1
   rw [h1,ih h.2]
theorem Qa {j:ji}{st:W->Ex}{N:Nat}{I:Nat->En->Hx->Prop}{p:Nat->Prop}{J:Hx->Prop}{w:W}
  (hs:∀i ρ A,i<N->I i ρ A->∃x,j.at_ A i=some (some x)/\((p i/\∃ρ' A',st x ρ A=.ok (.nx ρ') A'/\I (i+1) ρ' A')∨(¬p i/\∃A',st x ρ A=.ok (.rt w) A'/\J A')))
  (hend:∀ρ A,I N ρ A->j.at_ A N=some none):
  ∀(f i:Nat) (ρ:En) (A:Hx),i+f=N->I i ρ A->((∀k,i<=k->k<N->p k)/\∃ρ' A',jC j st f i ρ A=.ok (.nx ρ') A'/\I N ρ' A')∨((∃k,i<=k/\k<N/\¬p k)/\∃A',jC j st f i ρ A=.ok (.rt w) A'/\J A'):=by
 intro f
 induction f with
 | zero=>
  intro i ρ A h hI
  have:i=N:=by omega
  subst this
  exact .inl ⟨λ k h1 h2=>by omega,ρ,A,Xl (hend _ _ hI),hI⟩
 | succ f ih=>
  intro i ρ A h hI
  obtain ⟨x,h1,h2⟩:=hs i ρ A (by omega) hI
  rcases h2 with ⟨hp,ρ',A',e,hI'⟩ | ⟨hp,A',e,hJ⟩
  ·rw [Vh h1 e]
   rcases ih (i+1) ρ' A' (by omega) hI' with ⟨q,r⟩ | ⟨⟨k,q1,q2,q3⟩,r⟩
   ·refine .inl ⟨λ k k1 k2=>?_,r⟩
    by_cases z:k=i
    ·rw [z];exact hp
    ·exact q k (by omega) k2
   ·exact .inr ⟨⟨k,by omega,q2,q3⟩,r⟩
  ·exact .inr ⟨⟨i,Nat.le_refl _,by omega,hp⟩,A',Oz h1 e,hJ⟩
noncomputable def QJ (t:List (List Int)):Prop:=∀a,a<t.length->∀b,b<t.length->(at2 t a b=0↔a=b)/\at2 t a b=at2 t b a
noncomputable def J5 (t:List (List Int)):Prop:=∀k:Nat,(∃v∈t.flatten,(k:Int)<v)->(k:Int)∈t.flatten
structure ko (t:List (List Int)):Prop where
 n1:1<=t.length
 n8:t.length<=8
 sq:∀r∈t,r.length=t.length
 lo:∀r∈t,∀v∈r,0<=v/\v<(t.length:Int)
noncomputable def IsT (w:W):Prop:=∃t,qW t/\w=zC t
theorem ko.tab {t:List (List Int)}(h:ko t)(e:QJ t)(f:J5 t):qW t:=⟨h.n1,h.n8,h.sq,h.lo,λ a b ha hb=>(e a ha b hb).1,λ a b ha hb=>(e a ha b hb).2,f⟩
theorem OH {s t:List (List Int)}(h:zC s=zC t):s=t:=by
 unfold zC at h
 injection h with h
 induction s generalizing t with
 | nil=>cases t with
  | nil=>rfl
  | cons _ _=>cases h
 | cons a r ih=>cases t with
  | nil=>cases h
  | cons b s=>
   simp only [List.map_cons,List.cons.injEq] at h
   rw [XS h.1,ih h.2]
theorem K1 {t:List (List Int)}(h:ko t):IsT (zC t)↔QJ t/\J5 t:=by
 constructor
 ·rintro ⟨s,hs,e⟩
  obtain rfl:=OH e
  exact ⟨λ a ha b hb=>⟨hs.dg a b ha hb,hs.sy a b ha hb⟩,hs.fu⟩
 ·rintro ⟨e,f⟩
  exact ⟨t,h.tab e f,rfl⟩
theorem Vz {ws:List W}(h1:1<=ws.length)(h8:ws.length<=8)(h:∀w∈ws,wm ws.length w):∃t,ko t/\ws=t.map zG:=by
 have:∀(n:Nat) (ws:List W),(∀w∈ws,wm n w)->∃t:List (List Int),ws=t.map zG/\∀r∈t,r.length=n/\∀v∈r,0<=v/\v<(n:Int):=by
  intro n ws
  induction ws with
  | nil=>intro _;exact ⟨[],rfl,λ _ h=>by cases h⟩
  | cons w ws ih=>
   intro h
   obtain ⟨r,e,hl,hv⟩:=h w (List.mem_cons_self ..)
   obtain ⟨t,e2,ht⟩:=ih λ x hx=>h x (List.mem_cons_of_mem _ hx)
   refine ⟨r::t,by rw [e,e2];rfl,λ s hs=>?_⟩
   rcases List.mem_cons.mp hs with rfl | hs
   ·exact ⟨hl,hv⟩
   ·exact ht s hs
 obtain ⟨t,e,ht⟩:=this ws.length ws h
 have hl:ws.length=t.length:=by rw [e,List.length_map]
 rw [hl] at h1 h8 ht
 exact ⟨t,⟨h1,h8,λ r hr=>(ht r hr).1,λ r hr=>(ht r hr).2⟩,e⟩
theorem Qg {ws:List W}(h:IsT (.tup ws)):1<=ws.length/\ws.length<=8/\∀w∈ws,wm ws.length w:=by
 obtain ⟨t,ht,e⟩:=h
 unfold zC at e
 injection e with e
 subst e
 rw [List.length_map]
 refine ⟨ht.n1,ht.n8,λ w hw=>?_⟩
 obtain ⟨r,hr,rfl⟩:=List.mem_map.mp hw
 exact ⟨r,rfl,ht.sq r hr,ht.lo r hr⟩
end Mi
namespace G
open PySem L2 Mi
theorem Nw {w:W}(h:Part w)(A:Hx):gM [w] A=.ok (.bl (wu w)) A:=by
 obtain ⟨ty,h⟩:=h.ty
 unfold gM Xj
 cases w with
 | ref n=>have:=h [];simp [jg] at this
 | clo _ _ _=>have:=h [];simp [jg] at this
 | xc _=>have:=h [];simp [jg] at this
 | _=>exact qQ (A1:=A) rfl
theorem Pk {w:W}(h:Part w)(A:Hx):kA [w] A=.ok (.bl (wu w)) A:=by
 obtain ⟨ty,h⟩:=h.ty
 unfold kA G0
 cases w with
 | ref n=>have:=h [];simp [jg] at this
 | clo _ _ _=>have:=h [];simp [jg] at this
 | xc _=>have:=h [];simp [jg] at this
 | _=>exact qQ (A1:=A) rfl
theorem WG {ty:Ty}(h:ty≠.tup):yo ty .tup=false:=by
 cases ty<;>first | rfl | exact absurd rfl h
theorem Qw {m:Ev}{ρ:En}{A A1:Hx}{w:W}{ty c:Ty}(h:m ρ A=.ok w A1)(ht:jg w A1=some ty):jA c m ρ A=.ok (.bl (yo ty c)) A1:=by
 unfold jA
 rw [h,zE,ht]
theorem wM {ws:List W}{ρ:En}{i:Nat}{A:Hx}(h:ρ[i]? =some (some (.tup ws))):mQ qh (zS (zc i)) ρ A=.ok (.int ws.length) A:=by
 rw [yS (yQ (w:=.tup ws) (A1:=A) (zA h) rfl)]
 rfl
theorem Pr {w:W}{A:Hx}(h:yU A w)(n:Nat):∃b,gL [w,.int n] A=.ok (.bl b) A/\(b=true↔IL n w):=by
 unfold gL G8
 unfold Y8
 cases h with
 | oth ty ht hn=>
  refine ⟨false,qQ (z9 (qS (Qq ((Qw (A1:=A) (zA (i:=0) rfl) ht).trans (by rw [WG hn]))))),?_⟩
  refine ⟨λ z=>(by cases z),?_⟩
  rintro ⟨r,rfl,_⟩
  simp [zG,jg] at ht
  exact absurd ht.symm hn
 | tup ws e hl hp=>
  subst e
  have el:=wM (ws:=ws) (ρ:=[some (.tup ws),some (.int n)]) (i:=0) (A:=A) rfl
  have e1:=(zJ el (zA (ρ:=[some (.tup ws),some (.int n)]) (A:=A) (i:=1) rfl)).trans (Zp _ _ _)
  have e0:jA .tup (zc 0) [some (.tup ws),some (.int n)] A=.ok (.bl true) A:=rfl
  by_cases q:ws.length=n
  ·have ec:=KN (cap:=[]) (A:=A) (ρ:=[some (.tup ws),some (.int n)]) (ws:=ws) (me:=zH gM (zh (zc 0) (zp))) (g:=λ w=>.bl (wu w)) (zA (i:=0) rfl) (by unfold zW;omega) (λ w hw=>(jj (ws:=[w]) (A1:=A) rfl).trans (Nw (hp w hw) A))
   refine ⟨ws.all wu,qQ (z9 (qS ((g8 e0).trans ((g8 (e1.trans (by rw [decide_eq_true (by omega)]))).trans ((yS ec).trans (Jn wu ws)))))),?_⟩
   constructor
   ·intro z
    obtain ⟨r,rfl⟩:=all_ints z
    rw [List.length_map] at q
    exact ⟨r,rfl,q⟩
   ·rintro ⟨r,e,_⟩
    unfold zG at e
    injection e with e
    rw [e]
    exact Oa r
  ·refine ⟨false,qQ (z9 (qS ((g8 e0).trans (Qq (e1.trans (by rw [decide_eq_false (by omega)])))))),?_⟩
   refine ⟨λ z=>(by cases z),?_⟩
   rintro ⟨r,e,hr⟩
   unfold zG at e
   injection e with e
   rw [e,List.length_map] at q
   exact absurd hr q
theorem VE {ρ:En}{A:Hx}{me:Ev}{v n:Int}{i:Nat}(hi:ρ[i]? =some (some (.int v)))(hn:me ρ A=.ok (.int n) A):jw jN kL (zi (.int 0)) (zc i) me ρ A=.ok (.bl (decide (0<=v)&&decide (v<n))) A:=by
 unfold jw
 rw [qv,zE,zA hi,zE]
 show R.bind (R.ok (W.bl (decide ((0:Int)<=v))) A) _=_
 by_cases h:0<=v
 ·rw [decide_eq_true h,zE]
  dsimp only
  rw [hn,zE]
  rfl
 ·rw [decide_eq_false h,zE]
  rfl
theorem Nk {w:W}{A:Hx}(h:yU A w)(n:Nat):∃b,gI [w,.int n,.int n] A=.ok (.bl b) A/\(b=true↔wm n w):=by
 obtain ⟨b,e,hb⟩:=Pr h n
 unfold gI GP
 unfold Yf
 have e0:zH gL (zh (zc 0) (zh (zc 1) (zp))) [some w,some (.int n),some (.int n)] A=.ok (.bl b) A:=(jj (ws:=[w,.int n]) (A1:=A) rfl).trans e
 cases b with
 | false=>
  refine ⟨false,qQ (z9 (qS (Qq e0))),λ z=>(by cases z),?_⟩
  rintro ⟨r,e1,e2,_⟩
  exact hb.mpr ⟨r,e1,e2⟩
 | true=>
  obtain ⟨r,rfl,hr⟩:=hb.mp rfl
  have hl:r.length<=100:=by
   cases h with
   | tup ws e hl _=>unfold zG at e;injection e with e;rw [<- e,List.length_map] at hl;exact hl
   | oth ty ht hn=>simp [zG,jg] at ht;exact absurd ht.symm hn
  have ec:=XW (cap:=[2]) (A:=A) (ρ:=[some (zG r),some (.int n),some (.int n)]) (o:=r) (f:=W.int) (m:=zc 0) (me:=jw jN kL (zi (.int 0)) (zc 0) (zc 1)) (G:=λ v=>.bl (decide (0<=v)&&decide (v<(n:Int)))) (zA (i:=0) rfl) (by unfold zW;omega) (λ v hv=>VE rfl (zA rfl))
  refine ⟨_,qQ (z9 (qS ((g8 e0).trans ((yS ec).trans (Jn (λ v=>decide (0<=v)&&decide (v<(n:Int))) r))))),?_⟩
  rw [List.all_eq_true]
  constructor
  ·intro z
   exact ⟨r,rfl,hr,λ v hv=>by have:=z v hv;simp at this;exact this⟩
  ·rintro ⟨s,e,_,hs⟩ v hv
   obtain rfl:=XS e
   have:=hs v hv
   simp
   exact this
theorem OX {p q:Prop}{a b:Bool}(h1:a=true↔p)(h2:b=true↔q):(a&&b)=true↔p/\q:=by
 rw [Bool.and_eq_true,h1,h2]
theorem LK {t:List (List Int)}(h:ko t)(A:Hx):∃b,Qc [zC t] A=.ok (.bl b) A/\(b=true↔QJ t):=by
 suffices z:∃b A1,XC [zC t] []=.ok (.bl b) A1/\(b=true↔QJ t) by
  obtain ⟨b,A1,e,hb⟩:=z
  exact ⟨b,Jq (by show ((zC t).nr&&true)=true;rw [Jh];rfl) rfl e,hb⟩
 have hlen:(t.map zG).length=t.length:=List.length_map ..
 rcases Qa (N:=t.length) (p:=λ a=>∀b,b<t.length->(at2 t a b=0↔a=b)/\at2 t a b=at2 t b a) (J:=λ _=>True) (w:=.bl false) (I:=λ _ ρ A=>A=[]/\∃y1 y2 y3 y4,ρ=[some (zC t),y1,y2,y3,y4])
  (j:=km (zC t) (t.map zG).length) (st:=turn (wK 1 2) (zr (jZ (ZS (zc 2)) (wK 3 4) (zr (qw (jH (zj qG (zj qL (zc 4) (zi (.int 0))) (zj qL (zc 1) (zc 3))) (zj qG (zj zz (zj zz (zc 0) (zc 3)) (zc 1)) (zc 4))) (zr (z8 (zi (.bl false))) (zB)) (zB)) (zB))) (zB)))
  (λ a ρ A ha ⟨hA,hρ⟩=>by
   subst hA
   obtain ⟨y1,y2,y3,y4,rfl⟩:=hρ
   have hrl:=h.sq _ (yu ha)
   have hl2:((t.getD a []).map W.int).length=t.length:=by rw [List.length_map,hrl]
   refine ⟨_,Uc (Wi ha),?_⟩
   rcases Qa (N:=t.length) (p:=λ b=>(at2 t a b=0↔a=b)/\at2 t a b=at2 t b a) (J:=λ _=>True) (w:=.bl false) (I:=λ _ ρ A=>A=[]/\∃y3 y4,ρ=[some (zC t),some (.int a),some (zG (t.getD a [])),y3,y4])
    (j:=km (zG (t.getD a [])) ((t.getD a []).map W.int).length) (st:=turn (wK 3 4) (zr (qw (jH (zj qG (zj qL (zc 4) (zi (.int 0))) (zj qL (zc 1) (zc 3))) (zj qG (zj zz (zj zz (zc 0) (zc 3)) (zc 1)) (zc 4))) (zr (z8 (zi (.bl false))) (zB)) (zB)) (zB)))
    (λ b ρ A hb ⟨hA,hρ⟩=>by
     subst hA
     obtain ⟨y3,y4,rfl⟩:=hρ
     have hbl:=h.sq _ (yu hb)
     refine ⟨_,Uc (int_at (by omega)),?_⟩
     have e1:zj qG (zj qL (zc 4) (zi (.int 0))) (zj qL (zc 1) (zc 3)) [some (zC t),some (.int a),some (zG (t.getD a [])),some (.int b),some (.int ((t.getD a []).getD b 0))] []=.ok (.bl (!(decide (at2 t a b=0)==decide ((a:Int)=b)))) []:=
      (zJ ((zJ (zA (i:=4) rfl) (qv (w:=.int 0))).trans (Zp _ _ _)) ((zJ (zA (i:=1) rfl) (zA (i:=3) rfl)).trans (Zp _ _ _))).trans (UN _ _ _)
     have e2:zj qG (zj zz (zj zz (zc 0) (zc 3)) (zc 1)) (zc 4) [some (zC t),some (.int a),some (zG (t.getD a [])),some (.int b),some (.int ((t.getD a []).getD b 0))] []=.ok (.bl (!decide (at2 t b a=at2 t a b))) []:=
      (zJ ((zJ ((zJ (zA (i:=0) rfl) (zA (i:=3) rfl)).trans (Qp hb)) (zA (i:=1) rfl)).trans (Wd (by omega))) (zA (i:=4) rfl)).trans (GH _ _ _)
     by_cases q1:at2 t a b=0↔a=b
     ·have e1':(!(decide (at2 t a b=0)==decide ((a:Int)=b)))=false:=by
       have:decide (at2 t a b=0)=decide ((a:Int)=b):=decide_eq_decide.mpr (q1.trans ⟨λ z=>by omega,λ z=>by omega⟩)
       rw [this];simp
      rw [e1'] at e1
      by_cases q2:at2 t a b=at2 t b a
      ·have e2':(!decide (at2 t b a=at2 t a b))=false:=by rw [decide_eq_true q2.symm];rfl
       rw [e2'] at e2
       exact .inl ⟨⟨q1,q2⟩,_,[],(yt rfl).trans ((zQ ((ym (A1:=[]) ((wJ e1).trans e2)).trans jB)).trans jB),rfl,_,_,rfl⟩
      ·have e2':(!decide (at2 t b a=at2 t a b))=true:=by rw [decide_eq_false (λ z=>q2 z.symm)];rfl
       rw [e2'] at e2
       exact .inr ⟨λ z=>q2 z.2,[],(yt rfl).trans (z9 ((yv (A1:=[]) ((wJ e1).trans e2)).trans (z9 (qS qv)))),trivial⟩
     ·have e1':(!(decide (at2 t a b=0)==decide ((a:Int)=b)))=true:=by
       have:decide (at2 t a b=0)≠decide ((a:Int)=b):=λ z=>q1 ((decide_eq_decide.mp z).trans ⟨λ z=>by omega,λ z=>by omega⟩)
       rw [Bool.not_eq_true',beq_eq_false_iff_ne];exact this
      rw [e1'] at e1
      exact .inr ⟨λ z=>q1 z.1,[],(yt rfl).trans (z9 ((yv (A1:=[]) (Qu e1)).trans (z9 (qS qv)))),trivial⟩)
    (λ ρ A _=>by have:=V3 (A:=A) (ws:=(t.getD a []).map W.int);rw [hl2] at this ⊢;exact this) t.length 0 [some (zC t),some (.int a),some (zG (t.getD a [])),y3,y4] [] (by omega) ⟨rfl,_,_,rfl⟩ with ⟨q,ρ',A',e,rfl,z3,z4,hz⟩ | ⟨⟨k,_,k2,k3⟩,A',e,_⟩
   ·rw [hz] at e
    refine .inl ⟨λ b hb=>q b (Nat.zero_le _) hb,[some (zC t),some (.int a),some (zG (t.getD a [])),z3,z4],[],(yt rfl).trans ((zQ ((yB (Q9 (zA (i:=2) rfl))).trans ?_)).trans jB),rfl,_,_,_,_,rfl⟩
    ·show jC (km (zG (t.getD a [])) ((t.getD a []).map W.int).length) _ ((t.getD a []).map W.int).length 0 _ _=_
     rw [hl2] at e ⊢
     exact e
   ·refine .inr ⟨λ z=>k3 (z k k2),A',(yt rfl).trans (z9 ((yB (Q9 (zA (i:=2) rfl))).trans ?_)),trivial⟩
    show jC (km (zG (t.getD a [])) ((t.getD a []).map W.int).length) _ ((t.getD a []).map W.int).length 0 _ _=_
    rw [hl2] at e ⊢
    exact e)
  (λ ρ A _=>by have:=V3 (A:=A) (ws:=t.map zG);rw [hlen] at this ⊢;exact this) t.length 0 [some (zC t),none,none,none,none] [] (by omega) ⟨rfl,_,_,_,_,rfl⟩ with ⟨q,ρ',A',e,_⟩ | ⟨⟨k,_,k2,k3⟩,A',e,_⟩
 ·refine ⟨true,A',qQ ?_,λ _=>λ a ha=>q a (Nat.zero_le _) ha,λ _=>rfl⟩
  unfold Ja
  refine (zQ (ρ1:=ρ') (A1:=A') ((yB (Q9 (zA (i:=0) rfl))).trans ?_)).trans (z9 (qS qv))
  show jC (km (zC t) (t.map zG).length) _ (t.map zG).length 0 _ _=_
  rw [hlen] at e ⊢
  exact e
 ·refine ⟨false,A',qQ ?_,λ z=>(by cases z),λ z=>absurd (z k k2) k3⟩
  unfold Ja
  refine z9 ((yB (Q9 (zA (i:=0) rfl))).trans ?_)
  show jC (km (zC t) (t.map zG).length) _ (t.map zG).length 0 _ _=_
  rw [hlen] at e ⊢
  exact e
end G
namespace Mi
open PySem L2
theorem Ke:∀(l m:List Int),PyData.eqvAll (l.map PyData.int) (m.map PyData.int)=decide (l=m)
 | [],[]=>by simp [PyData.eqvAll]
 | [],_::_=>by simp [PyData.eqvAll]
 | _::_,[]=>by simp [PyData.eqvAll]
 | a::l,b::m=>by
  simp only [List.map_cons,PyData.eqvAll,Ke l m,PyData.eqv]
  rw [Bool.eq_iff_iff]
  simp
theorem Kr {A:Hx}{n:Nat}:∀l:List Int,jY (zZ A n) (l.map W.int)=some (l.map PyData.int)
 | []=>rfl
 | i::l=>by
  have:zZ A n (.int i)=some (.int i):=by cases n<;>rfl
  show (match zZ A n (.int i),jY (zZ A n) (l.map W.int) with | some d,some ds=>some (d::ds) | _,_=>none)=_
  rw [this,Kr l]
  rfl
theorem ZO {A:Hx}{r:Nat}{l:List Int}(h:A[r]? =some (.lst (l.map W.int))):zZ A 8 (.ref r)=some (.list (l.map PyData.int)):=by
 show (match zT (.ref r) A with | some ws=>(jY (zZ A 7) ws).map PyData.list | none=>none)=_
 have:zT (.ref r) A=some (l.map W.int):=by unfold zT;dsimp only;rw [h]
 rw [this]
 dsimp only
 rw [Kr]
 rfl
theorem Hy {A:Hx}{r s:Nat}{l m:List Int}(h:A[r]? =some (.lst (l.map W.int)))(h2:A[s]? =some (.lst (m.map W.int))):qL (.ref r) (.ref s) A=.ok (.bl (decide (l=m))) A:=by
 show kq false _ _ A=_
 unfold kq
 rw [ZO h,ZO h2]
 dsimp only
 rw [PyData.eqv,Ke]
 rfl
theorem XQ {A:Hx}:∀{ws:List W},(∀x∈ws,Part x)->∃ds,jY (zZ A 7) ws=some ds/\ds.length=ws.length
 | [],_=>⟨[],rfl,rfl⟩
 | w::ws,h=>by
  obtain ⟨d,hd⟩:=(h w (List.mem_cons_self ..)).dt
  obtain ⟨ds,e,hl⟩:=XQ (A:=A) λ x hx=>h x (List.mem_cons_of_mem _ hx)
  refine ⟨d::ds,?_,by simp [hl]⟩
  show (match zZ A 7 w,jY (zZ A 7) ws with | some d,some ds=>some (d::ds) | _,_=>none)=_
  rw [hd,e]
theorem O6 {A:Hx}{r s:Nat}{ws:List W}(h:A[r]? =some (.lst ws))(hp:∀x∈ws,Part x)(h2:A[s]? =some (.lst [])):qG (.ref r) (.ref s) A=.ok (.bl (!ws.isEmpty)) A:=by
 obtain ⟨ds,e,hl⟩:=XQ (A:=A) hp
 have e1:zZ A 8 (.ref r)=some (.list ds):=by
  show (match zT (.ref r) A with | some ws=>(jY (zZ A 7) ws).map PyData.list | none=>none)=_
  have:zT (.ref r) A=some ws:=by unfold zT;dsimp only;rw [h]
  rw [this]
  dsimp only
  rw [e]
  rfl
 show kq true _ _ A=_
 unfold kq
 rw [e1,ZO (l:=[]) h2]
 dsimp only
 rw [if_pos rfl]
 congr 2
 rw [PyData.eqv]
 cases ws with
 | nil=>
  cases ds with
  | nil=>simp [PyData.eqvAll]
  | cons _ _=>simp at hl
 | cons a l=>
  cases ds with
  | nil=>simp at hl
  | cons d ds=>simp [PyData.eqvAll]
theorem VF:∀{l m:List Int},l.Pairwise (·<=·)->m.Pairwise (·<=·)->l.Perm m->l=m
 | [],m,_,_,p=>(List.nil_perm.mp p).symm ▸ rfl
 | a::l,[],_,_,p=>absurd p.length_eq (by simp)
 | a::l,b::m,h1,h2,p=>by
  have hab:a=b:=by
   have ha:a∈b::m:=p.mem_iff.mp (List.mem_cons_self ..)
   have hb:b∈a::l:=p.mem_iff.mpr (List.mem_cons_self ..)
   rcases List.mem_cons.mp ha with e | e
   ·exact e
   ·rcases List.mem_cons.mp hb with e2 | e2
    ·exact e2.symm
    ·have:=(List.pairwise_cons.mp h1).1 b e2
     have:=(List.pairwise_cons.mp h2).1 a e
     omega
  subst hab
  rw [VF (List.pairwise_cons.mp h1).2 (List.pairwise_cons.mp h2).2 ((List.perm_cons a).mp p)]
theorem T6 (n:Nat):((List.range n).map λ (i:Nat)=>(i:Int)).Pairwise (·<=·):=by
 rw [List.pairwise_map]
 exact (List.pairwise_lt_range (n:=n)).imp λ h=>by omega
theorem TF {l m:List Int}(h1:l.Nodup)(h2:m.Nodup)(h:∀x,x∈l↔x∈m):l.Perm m:=List.perm_iff_count.mpr λ x=>by
 rw [h1.count,h2.count]
 by_cases q:x∈l
 ·rw [if_pos q,if_pos ((h x).mp q)]
 ·rw [if_neg q,if_neg λ z=>q ((h x).mpr z)]
theorem Wl:∀{l m:List Int},l.Nodup->(∀x∈l,x∈m)->l.length<=m.length
 | [],_,_,_=>Nat.zero_le _
 | a::l,m,nd,h=>by
  have ha:=h a (List.mem_cons_self ..)
  have:=Wl (l:=l) (m:=m.erase a) (List.nodup_cons.mp nd).2 λ x hx=>by
   have ne:x≠a:=λ e=>(List.nodup_cons.mp nd).1 (e ▸ hx)
   exact (List.mem_erase_of_ne ne).mpr (h x (List.mem_cons_of_mem _ hx))
  rw [List.length_erase_of_mem ha] at this
  have:=List.length_pos_of_mem ha
  rw [List.length_cons]
  omega
theorem Oy {ks:List Int}(nd:ks.Nodup)(hb:∀v∈ks,0<=v):sortI ks=(List.range ks.length).map (λ (i:Nat)=>(i:Int))↔∀k:Nat,(∃v∈ks,(k:Int)<v)->(k:Int)∈ks:=by
 constructor
 ·rintro e k ⟨v,hv,hk⟩
  have p:=sortI_perm ks
  rw [e] at p
  have hv':=p.mem_iff.mpr hv
  obtain ⟨i,hi,rfl⟩:=List.mem_map.mp hv'
  have:=List.mem_range.mp hi
  exact p.mem_iff.mp (List.mem_map.mpr ⟨k,List.mem_range.mpr (by omega),rfl⟩)
 ·intro h
  refine VF (Y2 ks) (T6 _) ((sortI_perm ks).trans ?_)
  have nr:((List.range ks.length).map λ (i:Nat)=>(i:Int)).Nodup:=by
   rw [List.nodup_iff_pairwise_ne,List.pairwise_map]
   exact (List.pairwise_lt_range (n:=ks.length)).imp λ h=>by omega
  have lt:∀v∈ks,v<(ks.length:Int):=by
   intro v hv
   obtain ⟨n,rfl⟩:=Int.eq_ofNat_of_zero_le (hb v hv)
   have sub:∀x∈((List.range (n+1)).map λ (i:Nat)=>(i:Int)),x∈ks:=λ x hx=>by
    obtain ⟨i,hi,rfl⟩:=List.mem_map.mp hx
    have:=List.mem_range.mp hi
    by_cases q:i=n
    ·rw [q];exact hv
    ·exact h i ⟨_,hv,by omega⟩
   have nd2:((List.range (n+1)).map λ (i:Nat)=>(i:Int)).Nodup:=by
    rw [List.nodup_iff_pairwise_ne,List.pairwise_map]
    exact (List.pairwise_lt_range (n:=n+1)).imp λ h=>by omega
   have:=Wl nd2 sub
   rw [List.length_map,List.length_range] at this
   omega
  refine TF nd nr λ x=>⟨λ hx=>?_,λ hx=>?_⟩
  ·obtain ⟨n,rfl⟩:=Int.eq_ofNat_of_zero_le (hb x hx)
   have:=lt _ hx
   exact List.mem_map.mpr ⟨n,List.mem_range.mpr (by omega),rfl⟩
  ·refine Classical.byContradiction λ q=>?_
   have:=Wl (m:=((List.range ks.length).map λ (i:Nat)=>(i:Int)).erase x) nd λ y hy=>by
    obtain ⟨n,rfl⟩:=Int.eq_ofNat_of_zero_le (hb y hy)
    have:=lt _ hy
    have ne:(n:Int)≠x:=λ e=>q (e ▸ hy)
    exact (List.mem_erase_of_ne ne).mpr (List.mem_map.mpr ⟨n,List.mem_range.mpr (by omega),rfl⟩)
   rw [List.length_erase_of_mem hx,List.length_map,List.length_range] at this
   have h2:=List.length_pos_of_mem hx
   rw [List.length_map,List.length_range] at h2
   omega
end Mi
namespace G
open PySem L2 Mi
theorem Pg {t:List (List Int)}(h:ko t):t.flatten.length<=64:=by
 have:∀l:List (List Int),(∀r∈l,r.length<=8)->l.flatten.length<=8 * l.length:=by
  intro l
  induction l with
  | nil=>intro _;simp
  | cons r l ih=>
   intro hr
   have h1:=hr r (List.mem_cons_self ..)
   have h2:=ih λ r' hr'=>hr r' (List.mem_cons_of_mem _ hr')
   rw [List.flatten_cons,List.length_append,List.length_cons]
   omega
 have h8:=h.n8
 have:=this t λ r hr=>by rw [h.sq r hr];exact h.n8
 omega
theorem OS {t:List (List Int)}(h:ko t)(A:Hx):∃b,Z1 [zC t] A=.ok (.bl b) A/\(b=true↔J5 t):=by
 have hfl:=Pg h
 have hne:t.flatten≠[]:=by
  intro e
  have h1:=h.n1
  have hr:=h.sq _ (yu (t:=t) (a:=0) (by omega))
  have:t.getD 0 []=[]:=by
   have:=List.flatten_eq_nil_iff.mp e _ (yu (t:=t) (a:=0) (by omega))
   exact this
  rw [this] at hr
  simp at hr
  omega
 obtain ⟨v0,l0,el⟩:=List.exists_cons_of_ne_nil hne
 suffices z:∃b,GN [zC t] []=.ok (.bl b) [.lst (t.flatten.map W.int)]/\(b=true↔J5 t) by
  obtain ⟨b,e,hb⟩:=z
  exact ⟨b,Jq (by show ((zC t).nr&&true)=true;rw [Jh];rfl) rfl e,hb⟩
 have hmax:jy l0 v0∈t.flatten:=by
  rw [el]
  rcases KH l0 v0 with e | e
  ·rw [e];exact List.mem_cons_self ..
  ·exact List.mem_cons_of_mem _ e
 have hge:∀v∈t.flatten,v<=jy l0 v0:=by
  rw [el]
  intro v hv
  have:=Qi l0 v0
  rcases List.mem_cons.mp hv with rfl | hv
  ·exact this.1
  ·exact this.2 v hv
 have hb:0<=jy l0 v0/\jy l0 v0<8:=by
  obtain ⟨r,hr,hv⟩:=List.mem_flatten.mp hmax
  have:=h.lo r hr _ hv
  have:=h.n8
  omega
 have em:mQ j8 (zS (zc 1)) [some (zC t),some (.ref 0)] [.lst (t.flatten.map W.int)]=.ok (.int (jy l0 v0)) [.lst (t.flatten.map W.int)]:=by
  rw [yS (yQ (w:=.ref 0) (A1:=[.lst (t.flatten.map W.int)]) (ws:=t.flatten.map W.int) (zA rfl) rfl)]
  unfold j8
  rw [QZ,el]
 generalize jy l0 v0=M at em hmax hb hge
 obtain ⟨K,rfl⟩:=Int.eq_ofNat_of_zero_le hb.1
 have ec:=gO (cap:=[1]) (me:=zj J2 (zc 0) (zc 1)) (ρ:=[some (zC t),some (.ref 0)]) (A:=[.lst (t.flatten.map W.int)]) (N:=K) (j:=yh 0 K) (item:=λ i=>.int (0+i)) (g:=λ (i:Nat)=>.bl (decide ((i:Int)∈t.flatten)))
  ((ZG em (by unfold jk;simp;omega)).trans (by rw [Int.toNat_natCast])) rfl (by unfold zW;omega) (λ i hi=>gp hi) (gf (by omega))
  (λ i hi=>by
   refine (zJ (zA (i:=0) (w:=.int (0+i)) rfl) (zA (i:=1) (w:=.ref 0) rfl)).trans ?_
   show Zm false _ _ _=_
   unfold Zm
   have hs:zT (.ref 0) [O.lst (t.flatten.map W.int)]=some (t.flatten.map W.int):=rfl
   rw [hs]
   dsimp only
   have hf:(ki (.int (0+(i:Int)))&&(t.flatten.map W.int).all ki)=true:=by
    have:(t.flatten.map W.int).all ki=true:=List.all_eq_true.mpr λ w hw=>by obtain ⟨x,_,rfl⟩:=List.mem_map.mp hw;rfl
    rw [this];rfl
   rw [if_pos hf]
   have hin:ZZ (.int (0+(i:Int))) (t.flatten.map W.int)=decide ((i:Int)∈t.flatten):=by
    rw [Bool.eq_iff_iff,decide_eq_true_iff]
    unfold ZZ
    rw [List.any_eq_true]
    constructor
    ·rintro ⟨w,hw,e⟩
     obtain ⟨x,hx,rfl⟩:=List.mem_map.mp hw
     have:(x==0+(i:Int))=true:=e
     have:x=0+(i:Int):=eq_of_beq this
     rw [Int.zero_add] at this
     exact this ▸ hx
    ·intro z
     refine ⟨.int i,List.mem_map.mpr ⟨(i:Int),z,rfl⟩,?_⟩
     show ((i:Int)==0+(i:Int))=true
     rw [Int.zero_add];exact beq_self_eq_true _
   rw [hin]
   rfl)
 refine ⟨(List.range K).all λ (i:Nat)=>decide ((i:Int)∈t.flatten),qQ ?_,?_⟩
 ·unfold Yc
  refine (zQ (ρ1:=[some (zC t),some (.ref 0)]) (A1:=[.lst (t.flatten.map W.int)]) ((qz (kU (O7 (zA rfl) (by unfold zW;omega)))).trans rfl)).trans (z9 (qS ?_))
  exact (yS ec).trans (Jn _ _)
 ·rw [List.all_eq_true]
  constructor
  ·rintro z k ⟨v,hv,hk⟩
   have:=hge v hv
   exact of_decide_eq_true (z k (List.mem_range.mpr (by omega)))
  ·intro z k hk
   have:=List.mem_range.mp hk
   exact decide_eq_true (z k ⟨_,hmax,by omega⟩)
theorem OW {ρ:En}{A:Hx}{me:Ev}{n:Nat}(hn:me ρ A=.ok (.int n) A):jw jN jN (zi (.int 1)) me (zi (.int 8)) ρ A=.ok (.bl (decide (1<=n)&&decide (n<=8))) A:=by
 unfold jw
 rw [qv,zE,hn,zE]
 show R.bind (R.ok (W.bl (decide ((1:Int)<=n))) A) _=_
 by_cases h:1<=n
 ·rw [decide_eq_true (show (1:Int)<=n by omega),zE,decide_eq_true h]
  dsimp only
  rw [qv,zE]
  show R.ok (W.bl (decide ((n:Int)<=8))) A=_
  rw [Bool.true_and]
  congr 2
  exact decide_eq_decide.mpr ⟨λ z=>by omega,λ z=>by omega⟩
 ·rw [decide_eq_false (show ¬(1:Int)<=n by omega),zE,decide_eq_false h]
  rfl
theorem VG {w:W}{A:Hx}{ρ:En}(h:jV A w)(h0:ρ[0]? =some (some w)):(jH (qK (jA .tup (zc 0))) (qK (jw jN jN (zi (.int 1)) (mQ qh (zS (zc 0))) (zi (.int 8)))) ρ A=.ok (.bl true) A/\¬IsT w)∨
  (∃ws,w=.tup ws/\1<=ws.length/\ws.length<=8/\(∀x∈ws,yU A x)/\jH (qK (jA .tup (zc 0))) (qK (jw jN jN (zi (.int 1)) (mQ qh (zS (zc 0))) (zi (.int 8)))) ρ A=.ok (.bl false) A):=by
 cases h with
 | oth ty ht hn=>
  refine .inl ⟨Qu (wG (k:=false) ((Qw (zA h0) ht).trans (by rw [WG hn]))),?_⟩
  rintro ⟨t,_,rfl⟩
  simp [zC,jg] at ht
  exact absurd ht.symm hn
 | tup ws e hl hr=>
  subst e
  have e0:qK (jA .tup (zc 0)) ρ A=.ok (.bl false) A:=wG (k:=true) ((Qw (zA h0) rfl).trans rfl)
  have e1:=wG (OW (wM (A:=A) h0))
  by_cases q:1<=ws.length/\ws.length<=8
  ·refine .inr ⟨ws,rfl,q.1,q.2,hr,(wJ e0).trans (e1.trans ?_)⟩
   rw [decide_eq_true q.1,decide_eq_true q.2];rfl
  ·refine .inl ⟨(wJ e0).trans (e1.trans ?_),λ z=>q ⟨(Qg z).1,(Qg z).2.1⟩⟩
   by_cases q1:1<=ws.length
   ·rw [decide_eq_true q1,decide_eq_false λ z=>q ⟨q1,z⟩];rfl
   ·rw [decide_eq_false q1];rfl
theorem pick {α:Type}{P:α->Bool->Prop}{l:List α}(h:∀x∈l,∃b,P x b):∃f:α->Bool,∀x∈l,P x (f x):=by
 classical
 refine ⟨λ x=>if hx:x∈l then (h x hx).choose else false,λ x hx=>?_⟩
 have:(if hx:x∈l then (h x hx).choose else false)=(h x hx).choose:=dif_pos hx
 show P x (if hx:x∈l then (h x hx).choose else false)
 rw [this]
 exact (h x hx).choose_spec
theorem KP {w:W}{A:Hx}(h:jV A w):∃b,yI [w] A=.ok (.bl b) A/\(b=true↔IsT w):=by
 unfold yI Xi
 unfold Kl
 rcases VG (ρ:=[some w,none]) h rfl with ⟨e,hn⟩ | ⟨ws,rfl,h1,h8,hr,e⟩
 ·exact ⟨false,qQ (z9 ((yv e).trans (z9 (qS qv)))),λ z=>(by cases z),λ z=>absurd z hn⟩
 ·obtain ⟨f,hf⟩:=pick λ x hx=>Nk (hr x hx) ws.length
  have ec:=KN (cap:=[1]) (A:=A) (ρ:=[some (.tup ws),some (.int ws.length)]) (ws:=ws) (me:=zH gI (zh (zc 0) (zh (zc 1) (zh (zc 1) (zp))))) (g:=λ x=>.bl (f x)) (zA (i:=0) rfl) (by unfold zW;omega) (λ x hx=>(jj (ws:=[x,.int ws.length,.int ws.length]) (A1:=A) rfl).trans (hf x hx).1)
  have ea:=wG ((yS ec).trans (Jn f ws))
  have go:∀(m1 m2 m3:Ex) (c:Ev),zr (qw (jH (qK (jA .tup (zc 0))) (qK (jw jN jN (zi (.int 1)) (mQ qh (zS (zc 0))) (zi (.int 8))))) m1 zB) (zr (zX 1 (mQ qh (zS (zc 0)))) m2) [some (.tup ws),none] A=m2 [some (.tup ws),some (.int ws.length)] A:=λ m1 m2 m3 c=>
   (zQ ((ym e).trans jB)).trans (zQ ((qz (wM rfl)).trans rfl))
  by_cases q:ws.all f=true
  ·rw [q] at ea
   have hg:∀x∈ws,wm ws.length x:=λ x hx=>(hf x hx).2.mp (List.all_eq_true.mp q x hx)
   obtain ⟨t,gt,et⟩:=Vz h1 h8 hg
   have ew:W.tup ws=zC t:=by rw [et];rfl
   obtain ⟨b1,e1,k1⟩:=LK gt A
   obtain ⟨b2,e2,k2⟩:=OS gt A
   refine ⟨b1&&b2,qQ ((go _ _ zB wj).trans ((zQ ((ym ea).trans jB)).trans (z9 (qS ?_)))),?_⟩
   ·rw [ew]
    cases b1 with
    | true=>exact (g8 ((jj (ws:=[zC t]) (A1:=A) rfl).trans e1)).trans ((jj (ws:=[zC t]) (A1:=A) rfl).trans e2)
    | false=>exact Qq ((jj (ws:=[zC t]) (A1:=A) rfl).trans e1)
   ·rw [ew,K1 gt]
    exact OX k1 k2
  ·have q':ws.all f=false:=by cases h:ws.all f<;>simp_all
   rw [q'] at ea
   refine ⟨false,qQ ((go _ _ zB wj).trans (z9 ((yv ea).trans (z9 (qS qv))))),λ z=>(by cases z),λ z=>?_⟩
   exact absurd (List.all_eq_true.mpr λ x hx=>(hf x hx).2.mpr ((Qg z).2.2 x hx)) q
end G
namespace Mi
open PySem L2
noncomputable def Ky (A B:Hx):Prop:=∀w ty,jg w A=some ty->jg w B=some ty
theorem Ext.ky {A B:Hx}(x:Ext A B):Ky A B:=λ w ty h=>by
 cases w with
 | ref n=>
  unfold jg at h ⊢
  dsimp only at h ⊢
  cases e:A[n]? with
  | none=>rw [e] at h;cases h
  | some o=>rw [e] at h;rw [x.at e];exact h
 | _=>exact h
theorem Ky.trans {A B C:Hx}(a:Ky A B)(b:Ky B C):Ky A C:=λ w ty h=>b w ty (a w ty h)
theorem yU.mono {A B:Hx}{w:W}(k:Ky A B)(h:yU A w):yU B w:=by
 cases h with
 | tup ws e hl h=>exact .tup ws e hl h
 | oth ty h hn=>exact .oth ty (k _ _ h) hn
theorem jV.mono {A B:Hx}{w:W}(k:Ky A B)(h:jV A w):jV B w:=by
 cases h with
 | tup ws e hl h=>exact .tup ws e hl λ x hx=>(h x hx).mono k
 | oth ty h hn=>exact .oth ty (k _ _ h) hn
noncomputable def Zj (n:Nat):W->Bool
 | .int v=>!(decide (0<=v)&&decide (v<(n:Int)))
 | _=>true
theorem XY {ws:List W}{n:Nat}(hl:ws.length=n):wm n (.tup ws)↔∀w∈ws,Zj n w=false:=by
 constructor
 ·rintro ⟨r,e,_,hv⟩ w hw
  unfold zG at e
  injection e with e
  rw [e] at hw
  obtain ⟨v,hv',rfl⟩:=List.mem_map.mp hw
  obtain ⟨a,b⟩:=hv v hv'
  show (!(decide (0<=v)&&decide (v<(n:Int))))=false
  rw [decide_eq_true a,decide_eq_true b]
  rfl
 ·intro h
  have:ws.all wu=true:=List.all_eq_true.mpr λ w hw=>by
   have:=h w hw
   cases w with
   | int v=>rfl
   | _=>cases this
  obtain ⟨r,rfl⟩:=all_ints this
  refine ⟨r,rfl,by rw [<- hl,List.length_map],λ v hv=>?_⟩
  have:=h _ (List.mem_map.mpr ⟨v,hv,rfl⟩)
  unfold Zj at this
  simp at this
  omega
noncomputable def DK (kvs:List (Key × W))(ks:List Int):Prop:=kvs.map (·.1)=ks.map Sum.inl
theorem DK.any {kvs:List (Key × W)}{ks:List Int}(h:DK kvs ks)(v:Int):(kvs.any λ kv=>decide (kv.1=.inl v))=decide (v∈ks):=by
 have:(kvs.any λ kv=>decide (kv.1=.inl v))=(kvs.map (·.1)).any λ k=>decide (k=.inl v):=by rw [List.any_map];rfl
 rw [this,h,List.any_map,Bool.eq_iff_iff,List.any_eq_true,decide_eq_true_iff]
 constructor
 ·rintro ⟨x,hx,e⟩
  have:(Sum.inl x:Key)=.inl v:=of_decide_eq_true e
  injection this with this
  exact this ▸ hx
 ·intro hv
  exact ⟨v,hv,decide_eq_true rfl⟩
theorem DK.put {kvs:List (Key × W)}{ks:List Int}(h:DK kvs ks)(v:Int)(w:W):DK (gE kvs (.inl v) w) (if v∈ks then ks else ks++[v]):=by
 unfold gE
 rw [h.any]
 by_cases q:v∈ks
 ·rw [decide_eq_true q,if_pos rfl,if_pos q]
  unfold DK at h ⊢
  rw [<- h,List.map_map]
  apply List.map_congr_left
  intro kv _
  show (if kv.1=.inl v then (kv.1,w) else kv).1=kv.1
  split<;>rfl
 ·rw [decide_eq_false q,if_neg (by simp),if_neg q]
  unfold DK at h ⊢
  rw [List.map_append,List.map_append,h]
  rfl
theorem DK.len {kvs:List (Key × W)}{ks:List Int}(h:DK kvs ks):kvs.length=ks.length:=by
 have:=congrArg List.length h
 rwa [List.length_map,List.length_map] at this
theorem XJ:∀ks:List Int,gC (ks.map Sum.inl)=some ks
 | []=>rfl
 | k::ks=>by
  show (gC (ks.map Sum.inl)).map (k::·)=_
  rw [XJ ks]
  rfl
theorem Od {A:Hx}{n:Nat}{kvs:List (Key × W)}{v:Int}{w:W}(h:A[n]? =some (.dct kvs))(hl:kvs.length<1000):kI (.ref n) (.int v) w A=.ok () (A.set n (.dct (gE kvs (.inl v) w))):=by
 unfold kI Gp
 dsimp only
 rw [h]
 dsimp only
 rw [if_pos (by unfold zW;omega)]
end Mi
namespace G
open PySem L2 Mi
theorem SX {w:W}(h:Part w){n:Nat}{A:Hx}{me:Ev}{ρ:En}(h0:ρ[0]? =some (some w))(hn:me ρ A=.ok (.int n) A):jH (qK (zH kA (zh (zc 0) (zp)))) (qK (jw jN kL (zi (.int 0)) (zc 0) me)) ρ A=.ok (.bl (Zj n w)) A:=by
 have e1:qK (zH kA (zh (zc 0) (zp))) ρ A=.ok (.bl (!wu w)) A:=wG ((jj (qR (zA h0) je)).trans (Pk h A))
 cases w with
 | int v=>exact (wJ e1).trans (wG (VE h0 hn))
 | _=>exact Qu e1
noncomputable abbrev JP:Ex:=zr (qw (jH (qK (jA .tup (zc 1))) (zj qG (mQ qh (zS (zc 1))) (mQ qh (zS (zc 0))))) (zr (z8 (zi (.bl false))) (zB)) (zB)) (zr (qw (zj qG (z7 (zR 1 [0] (qc (zc 1)) (zD 0) (jH (qK (zH kA (zh (zc 0) (zp)))) (qK (jw jN kL (zi (.int 0)) (zc 0) (mQ qh (zS (zc 1)))))) (zN (zc 0)))) (zY (zp))) (zr (z8 (zi (.bl false))) (zB)) (zB)) (zB))
theorem Oj {w:W}{ws:List W}{A:Hx}(h:yU A w){y2 y3 y4:Option W}:(wm ws.length w/\∃A',JP [some (.tup ws),some w,y2,y3,y4] A=.ok (.nx [some (.tup ws),some w,y2,y3,y4]) A'/\Ext A A')∨(¬wm ws.length w/\∃A',JP [some (.tup ws),some w,y2,y3,y4] A=.ok (.rt (.bl false)) A'/\Ext A A'):=by
 cases h with
 | oth ty ht hn=>
  refine .inr ⟨?_,A,z9 ((yv (Qu (wG (k:=false) ((Qw (zA (i:=1) rfl) ht).trans (by rw [WG hn]))))).trans (z9 (qS qv))),Ext.refl⟩
  rintro ⟨r,rfl,_⟩
  simp [zG,jg] at ht
  exact absurd ht.symm hn
 | tup us e hl hp=>
  subst e
  have e0:qK (jA .tup (zc 1)) [some (.tup ws),some (.tup us),y2,y3,y4] A=.ok (.bl false) A:=wG (k:=true) ((Qw (zA (i:=1) rfl) rfl).trans rfl)
  have e1:=(zJ (wM (ρ:=[some (.tup ws),some (.tup us),y2,y3,y4]) (i:=1) (A:=A) rfl) (wM (i:=0) rfl)).trans (GH _ _ _)
  by_cases q:us.length=ws.length
  ·have ec:=Xe (cap:=[0]) (ρ:=[some (.tup ws),some (.tup us),y2,y3,y4]) (A:=A) (ifs:=jH (qK (zH kA (zh (zc 0) (zp)))) (qK (jw jN kL (zi (.int 0)) (zc 0) (mQ qh (zS (zc 1)))))) (me:=zc 0) (N:=us.length) (item:=λ i=>us.getD i .non) (g:=λ i=>us.getD i .non) (keep:=λ i=>Zj ws.length (us.getD i .non)) (gj (zA (i:=1) rfl)) rfl (by unfold zW;omega)
    (λ i hi=>by show some us[i]? =_;rw [List.getElem?_eq_getElem hi,List.getD_eq_getElem?_getD,List.getElem?_eq_getElem hi];rfl)
    (by show some us[us.length]? =_;rw [List.getElem?_eq_none (Nat.le_refl _)])
    (λ i hi=>by
     have hm:us.getD i .non∈us:=by rw [List.getD_eq_getElem?_getD,List.getElem?_eq_getElem hi];exact List.getElem_mem hi
     exact SX (hp _ hm) rfl (wM (i:=1) rfl))
    (λ i hi _=>zA rfl)
   have hlp:∀x∈(((List.range us.length).filter λ i=>Zj ws.length (us.getD i .non)).map λ i=>us.getD i .non),Part x:=λ x hx=>by
    obtain ⟨i,hi,rfl⟩:=List.mem_map.mp hx
    have hi:=List.mem_range.mp (List.mem_filter.mp hi).1
    have hm:us.getD i .non∈us:=by rw [List.getD_eq_getElem?_getD,List.getElem?_eq_getElem hi];exact List.getElem_mem hi
    exact hp _ hm
   generalize hL:(((List.range us.length).filter λ i=>Zj ws.length (us.getD i .non)).map λ i=>us.getD i .non)=L at ec hlp
   have e2:zj qG (z7 (zR 1 [0] (qc (zc 1)) (zD 0) (jH (qK (zH kA (zh (zc 0) (zp)))) (qK (jw jN kL (zi (.int 0)) (zc 0) (mQ qh (zS (zc 1)))))) (zN (zc 0)))) (zY (zp)) [some (.tup ws),some (.tup us),y2,y3,y4] A=.ok (.bl (!L.isEmpty)) (A++[.lst L]++[.lst []]):=
    (zJ (kU ec) (j5 je)).trans (O6 (yk qZ) hlp (by have:=qZ (A:=A++[.lst L]) (u:=.lst []);exact this))
   have hx:Ext A (A++[.lst L]++[.lst []]):=Ext.app Ext.one
   have e01:=(wJ e0).trans (e1.trans (by rw [decide_eq_true (show (us.length:Int)=ws.length by omega)]<;>rfl))
   cases L with
   | nil=>
    refine .inl ⟨(XY q).mpr λ w hw=>?_,_,(zQ ((ym e01).trans jB)).trans ((zQ ((ym e2).trans jB)).trans jB),hx⟩
    obtain ⟨i,hi,rfl⟩:=List.getElem_of_mem hw
    have hn:=List.map_eq_nil_iff.mp hL
    have:=List.filter_eq_nil_iff.mp hn i (List.mem_range.mpr hi)
    rw [List.getD_eq_getElem?_getD,List.getElem?_eq_getElem hi] at this
    simpa using this
   | cons x L=>
    refine .inr ⟨λ z=>?_,_,(zQ ((ym e01).trans jB)).trans (z9 ((yv e2).trans (z9 (qS qv)))),hx⟩
    have hx':x∈(((List.range us.length).filter λ i=>Zj ws.length (us.getD i .non)).map λ i=>us.getD i .non):=by rw [hL];exact List.mem_cons_self ..
    obtain ⟨i,hi,e⟩:=List.mem_map.mp hx'
    obtain ⟨hi1,hi2⟩:=List.mem_filter.mp hi
    have hi1:=List.mem_range.mp hi1
    have hm:us.getD i .non∈us:=by rw [List.getD_eq_getElem?_getD,List.getElem?_eq_getElem hi1];exact List.getElem_mem hi1
    have:=(XY q).mp z _ hm
    rw [this] at hi2
    cases hi2
  ·refine .inr ⟨?_,A,z9 ((yv ((wJ e0).trans (e1.trans (by rw [decide_eq_false (show ¬(us.length:Int)=ws.length by omega)];rfl)))).trans (z9 (qS qv))),Ext.refl⟩
   rintro ⟨r,e,hr,_⟩
   unfold zG at e
   injection e with e
   rw [e,List.length_map] at q
   exact absurd hr q
noncomputable def Seen (t:List (List Int))(a b:Nat)(ks:List Int):Prop:=∀v,v∈ks↔∃i j,(i<a∨(i=a/\j<b))/\i<t.length/\j<t.length/\at2 t i j=v
structure DS (t:List (List Int))(A:Hx)(D a b:Nat)(B:Hx):Prop where
 ext:Ext A B
 hD:A.length<=D
 d:∃kvs ks,B[D]? =some (.dct kvs)/\DK kvs ks/\ks.Nodup/\Seen t a b ks
section
variable {t:List (List Int)}{A B:Hx}{D a b:Nat}
theorem Vt (h:ko t){i j:Nat}(hi:i<t.length)(hj:j<t.length):0<=at2 t i j/\at2 t i j<8:=by
 obtain ⟨r,hr,h1,_⟩:=ZJ h.sq hi hj
 have:=h.lo r hr _ h1
 have:=h.n8
 omega
theorem X8 (h:ko t){ks:List Int}(nd:ks.Nodup)(s:Seen t a b ks):ks.length<=8:=Js 8 ks nd λ r hr=>by
 obtain ⟨i,j,_,hi,hj,rfl⟩:=(s r).mp hr
 exact Vt h hi hj
theorem DS.put (h:ko t)(s:DS t A D a b B)(ha:a<t.length)(hb:b<t.length):∃B',kI (.ref D) (.int (at2 t a b)) (.bl true) B=.ok () B'/\DS t A D a (b+1) B':=by
 obtain ⟨kvs,ks,e,dk,nd,sn⟩:=s.d
 have hl:=X8 h nd sn
 refine ⟨_,Od e (by rw [dk.len];omega),s.ext.set s.hD,s.hD,_,_,List.getElem?_set_self (kB e),dk.put _ _,?_,?_⟩
 ·split
  ·exact nd
  ·rw [List.nodup_append]
   exact ⟨nd,by simp,λ x hx y hy=>by have:=List.mem_singleton.mp hy;subst this;exact λ z=>by rename_i q;exact q (z ▸ hx)⟩
 ·intro v
  have key:(∃i j,(i<a∨(i=a/\j<b+1))/\i<t.length/\j<t.length/\at2 t i j=v)↔(v∈ks∨v=at2 t a b):=by
   rw [sn v]
   constructor
   ·rintro ⟨i,j,h1,h2,h3,h4⟩
    by_cases q:i=a/\j=b
    ·exact .inr (by rw [<- h4,q.1,q.2])
    ·exact .inl ⟨i,j,by omega,h2,h3,h4⟩
   ·rintro (⟨i,j,h1,h2,h3,h4⟩ | rfl)
    ·exact ⟨i,j,by omega,h2,h3,h4⟩
    ·exact ⟨a,b,.inr ⟨rfl,by omega⟩,ha,hb,rfl⟩
  rw [key]
  split
  ·rename_i q
   exact ⟨λ z=>.inl z,λ z=>z.elim id λ e=>e ▸ q⟩
  ·rw [List.mem_append,List.mem_singleton]
noncomputable abbrev J0:Ex:=zr (jK kI (zi (.bl true)) (zc 2) (zj zz (zj zz (zc 0) (zc 3)) (zc 4))) (zr (qw (jH (zj qG (zj qL (zj zz (zj zz (zc 0) (zc 3)) (zc 4)) (zi (.int 0))) (zj qL (zc 3) (zc 4))) (zj qG (zj zz (zj zz (zc 0) (zc 3)) (zc 4)) (zj zz (zj zz (zc 0) (zc 4)) (zc 3)))) (zr (z8 (zi (.bl false))) (zB)) (zB)) (zB))
theorem JX (h:ko t){ρ:En}{i j:Nat}(h0:ρ[0]? =some (some (zC t)))(hi:ρ[i]? =some (some (.int (a:Int))))(hj:ρ[j]? =some (some (.int (b:Int))))(la:a<t.length)(lb:b<t.length):zj zz (zj zz (zc 0) (zc i)) (zc j) ρ B=.ok (.int (at2 t a b)) B:=
 (zJ ((zJ (zA h0) (zA hi)).trans (Qp la)) (zA hj)).trans (Wd (by rw [h.sq _ (yu la)];exact lb))
theorem Rk (h:ko t)(s:DS t A D a b B)(ha:a<t.length)(hb:b<t.length){y1:Option W}:(((at2 t a b=0↔a=b)/\at2 t a b=at2 t b a)/\∃B',J0 [some (zC t),y1,some (.ref D),some (.int (a:Int)),some (.int (b:Int))] B=.ok (.nx [some (zC t),y1,some (.ref D),some (.int (a:Int)),some (.int (b:Int))]) B'/\DS t A D a (b+1) B')∨
  (¬((at2 t a b=0↔a=b)/\at2 t a b=at2 t b a)/\∃B',J0 [some (zC t),y1,some (.ref D),some (.int (a:Int)),some (.int (b:Int))] B=.ok (.rt (.bl false)) B'/\Ext A B'):=by
 obtain ⟨B',e,s'⟩:=s.put h ha hb
 have es:jK kI (zi (.bl true)) (zc 2) (zj zz (zj zz (zc 0) (zc 3)) (zc 4)) [some (zC t),y1,some (.ref D),some (.int (a:Int)),some (.int (b:Int))] B=.ok (.nx [some (zC t),y1,some (.ref D),some (.int (a:Int)),some (.int (b:Int))]) B':=by
  unfold jK
  rw [qv,zE,zA (i:=2) rfl,zE,JX h rfl rfl rfl ha hb,zE,e,zE]
 have e1:zj qG (zj qL (zj zz (zj zz (zc 0) (zc 3)) (zc 4)) (zi (.int 0))) (zj qL (zc 3) (zc 4)) [some (zC t),y1,some (.ref D),some (.int (a:Int)),some (.int (b:Int))] B'=.ok (.bl (!(decide (at2 t a b=0)==decide ((a:Int)=b)))) B':=
  (zJ ((zJ (JX h rfl rfl rfl ha hb) (qv (w:=.int 0))).trans (Zp _ _ _)) ((zJ (zA (i:=3) rfl) (zA (i:=4) rfl)).trans (Zp _ _ _))).trans (UN _ _ _)
 have e2:zj qG (zj zz (zj zz (zc 0) (zc 3)) (zc 4)) (zj zz (zj zz (zc 0) (zc 4)) (zc 3)) [some (zC t),y1,some (.ref D),some (.int (a:Int)),some (.int (b:Int))] B'=.ok (.bl (!decide (at2 t a b=at2 t b a))) B':=
  (zJ (JX h rfl rfl rfl ha hb) (JX h rfl rfl rfl hb ha)).trans (GH _ _ _)
 by_cases q1:at2 t a b=0↔a=b
 ·have e1':(!(decide (at2 t a b=0)==decide ((a:Int)=b)))=false:=by
   have:decide (at2 t a b=0)=decide ((a:Int)=b):=decide_eq_decide.mpr (q1.trans ⟨λ z=>by omega,λ z=>by omega⟩)
   rw [this];simp
  rw [e1'] at e1
  by_cases q2:at2 t a b=at2 t b a
  ·have e2':(!decide (at2 t a b=at2 t b a))=false:=by rw [decide_eq_true q2];rfl
   rw [e2'] at e2
   exact .inl ⟨⟨q1,q2⟩,B',(zQ es).trans ((zQ ((ym ((wJ e1).trans e2)).trans jB)).trans jB),s'⟩
  ·have e2':(!decide (at2 t a b=at2 t b a))=true:=by rw [decide_eq_false q2];rfl
   rw [e2'] at e2
   exact .inr ⟨λ z=>q2 z.2,B',(zQ es).trans (z9 ((yv ((wJ e1).trans e2)).trans (z9 (qS qv)))),s'.ext⟩
 ·have e1':(!(decide (at2 t a b=0)==decide ((a:Int)=b)))=true:=by
   have:decide (at2 t a b=0)≠decide ((a:Int)=b):=λ z=>q1 ((decide_eq_decide.mp z).trans ⟨λ z=>by omega,λ z=>by omega⟩)
   rw [Bool.not_eq_true',beq_eq_false_iff_ne];exact this
  rw [e1'] at e1
  exact .inr ⟨λ z=>q1 z.1,B',(zQ es).trans (z9 ((yv (Qu e1)).trans (z9 (qS qv)))),s'.ext⟩
theorem K0 {ρ:En}{ws:List W}(h0:ρ[0]? =some (some (.tup ws)))(hl:ws.length<=8):qB (mQ qh (zS (zc 0))) ρ B=.ok (yh 0 ws.length) B:=by
 have:=ZG (wM (A:=B) h0) (Q8 (n:=ws.length) (by omega))
 rw [Int.toNat_natCast] at this
 exact this
theorem Om {w:W}{A:Hx}(h:jV A w):∃b A',gJ [w] A=.ok (.bl b) A'/\Ext A A'/\(b=true↔IsT w):=by
 unfold gJ GU
 unfold Yp
 rcases VG (ρ:=[some w,none,none,none,none]) h rfl with ⟨e,hn⟩ | ⟨ws,rfl,h1,h8,hr,e⟩
 ·exact ⟨false,A,qQ (z9 ((yv e).trans (z9 (qS qv)))),Ext.refl,λ z=>(by cases z),λ z=>absurd z hn⟩
 ·have hit:=gj (ws:=ws) (m:=zc 0) (ρ:=[some (.tup ws),none,none,none,none]) (A:=A) (zA rfl)
  rcases Qa (N:=ws.length) (p:=λ i=>wm ws.length (ws.getD i .non)) (J:=Ext A) (w:=.bl false) (I:=λ _ ρ B=>Ext A B/\∃y,ρ=[some (.tup ws),y,none,none,none])
   (j:=⟨λ A i=>(zT (.tup ws) A).map λ ws=>ws[i]?,ws.length⟩) (st:=turn (zD 1) JP)
   (λ i ρ B hi ⟨x,y,hρ⟩=>by
    subst hρ
    have hm:ws.getD i .non∈ws:=by rw [List.getD_eq_getElem?_getD,List.getElem?_eq_getElem hi];exact List.getElem_mem hi
    refine ⟨ws.getD i .non,by show some ws[i]? =_;rw [List.getElem?_eq_getElem hi,List.getD_eq_getElem?_getD,List.getElem?_eq_getElem hi];rfl,?_⟩
    rcases Oj (ws:=ws) ((hr _ hm).mono x.ky) with ⟨q,B',e,x'⟩ | ⟨q,B',e,x'⟩
    ·exact .inl ⟨q,_,B',(yt rfl).trans e,x.trans x',_,rfl⟩
    ·exact .inr ⟨q,B',(yt rfl).trans e,x.trans x'⟩)
   (λ ρ B _=>by show some ws[ws.length]? =_;rw [List.getElem?_eq_none (Nat.le_refl _)]) ws.length 0 [some (.tup ws),none,none,none,none] A (by omega) ⟨Ext.refl,_,rfl⟩ with ⟨q,ρ',B,e1,x1,y,hρ⟩ | ⟨⟨k,_,k2,k3⟩,B,e1,x1⟩
  ·subst hρ
   have hg:∀x∈ws,wm ws.length x:=λ x hx=>by
    obtain ⟨i,hi,rfl⟩:=List.getElem_of_mem hx
    have:=q i (Nat.zero_le _) hi
    rw [List.getD_eq_getElem?_getD,List.getElem?_eq_getElem hi] at this
    exact this
   obtain ⟨t,gt,et⟩:=Vz h1 h8 hg
   have ew:W.tup ws=zC t:=by rw [et];rfl
   have el:ws.length=t.length:=by rw [et,List.length_map]
   have go:∀(m1 m2:Ex),zr (qw (jH (qK (jA .tup (zc 0))) (qK (jw jN jN (zi (.int 1)) (mQ qh (zS (zc 0))) (zi (.int 8))))) m1 zB) (zr (jZ (qc (zc 0)) (zD 1) JP) (zr (zX 2 wj) m2)) [some (.tup ws),none,none,none,none] A=m2 [some (zC t),y,some (.ref B.length),none,none] (B++[.dct []]):=λ m1 m2=>by
    rw [<- ew]
    exact (zQ ((ym e).trans jB)).trans ((zQ ((yB hit).trans e1)).trans (zQ rfl))
   have s0:DS t A B.length 0 0 (B++[.dct []]):=⟨x1.app,x1.len,[],[],qZ,rfl,List.nodup_nil,λ v=>⟨λ z=>(by cases z),by rintro ⟨i,j,h1,_⟩;omega⟩⟩
   rcases Qa (N:=t.length) (p:=λ a=>∀b,b<t.length->(at2 t a b=0↔a=b)/\at2 t a b=at2 t b a) (J:=Ext A) (w:=.bl false) (I:=λ a ρ C=>DS t A B.length a 0 C/\∃y3 y4,ρ=[some (zC t),y,some (.ref B.length),y3,y4])
    (j:=yh 0 t.length) (st:=turn (zD 3) (zr (jZ (qB (mQ qh (zS (zc 0)))) (zD 4) J0) zB))
    (λ a ρ C ha ⟨s,y3,y4,hρ⟩=>by
     subst hρ
     refine ⟨_,gp ha,?_⟩
     have hm:=K0 (B:=C) (ρ:=[some (zC t),y,some (.ref B.length),some (.int (0+(a:Int))),y4]) (ws:=t.map zG) rfl (by rw [List.length_map];exact gt.n8)
     rw [List.length_map] at hm
     rcases Qa (N:=t.length) (p:=λ b=>(at2 t a b=0↔a=b)/\at2 t a b=at2 t b a) (J:=Ext A) (w:=.bl false) (I:=λ b ρ C=>DS t A B.length a b C/\∃y4,ρ=[some (zC t),y,some (.ref B.length),some (.int (0+(a:Int))),y4])
      (j:=yh 0 t.length) (st:=turn (zD 4) J0)
      (λ b ρ C hb ⟨s,y4,hρ⟩=>by
       subst hρ
       refine ⟨_,gp hb,?_⟩
       rw [Int.zero_add,Int.zero_add]
       rcases Rk gt s ha hb (y1:=y) with ⟨q,C',e,s'⟩ | ⟨q,C',e,x⟩
       ·exact .inl ⟨q,_,C',(yt rfl).trans e,s',_,rfl⟩
       ·exact .inr ⟨q,C',(yt rfl).trans e,x⟩)
      (λ ρ C _=>gf (by omega)) t.length 0 [some (zC t),y,some (.ref B.length),some (.int (0+(a:Int))),y4] C (by omega) ⟨s,_,rfl⟩ with ⟨q,ρ',C',e,s',z,hρ⟩ | ⟨⟨k,_,k2,k3⟩,C',e,x⟩
     ·subst hρ
      refine .inl ⟨λ b hb=>q b (Nat.zero_le _) hb,_,C',(yt rfl).trans ((zQ ((yB hm).trans e)).trans jB),?_,_,_,rfl⟩
      obtain ⟨kvs,ks,d1,d2,d3,d4⟩:=s'.d
      refine ⟨s'.ext,s'.hD,kvs,ks,d1,d2,d3,λ v=>(d4 v).trans ⟨?_,?_⟩⟩
      ·rintro ⟨i,j,h1,h2,h3,h4⟩
       exact ⟨i,j,by omega,h2,h3,h4⟩
      ·rintro ⟨i,j,h1,h2,h3,h4⟩
       exact ⟨i,j,by omega,h2,h3,h4⟩
     ·exact .inr ⟨λ z=>k3 (z k k2),C',(yt rfl).trans (z9 ((yB hm).trans e)),x⟩)
    (λ ρ C _=>gf (by omega)) t.length 0 [some (zC t),y,some (.ref B.length),none,none] (B++[.dct []]) (by omega) ⟨s0,_,_,rfl⟩ with ⟨q2,ρ',C,e2,s2,y3,y4,hρ⟩ | ⟨⟨k,_,k2,k3⟩,C,e2,x2⟩
   ·subst hρ
    have ev:QJ t:=λ a ha b hb=>q2 a (Nat.zero_le _) ha b hb
    obtain ⟨kvs,ks,d1,d2,d3,d4⟩:=s2.d
    have hm:=K0 (B:=B++[.dct []]) (ρ:=[some (zC t),y,some (.ref B.length),none,none]) (ws:=t.map zG) rfl (by rw [List.length_map];exact gt.n8)
    rw [List.length_map] at hm
    have hk8:=X8 gt d3 d4
    have eso:Jr (zc 2) [some (zC t),y,some (.ref B.length),y3,y4] C=.ok (.ref C.length) (C++[.lst ((sortI ks).map W.int)]):=by
     unfold Jr
     rw [zA (i:=2) rfl,zE]
     unfold We
     dsimp only
     rw [d1]
     dsimp only
     rw [show kvs.map (·.1)=ks.map Sum.inl from d2,XJ]
     dsimp only
     rw [if_pos (by omega)]
    have ele:Jy (zc 2) [some (zC t),y,some (.ref B.length),y3,y4] (C++[.lst ((sortI ks).map W.int)])=.ok (.int (ks.length:Int)) (C++[.lst ((sortI ks).map W.int)]):=by
     unfold Jy
     rw [zA (i:=2) rfl,zE]
     dsimp only
     rw [yk d1]
     dsimp only
     rw [d2.len]
    have eli:=XA ele (by omega)
    have hit2:iL (List.range ks.length)=((List.range ks.length).map λ (i:Nat)=>(i:Int)).map W.int:=by rw [List.map_map];rfl
    rw [hit2] at eli
    have eeq:=(zJ eso eli).trans (Hy (yk qZ) (by have:=qZ (A:=C++[.lst ((sortI ks).map W.int)]) (u:=.lst (((List.range ks.length).map λ (i:Nat)=>(i:Int)).map W.int));exact this))
    refine ⟨_,_,qQ ((go _ _).trans ((zQ ((yB hm).trans e2)).trans (z9 (qS eeq)))),s2.ext.app.app,?_⟩
    rw [decide_eq_true_iff,ew,K1 gt,Oy d3 λ v hv=>by obtain ⟨i,j,_,hi,hj,rfl⟩:=(d4 v).mp hv;exact (Vt gt hi hj).1]
    have mem:∀v,v∈ks↔v∈t.flatten:=λ v=>by
     rw [d4 v]
     constructor
     ·rintro ⟨i,j,_,hi,hj,rfl⟩
      obtain ⟨r,_,_,h2⟩:=ZJ gt.sq hi hj
      exact h2
     ·intro hv
      obtain ⟨a,b,ha,hb,e⟩:=gk gt.sq hv
      exact ⟨a,b,.inl ha,ha,hb,e⟩
    constructor
    ·intro z
     refine ⟨ev,λ k hk=>?_⟩
     obtain ⟨v,hv,hk⟩:=hk
     exact (mem _).mp (z k ⟨v,(mem v).mpr hv,hk⟩)
    ·rintro ⟨_,z⟩ k ⟨v,hv,hk⟩
     exact (mem _).mpr (z k ⟨v,(mem v).mp hv,hk⟩)
   ·have hm:=K0 (B:=B++[.dct []]) (ρ:=[some (zC t),y,some (.ref B.length),none,none]) (ws:=t.map zG) rfl (by rw [List.length_map];exact gt.n8)
    rw [List.length_map] at hm
    refine ⟨false,C,qQ ((go _ _).trans (z9 ((yB hm).trans e2))),x2,λ z=>(by cases z),λ z=>?_⟩
    rw [ew,K1 gt] at z
    exact absurd (λ b hb=>z.1 k k2 b hb) k3
  ·refine ⟨false,B,qQ ((zQ ((ym e).trans jB)).trans (z9 ((yB hit).trans e1))),x1,λ z=>(by cases z),λ z=>?_⟩
   have hm:ws.getD k .non∈ws:=by rw [List.getD_eq_getElem?_getD,List.getElem?_eq_getElem k2];exact List.getElem_mem k2
   exact absurd ((Qg z).2.2 _ hm) k3
end
end G
namespace Mi
open PySem L2
theorem Qe (i:Int):Part (.int i):=⟨⟨.int,λ _=>rfl⟩,⟨.int i,λ _=>rfl⟩⟩
theorem Vb (r:List Int):Part (zG r):=⟨⟨.tup,λ _=>rfl⟩,⟨.tuple (r.map PyData.int),λ A=>by
 show (jY (zZ A 6) (r.map W.int)).map PyData.tuple=_
 rw [Kr];rfl⟩⟩
theorem X3 {A:Hx}{r:List Int}(h:r.length<=100):yU A (zG r):=.tup (r.map W.int) rfl (by rw [List.length_map];exact h) λ x hx=>by
 obtain ⟨v,_,rfl⟩:=List.mem_map.mp hx
 exact Qe v
noncomputable def JA:W->Bool
 | .non=>true
 | .bl _=>true
 | .int _=>true
 | .str x=>PyData.strOk x
 | .tup ws=>ws.all wu
 | _=>false
theorem part_of {w:W}(h:JA w=true):Part w:=by
 cases w with
 | non=>exact ⟨⟨_,λ _=>rfl⟩,⟨_,λ _=>rfl⟩⟩
 | bl b=>exact ⟨⟨_,λ _=>rfl⟩,⟨_,λ _=>rfl⟩⟩
 | int i=>exact Qe i
 | str x=>exact ⟨⟨_,λ _=>rfl⟩,⟨.str x,λ A=>by show (if PyData.strOk x then some (PyData.str x) else none)=_;have h:PyData.strOk x=true:=h;rw [if_pos h]⟩⟩
 | tup ws=>
  obtain ⟨r,rfl⟩:=all_ints h
  exact Vb r
 | _=>cases h
noncomputable def Ge:W->Bool
 | .non=>true
 | .bl _=>true
 | .int _=>true
 | .str _=>true
 | .tup ws=>decide (ws.length<=100)&&ws.all JA
 | _=>false
theorem OV {A:Hx}{w:W}(h:Ge w=true):yU A w:=by
 cases w with
 | tup ws=>
  have h:(decide (ws.length<=100)&&ws.all JA)=true:=h
  rw [Bool.and_eq_true] at h
  exact .tup ws rfl (of_decide_eq_true h.1) λ x hx=>part_of (List.all_eq_true.mp h.2 x hx)
 | non=>exact .oth .non rfl (by decide)
 | bl b=>exact .oth .bl rfl (by decide)
 | int b=>exact .oth .int rfl (by decide)
 | str b=>exact .oth .str rfl (by decide)
 | _=>cases h
noncomputable def UP:W->Bool
 | .non=>true
 | .bl _=>true
 | .int _=>true
 | .str _=>true
 | .tup ws=>decide (ws.length<=100)&&ws.all Ge
 | _=>false
theorem VW {A:Hx}{w:W}(h:UP w=true):jV A w:=by
 cases w with
 | tup ws=>
  have h:(decide (ws.length<=100)&&ws.all Ge)=true:=h
  rw [Bool.and_eq_true] at h
  exact .tup ws rfl (of_decide_eq_true h.1) λ x hx=>OV (List.all_eq_true.mp h.2 x hx)
 | non=>exact .oth .non rfl (by decide)
 | bl b=>exact .oth .bl rfl (by decide)
 | int b=>exact .oth .int rfl (by decide)
 | str b=>exact .oth .str rfl (by decide)
 | _=>cases h
noncomputable def ET (m:Ev)(ρ:En):Prop:=∀A,∃w A1,m ρ A=.ok w A1/\Ext A A1/\jV A1 w
noncomputable def AT (a:Ea)(ρ:En)(k:Nat):Prop:=∀A,∃ws A1,a ρ A=.ok ws A1/\Ext A A1/\ws.length=k/\∀w∈ws,jV A1 w
section
variable {m:Ev}{a:Ea}{ρ:En}{k:Nat}{w:W}
theorem gX:AT zp ρ 0:=λ A=>⟨[],A,rfl,Ext.refl,rfl,λ _ h=>by cases h⟩
theorem qF (h:ET m ρ)(t:AT a ρ k):AT (zh m a) ρ (k+1):=λ A=>by
 obtain ⟨w,A1,e1,x1,h1⟩:=h A
 obtain ⟨ws,A2,e2,x2,l2,h2⟩:=t A1
 refine ⟨w::ws,A2,qR e1 e2,x1.trans x2,by rw [List.length_cons,l2],λ y hy=>?_⟩
 rcases List.mem_cons.mp hy with rfl | hy
 ·exact h1.mono x2.ky
 ·exact h2 y hy
theorem jR (h:∀A,m ρ A=.ok w A)(hw:UP w=true):ET m ρ:=λ A=>⟨w,A,h A,Ext.refl,VW hw⟩
theorem Li (h:∀A,m ρ A=.ok w A)(hw:∀A,jV A w):ET m ρ:=λ A=>⟨w,A,h A,Ext.refl,hw A⟩
theorem Jv {A:Hx}{ws:List W}:jg (.ref A.length) (A++[.lst ws])=some .lst:=by
 unfold jg
 dsimp only
 rw [qZ]
theorem VQ:ET wj ρ:=λ A=>⟨.ref A.length,A++[.dct []],rfl,Ext.one,.oth .dct (by unfold jg;dsimp only;rw [qZ]) (by decide)⟩
end
structure Kn (n:Nat)(A B:Hx):Prop where
 kp:Kp n A B
 st:G.qo n B
theorem _root_.G.qo.ty {n:Nat}{A:Hx}(h:G.qo n A):jg (.ref n) A=some .lst:=by
 obtain ⟨c,b,e,_⟩:=h
 unfold jg
 dsimp only
 rw [e]
theorem _root_.G.qo.lt {n:Nat}{A:Hx}(h:G.qo n A):n<A.length:=by
 obtain ⟨c,b,e,_⟩:=h
 exact kB e
theorem _root_.G.qo.ext {n:Nat}{A B:Hx}(h:G.qo n A)(x:Ext A B):G.qo n B:=by
 obtain ⟨c,b,e,r⟩:=h
 exact ⟨c,b,x.at e,r⟩
theorem _root_.G.qo.put {n k:Nat}{A:Hx}{o:O}(h:G.qo n A)(hk:k≠n):G.qo n (A.set k o):=by
 obtain ⟨c,b,e,r⟩:=h
 exact ⟨c,b,by rw [List.getElem?_set_ne hk];exact e,r⟩
theorem Kn.ky {n:Nat}{A B:Hx}(s:G.qo n A)(k:Kn n A B):Ky A B:=λ w ty h=>by
 cases w with
 | ref i=>
  by_cases q:i=n
  ·subst q
   rw [s.ty] at h
   rw [k.st.ty];exact h
  ·unfold jg at h ⊢
   dsimp only at h ⊢
   by_cases z:i<A.length
   ·rw [k.kp.at_ i z q];exact h
   ·rw [List.getElem?_eq_none (by omega)] at h;cases h
 | _=>exact h
theorem Kn.trans {n:Nat}{A B C:Hx}(a:Kn n A B)(b:Kn n B C):Kn n A C:=⟨a.kp.trans b.kp,b.st⟩
theorem Kn.ext {n:Nat}{A B:Hx}(s:G.qo n A)(x:Ext A B):Kn n A B:=⟨Kp.ext x,s.ext x⟩
end Mi
namespace G
open PySem L2 Mi
theorem M7 {n:Nat}{A:Hx}(h:qo n A){m:Int}(h1:0<m)(h2:m<1000):∃(r:Nat) (B:Hx),qk [.ref n,.int m] A=.ok (.int r) B/\(r:Int)<m/\Kn n A B/\B.length=A.length:=by
 obtain ⟨r,o,e,a,b,s⟩:=VT h h1 h2
 exact ⟨r.toNat,A.set n o,by rw [e,Int.toNat_of_nonneg a],by omega,⟨Kp.set,s⟩,List.length_set ..⟩
theorem kY {n:Nat}{A:Hx}{ρ:En}{m:Int}{me:Ev}(h:qo n A)(h0:ρ[0]? =some (some (.ref n)))(hm:me ρ A=.ok (.int m) A)(h1:0<m)(h2:m<1000):∃(r:Nat) (B:Hx),zH qk (zh (zc 0) (zh me (zp))) ρ A=.ok (.int r) B/\(r:Int)<m/\Kn n A B/\B.length=A.length:=by
 obtain ⟨r,B,e,a⟩:=M7 h h1 h2
 exact ⟨r,B,(jj (qR (zA h0) (qR hm je))).trans e,a⟩
section
variable {n:Nat}{A:Hx}{ρ:En}{a:Ea}{k i:Nat}
structure TL (A:Hx)(r k:Nat)(B:Hx):Prop where
 at_:∃ws,B[r]? =some (.lst ws)/\ws.length=k/\∀w∈ws,jV B w
 nw:A.length<=r
 ext:Ext A B
theorem VV (h:AT a ρ k)(A:Hx):∃r B,zY a ρ A=.ok (.ref r) B/\TL A r k B:=by
 obtain ⟨ws,A1,e,x,hl,hw⟩:=h A
 exact ⟨_,_,j5 e,⟨ws,qZ,hl,λ w hw'=>(hw w hw').mono Ext.one.ky⟩,x.len,x.app⟩
theorem Qo {r j:Nat}{B:Hx}(t:TL A r j B)(h:AT a ρ k)(hi:ρ[i]? =some (some (.ref r)))(hl:j+k<=100):∃r' C,zj zL (zc i) (zY a) ρ B=.ok (.ref r') C/\TL A r' (j+k) C:=by
 obtain ⟨ws,e,l,hw⟩:=t.at_
 obtain ⟨us,B1,e1,x1,l1,hu⟩:=h B
 have x2:Ext B (B1++[.lst us]):=x1.app
 refine ⟨_,_,(zJ (zA hi) (j5 e1)).trans (Kz (x2.at e) qZ (by unfold zW;omega)),⟨ws++us,qZ,by rw [List.length_append,l,l1],λ w hw'=>?_⟩,?_,(t.ext.trans x2).app⟩
 ·rcases List.mem_append.mp hw' with q | q
  ·exact (hw w q).mono (x2.app).ky
  ·exact (hu w q).mono (Ext.one.trans Ext.one).ky
 ·have:=t.ext.len
  have:=x2.len
  omega
theorem VA {r:Nat}{B:Hx}{m:Int}{mm:Ev}(s:qo n A)(t:TL A r k B)(hi:ρ[i]? =some (some (.ref r)))(h0:ρ[0]? =some (some (.ref n)))(hm:∀A,mm ρ A=.ok (.int m) A)(hk:(k:Int)=m)(h1:0<m)(h2:m<1000):∃w C,zj zz (zc i) (zH qk (zh (zc 0) (zh mm (zp)))) ρ B=.ok w C/\jV C w/\Kn n A C:=by
 obtain ⟨ws,e,l,hw⟩:=t.at_
 have sB:=s.ext t.ext
 obtain ⟨j,C,ec,hj,kn,_⟩:=kY sB h0 (hm B) h1 h2
 have hjl:j<ws.length:=by omega
 have hr:r≠n:=by have:=s.lt;have:=t.nw;omega
 refine ⟨ws[j],C,(zJ (zA hi) ec).trans (kW (kn.kp.get e hr) (List.getElem?_eq_getElem hjl)),(hw _ (List.getElem_mem hjl)).mono (kn.ky sB),(Kn.ext s t.ext).trans kn⟩
end
theorem Ih {n:Nat}{A:Hx}(s:qo n A):∃w B,wx [.ref n] A=.ok w B/\jV B w/\Kn n A B:=by
 unfold wx GR
 unfold Yj
 have et1:∀ρ,ET (zY (zh (zY (zh (zi (.int 0)) (zp))) (zp))) ρ:=λ ρ A=>⟨_,_,j5 (qR (j5 (qR qv je)) je),Ext.one.app,.oth .lst Jv (by decide)⟩
 have et2:∀ρ,ET (zy (zh (zY (zh (zi (.int 0)) (zp))) (zp))) ρ:=λ ρ A=>⟨_,_,KR (qR (j5 (qR qv je)) je),Ext.one,.tup _ rfl (by simp) λ x hx=>by
  rw [List.mem_singleton.mp hx]
  exact .oth .lst Jv (by decide)⟩
 obtain ⟨r1,B1,e1,t1⟩:=VV (k:=11) (ρ:=[some (.ref n),none]) (a:=zh (zi .non) (zh (zi (.int 0)) (zh (zy (zp)) (zh (zy (zh (zy (zp)) (zp))) (zh (zy (zh (zy (zh (zi (.int 1)) (zp))) (zp))) (zh (zY (zh (zY (zh (zi (.int 0)) (zp))) (zp))) (zh (zy (zh (zY (zh (zi (.int 0)) (zp))) (zp))) (zh (zy (zh (zy (zh (zi (.int 0)) (zp))) (zh (zy (zh (zi (.int 0)) (zp))) (zp)))) (zh (zy (zh (zy (zh (zi (.int 0)) (zh (zi (.int 1)) (zp)))) (zh (zy (zh (zi (.int 2)) (zh (zi (.int 0)) (zp)))) (zp)))) (zh (zy (zh (zy (zh (zi (.int 0)) (zh (zi (.int 2)) (zp)))) (zh (zy (zh (zi (.int 2)) (zh (zi (.int 0)) (zp)))) (zp)))) (zh (wj) (zp)))))))))))) (qF (jR (λ _=>rfl) rfl) (qF (jR (λ _=>rfl) rfl) (qF (jR (w:=.tup []) (λ _=>rfl) rfl) (qF (jR (w:=.tup [.tup []]) (λ _=>rfl) rfl) (qF (jR (w:=.tup [.tup [.int 1]]) (λ _=>rfl) rfl) (qF (et1 _) (qF (et2 _) (qF (jR (w:=.tup [.tup [.int 0],.tup [.int 0]]) (λ _=>rfl) rfl)
  (qF (jR (w:=.tup [.tup [.int 0,.int 1],.tup [.int 2,.int 0]]) (λ _=>rfl) rfl) (qF (jR (w:=.tup [.tup [.int 0,.int 2],.tup [.int 2,.int 0]]) (λ _=>rfl) rfl) (qF VQ gX))))))))))) A
 obtain ⟨r2,B2,e2,t2⟩:=Qo (k:=5) (i:=1) (ρ:=[some (.ref n),some (.ref r1)]) (a:=zh (zy (zh (zy (zh (zi (.int 0)) (zh (zi (.int 1)) (zp)))) (zh (zy (zh (zi (.int 1)) (zh (zi (.int 1)) (zp)))) (zp)))) (zh (zy (zh (zy (zh (zi (.bl true)) (zp))) (zp))) (zh (zy (zh (zy (zh (zi (.int 0)) (zh (zi (.bl true)) (zp)))) (zh (zy (zh (zi (.bl true)) (zh (zi (.int 0)) (zp)))) (zp)))) (zh (zy (zh (zy (zh (zi (.int 0)) (zh (q9 kJ (zi (.int 1))) (zp)))) (zh (zy (zh (q9 kJ (zi (.int 1))) (zh (zi (.int 0)) (zp)))) (zp)))) (zh (zy (zh (zy (zh (zi (.int 0)) (zh (zi (.int 1)) (zp)))) (zh (zy (zh (zi (.int 1)) (zh (zi (.int 0)) (zp)))) (zh (zy (zh (zi (.int 1)) (zh (zi (.int 1)) (zp)))) (zp))))) (zp)))))) t1 (qF (jR (w:=.tup [.tup [.int 0,.int 1],.tup [.int 1,.int 1]]) (λ _=>rfl) rfl) (qF (jR (w:=.tup [.tup [.bl true]]) (λ _=>rfl) rfl) (qF (jR (w:=.tup [.tup [.int 0,.bl true],.tup [.bl true,.int 0]]) (λ _=>rfl) rfl)
  (qF (jR (w:=.tup [.tup [.int 0,.int (-1)],.tup [.int (-1),.int 0]]) (λ _=>rfl) rfl) (qF (jR (w:=.tup [.tup [.int 0,.int 1],.tup [.int 1,.int 0],.tup [.int 1,.int 1]]) (λ _=>rfl) rfl) gX))))) rfl (by omega)
 obtain ⟨r3,B3,e3,t3⟩:=Qo (k:=5) (i:=1) (ρ:=[some (.ref n),some (.ref r2)]) (a:=zh (zy (zh (zy (zh (zi (.int 0)) (zh (zi (.int 1)) (zh (zi (.int 2)) (zp))))) (zh (zy (zh (zi (.int 1)) (zh (zi (.int 0)) (zh (zi (.int 2)) (zp))))) (zh (zy (zh (zi (.int 2)) (zh (zi (.int 2)) (zh (zi (.int 1)) (zp))))) (zp))))) (zh (zi (.str "0")) (zh (zy (zh (zy (zh (zi (.int 0)) (zh (zi (.int 3)) (zh (zi (.int 3)) (zp))))) (zh (zy (zh (zi (.int 3)) (zh (zi (.int 0)) (zh (zi (.int 1)) (zp))))) (zh (zy (zh (zi (.int 3)) (zh (zi (.int 1)) (zh (zi (.int 0)) (zp))))) (zp))))) (zh (zy (zh (zy (zh (zi (.int 0)) (zp))) (zh (zy (zp)) (zp)))) (zh (zy (zh (zi (.int 0)) (zp))) (zp)))))) t2 (qF (jR (w:=.tup [.tup [.int 0,.int 1,.int 2],.tup [.int 1,.int 0,.int 2],.tup [.int 2,.int 2,.int 1]]) (λ _=>rfl) rfl) (qF (jR (λ _=>rfl) rfl)
  (qF (jR (w:=.tup [.tup [.int 0,.int 3,.int 3],.tup [.int 3,.int 0,.int 1],.tup [.int 3,.int 1,.int 0]]) (λ _=>rfl) rfl) (qF (jR (w:=.tup [.tup [.int 0],.tup []]) (λ _=>rfl) rfl) (qF (jR (w:=.tup [.int 0]) (λ _=>rfl) rfl) gX))))) rfl (by omega)
 obtain ⟨r4,B4,e4,t4⟩:=Qo (k:=2) (i:=1) (ρ:=[some (.ref n),some (.ref r3)]) (a:=zh (zy (zh (zy (zh (zi .non) (zp))) (zp))) (zh (zy (zh (zy (zh (zi (.int 0)) (zh (zi (.int 0)) (zp)))) (zh (zy (zh (zi (.int 0)) (zh (zi (.int 0)) (zp)))) (zp)))) (zp))) t3 (qF (jR (w:=.tup [.tup [.non]]) (λ _=>rfl) rfl) (qF (jR (w:=.tup [.tup [.int 0,.int 0],.tup [.int 0,.int 0]]) (λ _=>rfl) rfl) gX)) rfl (by omega)
 obtain ⟨w,C,e5,hw,kn⟩:=VA (i:=1) (ρ:=[some (.ref n),some (.ref r4)]) (mm:=zi (.int 23)) (m:=23) s t4 rfl rfl (λ _=>rfl) rfl (by decide) (by decide)
 refine ⟨w,C,qQ ?_,hw,kn⟩
 refine (zQ ((qz e1).trans rfl)).trans ((zQ ((qz e2).trans rfl)).trans ((zQ ((qz e3).trans rfl)).trans ((zQ ((qz e4).trans rfl)).trans (z9 (qS e5)))))
end G
namespace Mi
open PySem L2
noncomputable def TE (m:Ev)(ρ:En)(ws:List W):Prop:=∀A,m ρ A=.ok (.tup ws) A
noncomputable def RA (ws:List W):Prop:=∀x∈ws,∀A,yU A x
section
variable {m m':Ev}{ρ:En}{xs ys:List W}{pl pu:Po}{l u:Option Int}
theorem g0 (h:TE m ρ xs)(h':TE m' ρ ys)(hl:xs.length+ys.length<=1000):TE (zj zL m m') ρ (xs++ys):=λ A=>(zJ (h A) (h' A)).trans (by
 unfold zL
 dsimp only
 rw [if_pos (by unfold zW;omega)])
theorem Ju {A A1 A2 A3:Hx}(h:m ρ A=.ok (.tup xs) A1)(h1:pl ρ A1=.ok l A2)(h2:pu ρ A2=.ok u A3):qJ m pl pu ρ A=.ok (.tup (j0 xs l u)) A3:=by
 unfold qJ
 rw [h,zE,h1,zE,h2,zE]
theorem Jp (h:TE m ρ xs)(h1:∀A,pl ρ A=.ok l A)(h2:∀A,pu ρ A=.ok u A):TE (qJ m pl pu) ρ (j0 xs l u):=λ A=>Ju (h A) (h1 A) (h2 A)
theorem Wn {w:W}(h:∀A,m ρ A=.ok w A):TE (zy (zh m (zp))) ρ [w]:=λ A=>KR (qR (h A) je)
theorem Ql {x:W}(h:x∈j0 xs l u):x∈xs:=List.mem_of_mem_drop (List.mem_of_mem_take h)
theorem gh:(j0 xs l u).length<=xs.length:=by
 unfold j0
 rw [List.length_take,List.length_drop]
 omega
theorem RA.cut (h:RA xs):RA (j0 xs l u):=λ x hx=>h x (Ql hx)
theorem RA.app (h:RA xs)(h':RA ys):RA (xs++ys):=λ x hx=>(List.mem_append.mp hx).elim (h x) (h' x)
theorem RA.one {w:W}(h:∀A,yU A w):RA [w]:=λ x hx=>by rw [List.mem_singleton.mp hx];exact h
theorem wd (h:TE m ρ xs)(r:RA xs)(hl:xs.length<=100):ET m ρ:=Li (w:=.tup xs) h λ A=>.tup xs rfl hl λ x hx=>r x hx A
end
structure LR (N:Nat)(A:Hx)(r:Nat)(B:Hx):Prop where
 nw:A.length<=r
 at_:∃ks:List Nat,B[r]? =some (.lst (ks.map W.ref))/\ks.length=N/\∀k∈ks,A.length<=k/\k≠r/\∃ws,B[k]? =some (.lst ws)/\ws.length=N/\∀x∈ws,Part x
theorem LR.put {N:Nat}{A B:Hx}{r a b:Nat}{v:W}(h:LR N A r B)(ha:a<N)(hb:b<N)(hv:Part v):∃k B',zz (.ref r) (.int (a:Int)) B=.ok (.ref k) B/\j3 (.ref k) (.int (b:Int)) v B=.ok () B'/\LR N A r B'/\A.length<=k/\(∃o,B'=B.set k o):=by
 obtain ⟨ks,e,hl,hk⟩:=h.at_
 have hal:a<ks.length:=by omega
 obtain ⟨k1,k2,ws,e2,l2,hp⟩:=hk _ (List.getElem_mem hal)
 refine ⟨ks[a],_,kW e (by rw [List.getElem?_map,List.getElem?_eq_getElem hal];rfl),Vp e2 (by omega),⟨h.nw,ks,?_,hl,λ k hk'=>?_⟩,k1,_,rfl⟩
 ·rw [List.getElem?_set_ne k2];exact e
 ·obtain ⟨j1,j2,us,f2,m2,hq⟩:=hk k hk'
  refine ⟨j1,j2,?_⟩
  by_cases q:ks[a]=k
  ·refine ⟨ws.set b v,by rw [q,List.getElem?_set_self (kB f2)],by rw [List.length_set];exact l2,λ x hx=>?_⟩
   rcases List.mem_or_eq_of_mem_set hx with z | z
   ·exact hp x z
   ·rw [z];exact hv
  ·exact ⟨us,by rw [List.getElem?_set_ne q];exact f2,m2,hq⟩
end Mi
namespace G
open PySem L2 Mi
section
variable {t:List (List Int)}{n N a b:Nat}{A B:Hx}{ρ:En}
theorem Xp (h8:t.length<=8)(hq:Sq t){m:Ev}{B0:Hx}(h1:m ρ B0=.ok (zC t) B):z7 (zR 1 [] (qc m) (zD 0) (zi (.bl true)) (zN (z7 (zS (zc 0))))) ρ B0=
  .ok (.ref (B.length+t.length)) (B++(t.map λ r=>O.lst (r.map W.int))++[O.lst ((List.range t.length).map λ i=>W.ref (B.length+i))]):=by
 obtain ⟨ρ',acc',B',e,⟨z,g1⟩,g2,g3⟩:=Ki (nl:=1) (cap:=[]) (tw:=zD 0) (ifs:=zi (.bl true)) (em:=zN (z7 (zS (zc 0)))) (ρ:=ρ) (A:=B0) (N:=t.length)
  (I:=λ p ρ' a C=>(∃z,ρ'=[z])/\C=B++((t.take p).map λ r=>O.lst (r.map W.int))/\a=(List.range p).map λ i=>W.ref (B.length+i)) (gj h1) (by simp)
  (λ p ρ' a C hp ⟨⟨z,f1⟩,f2,f3⟩=>by
   subst f1 f2 f3
   refine ⟨zG t[p],[some (zG t[p])],?_,rfl,.inl ⟨_,_,_,_,rfl,KA (kU (yQ (w:=zG t[p]) (ws:=t[p].map W.int) (zA rfl) rfl)) ?_,⟨_,rfl⟩,?_,?_⟩⟩
   ·show some (t.map zG)[p]? =_
    rw [List.getElem?_map,List.getElem?_eq_getElem hp];rfl
   ·simp;unfold zW;omega
   ·rw [take_succ hp,List.map_append,List.append_assoc];rfl
   ·rw [List.range_succ,List.map_append,List.length_append,List.length_map,List.length_take,Nat.min_eq_left (Nat.le_of_lt hp)];rfl)
  (λ ρ' a C _=>by show some (t.map zG)[t.length]? =_;rw [List.getElem?_eq_none (by simp)]) ⟨⟨none,rfl⟩,by simp,by simp⟩
 rw [kU e,g2,g3,List.take_length]
 simp
theorem K7 {i:Nat}(hi:i<t.length):(B++(t.map λ r=>O.lst (r.map W.int))++[O.lst ((List.range t.length).map λ i=>W.ref (B.length+i))])[B.length+i]? =some (.lst ((t.getD i []).map W.int)):=by
 rw [List.getElem?_append_left (by simp;omega),List.getElem?_append_right (by omega),show B.length+i - B.length=i by omega,List.getElem?_map,List.getD_eq_getElem?_getD,List.getElem?_eq_getElem hi]
 rfl
theorem KC:(B++(t.map λ r=>O.lst (r.map W.int))++[O.lst ((List.range t.length).map λ i=>W.ref (B.length+i))])[B.length+t.length]? =some (.lst ((List.range t.length).map λ i=>W.ref (B.length+i))):=by
 have:B.length+t.length=(B++(t.map λ r=>O.lst (r.map W.int))).length:=by simp
 rw [this,qZ]
theorem NA (hx:Ext A B)(hq:Sq t):LR t.length A (B.length+t.length) (B++(t.map λ r=>O.lst (r.map W.int))++[O.lst ((List.range t.length).map λ i=>W.ref (B.length+i))]):=by
 have hl:=hx.len
 refine ⟨by omega,(List.range t.length).map λ i=>B.length+i,by rw [KC,List.map_map];rfl,by simp,λ k hk=>?_⟩
 obtain ⟨i,hi,rfl⟩:=List.mem_map.mp hk
 have hi:=List.mem_range.mp hi
 refine ⟨by omega,by omega,_,K7 hi,by rw [List.length_map];exact hq _ (yu hi),λ x hx=>?_⟩
 obtain ⟨v,_,rfl⟩:=List.mem_map.mp hx
 exact Qe v
theorem LR.tup {r i:Nat}(h:LR N A r B)(h8:N<=8)(hi:ρ[i]? =some (some (.ref r))):∃ws,mQ jF (zR 1 [] (qc (zc i)) (zD 0) (zi (.bl true)) (zN (mQ jF (zS (zc 0))))) ρ B=.ok (.tup ws) B/\ws.length=N/\RA ws:=by
 obtain ⟨ks,e,hl,hk⟩:=h.at_
 have hat:∀j,j<N->∃us,B[ks.getD j 0]? =some (.lst us)/\us.length=N/\∀x∈us,Part x:=λ j hj=>by
  have hj':j<ks.length:=by omega
  obtain ⟨_,_,us,q1,q2,q3⟩:=hk _ (List.getElem_mem hj')
  exact ⟨us,by rw [List.getD_eq_getElem?_getD,List.getElem?_eq_getElem hj'];exact q1,q2,q3⟩
 obtain ⟨f,hf⟩:∃f:Nat->List W,∀j,j<N->B[ks.getD j 0]? =some (.lst (f j))/\(f j).length=N/\∀x∈f j,Part x:=by
  classical
  refine ⟨λ j=>if hj:j<N then (hat j hj).choose else [],λ j hj=>?_⟩
  have:(if hj:j<N then (hat j hj).choose else [])=(hat j hj).choose:=dif_pos hj
  dsimp only
  rw [this]
  exact (hat j hj).choose_spec
 have ec:=gO (cap:=[]) (me:=mQ jF (zS (zc 0))) (ρ:=ρ) (A:=B) (N:=N) (item:=λ j=>.ref (ks.getD j 0)) (g:=λ j=>.tup (f j)) (Qj (zA hi) e) (by simp [hl]) (by unfold zW;omega)
  (λ j hj=>(k6 e).trans (by rw [List.getElem?_map,List.getD_eq_getElem?_getD,List.getElem?_eq_getElem (by omega)];rfl)) ((k6 e).trans (by rw [List.getElem?_eq_none (by simp [hl])]))
  (λ j hj=>gY (yQ (w:=.ref (ks.getD j 0)) (A1:=B) (zA rfl) (by unfold zT;dsimp only;rw [(hf j hj).1])))
 refine ⟨_,gY ec,by simp,λ x hx=>?_⟩
 obtain ⟨j,hj,rfl⟩:=List.mem_map.mp hx
 obtain ⟨_,q2,q3⟩:=hf j (List.mem_range.mp hj)
 exact λ A=>.tup _ rfl (by omega) q3
theorem Vg {r i j:Nat}{v:W}(s:qo n A)(h:LR N A r B)(k0:Kn n A B)(ha:a<N)(hb:b<N)(hv:Part v)(h5:ρ[5]? =some (some v))(h6:ρ[6]? =some (some (.ref r)))(hi:ρ[i]? =some (some (.int (a:Int))))(hj:ρ[j]? =some (some (.int (b:Int)))):
  ∃B',jK j3 (zc 5) (zj zz (zc 6) (zc i)) (zc j) ρ B=.ok (.nx ρ) B'/\LR N A r B'/\Kn n A B':=by
 obtain ⟨k,B',e1,e2,l,hk,o,rfl⟩:=h.put ha hb hv
 refine ⟨_,?_,l,⟨k0.kp.put hk,k0.st.put (by have:=s.lt;omega)⟩⟩
 unfold jK
 rw [zA h5,zE,(zJ (zA h6) (zA hi)).trans e1,zE,zA hj,zE,e2,zE]
theorem VY (h:qW t):RA (t.map zG):=λ x hx A=>by
 obtain ⟨r,hr,rfl⟩:=List.mem_map.mp hx
 have:=h.sq r hr
 have:=h.n8
 exact X3 (by omega)
theorem Pw (h:qW t)(A:Hx):yU A (zC t):=.tup (t.map zG) rfl (by rw [List.length_map];have:=h.n8;omega) λ x hx=>by
 obtain ⟨r,hr,rfl⟩:=List.mem_map.mp hx
 exact Vb r
noncomputable def Ur:W->W
 | .tup us=>.tup (j0 us (some 1) none)
 | w=>w
theorem Lk (s:qo n A)(h:qW t):∃w B,wB [.ref n,zC t] A=.ok w B/\jV B w/\Kn n A B:=by
 unfold wB G9
 unfold Ka
 have n1:=h.n1
 have n8:=h.n8
 have hlen:∀ρ B,ρ[1]? =some (some (zC t))->mQ qh (zS (zc 1)) ρ B=.ok (.int t.length) B:=λ ρ B h1=>by
  have:=wM (ws:=t.map zG) (A:=B) h1
  rw [List.length_map] at this
  exact this
 obtain ⟨a,B1,e1,ha,k1,_⟩:=kY (ρ:=[some (.ref n),some (zC t),some (.int t.length),none,none,none,none,none,none,none]) (me:=zc 2) s rfl (zA rfl) (by omega:(0:Int)<(t.length:Int)) (by omega)
 obtain ⟨b,B2,e2,hb,k2,_⟩:=kY (ρ:=[some (.ref n),some (zC t),some (.int t.length),none,none,none,none,none,none,none]) (me:=zc 2) k1.st rfl (zA rfl) (by omega:(0:Int)<(t.length:Int)) (by omega)
 have ha':a<t.length:=by omega
 have hb':b<t.length:=by omega
 have k12:=k1.trans k2
 have eo:((zh (zi (.int 0)) (zh (zi (.int 1)) (zh (zj jS (zc 2) (zi (.int 1))) (zh (zc 2) (zh (q9 kJ (zi (.int 1))) (zh (zi (.bl true)) (zh (zi .non) (zh (zi (.str "1")) (zh (zy (zh (zi (.int 1)) (zp))) (zh (zj Zl (zi (.int 10)) (zi (.int 29))) (zp))))))))))):Ea) [some (.ref n),some (zC t),some (.int t.length),some (.int a),some (.int b),none,none,none,none,none] B2=.ok [.int 0,.int 1,.int ((t.length:Int) - 1),.int t.length,.int (-1),.bl true,.non,.str "1",.tup [.int 1],.int (10 ^ (29:Int).toNat)] B2:=rfl
 have xo:Ext B2 (B2++[.lst [.int 0,.int 1,.int ((t.length:Int) - 1),.int t.length,.int (-1),.bl true,.non,.str "1",.tup [.int 1],.int (10 ^ (29:Int).toNat)]]):=Ext.one
 obtain ⟨j,B3,e3,hj,k3,_⟩:=kY (ρ:=[some (.ref n),some (zC t),some (.int t.length),some (.int a),some (.int b),none,none,none,none,none]) (me:=zi (.int 10)) (k12.st.ext xo) rfl qv (by decide:(0:Int)<10) (by decide)
 obtain ⟨v,hv,ev⟩:∃v,Part v/\zj zz (zY (zh (zi (.int 0)) (zh (zi (.int 1)) (zh (zj jS (zc 2) (zi (.int 1))) (zh (zc 2) (zh (q9 kJ (zi (.int 1))) (zh (zi (.bl true)) (zh (zi .non) (zh (zi (.str "1")) (zh (zy (zh (zi (.int 1)) (zp))) (zh (zj Zl (zi (.int 10)) (zi (.int 29))) (zp)))))))))))) (zH qk (zh (zc 0) (zh (zi (.int 10)) (zp)))) [some (.ref n),some (zC t),some (.int t.length),some (.int a),some (.int b),none,none,none,none,none] B2=.ok v B3:=by
  have hn:B2.length≠n:=by have:=k12.st.lt;omega
  have hat:=k3.kp.get (qZ (A:=B2)) hn
  have hjl:j<10:=by omega
  refine ⟨([.int 0,.int 1,.int ((t.length:Int) - 1),.int t.length,.int (-1),.bl true,.non,.str "1",.tup [.int 1],.int (10 ^ (29:Int).toNat)]:List W)[j],?_,(zJ (j5 eo) e3).trans (kW hat (List.getElem?_eq_getElem hjl))⟩
  have hall:∀w∈([.int 0,.int 1,.int ((t.length:Int) - 1),.int t.length,.int (-1),.bl true,.non,.str "1",.tup [.int 1],.int (10 ^ (29:Int).toNat)]:List W),JA w=true:=by
   intro w hw
   simp only [List.mem_cons,List.not_mem_nil,or_false] at hw
   rcases hw with rfl | rfl | rfl | rfl | rfl | rfl | rfl | rfl | rfl | rfl<;>first | rfl | decide +kernel
  exact part_of (hall _ (List.getElem_mem _))
 have k3':Kn n A B3:=(k12.trans (Kn.ext k12.st xo)).trans k3
 have e4:=Xp (B:=B3) (m:=zc 1) (ρ:=[some (.ref n),some (zC t),some (.int t.length),some (.int a),some (.int b),some v,none,none,none,none]) n8 h.sq (zA rfl)
 have hr3:LR t.length B3 (B3.length+t.length) _:=NA (A:=B3) Ext.refl h.sq
 have x4:Ext B3 (B3++(t.map λ r=>O.lst (r.map W.int))++[O.lst ((List.range t.length).map λ i=>W.ref (B3.length+i))]):=⟨(t.map λ r=>O.lst (r.map W.int))++[O.lst ((List.range t.length).map λ i=>W.ref (B3.length+i))],by rw [List.append_assoc]⟩
 have k4:Kn n B3 _:=Kn.ext k3'.st x4
 generalize B3++(t.map λ r=>O.lst (r.map W.int))++[O.lst ((List.range t.length).map λ i=>W.ref (B3.length+i))]=B4 at e4 hr3 x4 k4
 generalize B3.length+t.length=r at e4 hr3
 obtain ⟨B5,e5,hr5,k5⟩:=Vg (ρ:=[some (.ref n),some (zC t),some (.int t.length),some (.int a),some (.int b),some v,some (.ref r),none,none,none]) (i:=3) (j:=4) k3'.st hr3 k4 ha' hb' hv rfl rfl rfl rfl
 obtain ⟨w7,e6,l7,r7⟩:=LR.tup (ρ:=[some (.ref n),some (zC t),some (.int t.length),some (.int a),some (.int b),some v,some (.ref r),none,none,none]) (i:=6) hr5 n8 rfl
 obtain ⟨B7,e7,hr7,k7⟩:=Vg (ρ:=[some (.ref n),some (zC t),some (.int t.length),some (.int a),some (.int b),some v,some (.ref r),some (.tup w7),none,none]) (i:=4) (j:=3) k3'.st hr5 k5 hb' ha' hv rfl rfl rfl rfl
 obtain ⟨w8,e8,l8,r8⟩:=LR.tup (ρ:=[some (.ref n),some (zC t),some (.int t.length),some (.int a),some (.int b),some v,some (.ref r),some (.tup w7),none,none]) (i:=6) hr7 n8 rfl
 have k7':Kn n A B7:=k3'.trans k7
 have hc:∀y9:Option W,∃ρ,ρ=[some (.ref n),some (zC t),some (.int t.length),some (.int (a:Int)),some (.int (b:Int)),some v,some (.ref r),some (.tup w7),some (.tup w8),y9]:=λ y9=>⟨_,rfl⟩
 have tt:∀y9,TE (zc 1) [some (.ref n),some (zC t),some (.int t.length),some (.int (a:Int)),some (.int (b:Int)),some v,some (.ref r),some (.tup w7),some (.tup w8),y9] (t.map zG):=λ y9 A=>rfl
 have tl:(t.map zG).length<=8:=by rw [List.length_map];exact n8
 have ra:=VY h
 have c1:∀y9,TE (qJ (zc 1) (ja) (qC (zc 3))) [some (.ref n),some (zC t),some (.int t.length),some (.int (a:Int)),some (.int (b:Int)),some v,some (.ref r),some (.tup w7),some (.tup w8),y9] (j0 (t.map zG) none (some (a:Int))):=λ y9=>Jp (tt y9) (λ _=>rfl) (λ _=>rfl)
 have c2:∀y9,TE (qJ (zc 1) (qC (zj zL (zc 3) (zi (.int 1)))) (ja)) [some (.ref n),some (zC t),some (.int t.length),some (.int (a:Int)),some (.int (b:Int)),some v,some (.ref r),some (.tup w7),some (.tup w8),y9] (j0 (t.map zG) (some ((a:Int)+1)) none):=λ y9=>Jp (tt y9) (λ _=>rfl) (λ _=>rfl)
 have c3:∀y9,TE (qJ (zc 1) (qC (zc 3)) (qC (zj zL (zc 3) (zi (.int 1))))) [some (.ref n),some (zC t),some (.int t.length),some (.int (a:Int)),some (.int (b:Int)),some v,some (.ref r),some (.tup w7),some (.tup w8),y9] (j0 (t.map zG) (some (a:Int)) (some ((a:Int)+1))):=λ y9=>Jp (tt y9) (λ _=>rfl) (λ _=>rfl)
 have c4:∀y9,TE (qJ (zc 1) (qC (zc 3)) (ja)) [some (.ref n),some (zC t),some (.int t.length),some (.int (a:Int)),some (.int (b:Int)),some v,some (.ref r),some (.tup w7),some (.tup w8),y9] (j0 (t.map zG) (some (a:Int)) none):=λ y9=>Jp (tt y9) (λ _=>rfl) (λ _=>rfl)
 have z1:=gh (xs:=t.map zG) (l:=none) (u:=some (a:Int))
 have z2:=gh (xs:=t.map zG) (l:=some ((a:Int)+1)) (u:=none)
 have z3:=gh (xs:=t.map zG) (l:=some (a:Int)) (u:=some ((a:Int)+1))
 have z4:=gh (xs:=t.map zG) (l:=some (a:Int)) (u:=none)
 have ixa:∀y9 A,zj zz (zc 1) (zc 3) [some (.ref n),some (zC t),some (.int t.length),some (.int (a:Int)),some (.int (b:Int)),some v,some (.ref r),some (.tup w7),some (.tup w8),y9] A=.ok (zG (t.getD a [])) A:=λ y9 A=>(zJ (zA rfl) (zA rfl)).trans (Qp ha')
 have ixb:∀y9 A,zj zz (zc 1) (zc 4) [some (.ref n),some (zC t),some (.int t.length),some (.int (a:Int)),some (.int (b:Int)),some v,some (.ref r),some (.tup w7),some (.tup w8),y9] A=.ok (zG (t.getD b [])) A:=λ y9 A=>(zJ (zA rfl) (zA rfl)).trans (Qp hb')
 have hra:(t.getD a []).length<=100:=by have:=h.sq _ (yu ha');omega
 have hrb:(t.getD b []).length<=100:=by have:=h.sq _ (yu hb');omega
 obtain ⟨r9,B9,e9,t9⟩:=VV (k:=7) (ρ:=[some (.ref n),some (zC t),some (.int t.length),some (.int (a:Int)),some (.int (b:Int)),some v,some (.ref r),some (.tup w7),some (.tup w8),none]) (a:=(zh (zc 7) (zh (zc 8) (zh (zc 8) (zh (zj zL (qJ (zc 1) (ja) (qC (zc 3))) (qJ (zc 1) (qC (zj zL (zc 3) (zi (.int 1)))) (ja))) (zh (zj zL (zj zL (qJ (zc 1) (ja) (qC (zc 3))) (qJ (zc 1) (qC (zc 3)) (qC (zj zL (zc 3) (zi (.int 1)))))) (qJ (zc 1) (qC (zc 3)) (ja))) (zh (z7 (zS (zc 1))) (zh (zy (zh (zc 1) (zp))) (zp)))))))))
  (qF (wd (xs:=w7) (λ _=>rfl) r7 (by omega)) (qF (wd (xs:=w8) (λ _=>rfl) r8 (by omega)) (qF (wd (xs:=w8) (λ _=>rfl) r8 (by omega))
   (qF (wd (g0 (c1 _) (c2 _) (by omega)) (ra.cut.app ra.cut) (by rw [List.length_append];omega))
   (qF (wd (g0 (g0 (c1 _) (c3 _) (by omega)) (c4 _) (by rw [List.length_append];omega)) ((ra.cut.app ra.cut).app ra.cut) (by rw [List.length_append,List.length_append];omega))
   (qF (λ A=>⟨_,_,kU (yQ (tt none A) rfl),Ext.one,.oth .lst Jv (by decide)⟩)
   (qF (wd (Wn (λ A=>zA rfl)) (RA.one (w:=zC t) λ A=>Pw h A) (by simp)) gX))))))) B7
 obtain ⟨r10,B10,e10,t10⟩:=Qo (k:=3) (i:=9) (ρ:=[some (.ref n),some (zC t),some (.int t.length),some (.int (a:Int)),some (.int (b:Int)),some v,some (.ref r),some (.tup w7),some (.tup w8),some (.ref r9)]) (a:=(zh (zj zL (zj zL (qJ (zc 1) (ja) (qC (zc 3))) (zy (zh (z7 (zS (zj zz (zc 1) (zc 3)))) (zp)))) (qJ (zc 1) (qC (zj zL (zc 3) (zi (.int 1)))) (ja))) (zh (zj zL (zj zL (qJ (zc 1) (ja) (qC (zc 3))) (zy (zh (qJ (zj zz (zc 1) (zc 3)) (ja) (qC (zc 4))) (zp)))) (qJ (zc 1) (qC (zj zL (zc 3) (zi (.int 1)))) (ja))) (zh (zi .non) (zp))))) t9
  (qF (λ A=>⟨.tup (j0 (t.map zG) none (some (a:Int))++[.ref A.length]++j0 (t.map zG) (some ((a:Int)+1)) none),A++[.lst ((t.getD a []).map W.int)],(zJ ((zJ (c1 _ A) (KR (qR (kU (yQ (ixa _ A) rfl)) je))).trans (by
    unfold zL
    dsimp only
    rw [if_pos (by unfold zW;simp;omega)])) (c2 _ _)).trans (by
    unfold zL
    dsimp only
    rw [if_pos (by unfold zW;rw [List.length_append];simp;omega)]),Ext.one,.tup _ rfl (by rw [List.length_append,List.length_append,List.length_singleton];omega) λ x hx=>by
    rcases List.mem_append.mp hx with hx | hx
    ·rcases List.mem_append.mp hx with hx | hx
     ·exact ra.cut x hx _
     ·rw [List.mem_singleton.mp hx];exact .oth .lst Jv (by decide)
    ·exact ra.cut x hx _⟩)
   (qF (wd (g0 (g0 (c1 _) (Wn (w:=.tup (j0 ((t.getD a []).map W.int) none (some (b:Int)))) λ A=>Ju (l:=none) (u:=some (b:Int)) (ixa _ A) rfl rfl) (by simp;omega)) (c2 _) (by rw [List.length_append,List.length_singleton];omega)) ((ra.cut.app (RA.one λ A=>.tup _ rfl (Nat.le_trans gh (by rw [List.length_map];exact hra)) λ x hx=>by
     obtain ⟨v,_,rfl⟩:=List.mem_map.mp (Ql hx)
     exact Qe v)).app ra.cut) (by rw [List.length_append,List.length_append,List.length_singleton];omega))
   (qF (jR (λ _=>rfl) rfl) gX))) rfl (by omega)
 obtain ⟨r11,B11,e11,t11⟩:=Qo (k:=4) (i:=9) (ρ:=[some (.ref n),some (zC t),some (.int t.length),some (.int (a:Int)),some (.int (b:Int)),some v,some (.ref r),some (.tup w7),some (.tup w8),some (.ref r10)]) (a:=(zh (JR (zc 1) (q9 kJ (zi (.int 1)))) (zh (zj zL (zj zL (qJ (zc 1) (ja) (qC (zc 3))) (zy (zh (zj zz (zc 1) (zc 4)) (zp)))) (qJ (zc 1) (qC (zj zL (zc 3) (zi (.int 1)))) (ja))) (zh (mQ jF (zR 1 [] (qc (qJ (zc 1) (qC (zi (.int 1))) (ja))) (zD 0) (zi (.bl true)) (zN (qJ (zc 0) (qC (zi (.int 1))) (ja))))) (zh (wj) (zp)))))) t10
  (qF (wd (xs:=(t.map zG).reverse) (λ A=>by
    unfold JR
    rw [tt _ A,zE]
    show R.bind (R.ok (some (-1:Int)) A) _=_
    rw [zE]
    dsimp only
    rw [if_pos ⟨λ z=>(by rw [List.map_eq_nil_iff] at z;rw [z] at n1;exact absurd n1 (by decide)),rfl⟩]) (λ x hx=>ra x (List.mem_reverse.mp hx)) (by rw [List.length_reverse];omega))
   (qF (wd (g0 (g0 (c1 _) (Wn (ixb _)) (by simp;omega)) (c2 _) (by rw [List.length_append,List.length_singleton];omega)) ((ra.cut.app (RA.one λ A=>X3 hrb)).app ra.cut) (by rw [List.length_append,List.length_append,List.length_singleton];omega))
   (qF (wd (xs:=(j0 (t.map zG) (some 1) none).map Ur) (λ A=>gY (KN (cap:=[]) (g:=Ur) (Ju (l:=some 1) (u:=none) (tt _ A) rfl rfl) (by have:=gh (xs:=t.map zG) (l:=some 1) (u:=none);unfold zW;omega) λ w hw=>by
     obtain ⟨rr,_,rfl⟩:=List.mem_map.mp (Ql hw)
     exact Ju (l:=some 1) (u:=none) (xs:=rr.map W.int) (zA rfl) rfl rfl)) (λ x hx A=>by
     obtain ⟨w,hw,rfl⟩:=List.mem_map.mp hx
     obtain ⟨rr,hrr,rfl⟩:=List.mem_map.mp (Ql hw)
     refine .tup _ rfl (Nat.le_trans gh (by rw [List.length_map];have:=h.sq rr hrr;omega)) λ x hx=>?_
     obtain ⟨v,_,rfl⟩:=List.mem_map.mp (Ql hx)
     exact Qe v) (by rw [List.length_map];have:=gh (xs:=t.map zG) (l:=some 1) (u:=none);omega))
   (qF VQ gX)))) rfl (by omega)
 obtain ⟨w,C,e12,hw,kn⟩:=VA (i:=9) (ρ:=[some (.ref n),some (zC t),some (.int t.length),some (.int (a:Int)),some (.int (b:Int)),some v,some (.ref r),some (.tup w7),some (.tup w8),some (.ref r11)]) (mm:=zi (.int 14)) (m:=14) k7'.st t11 rfl rfl (λ _=>rfl) rfl (by decide) (by decide)
 refine ⟨w,C,qQ ?_,hw,k7'.trans kn⟩
 refine (zQ (ρ1:=[some (.ref n),some (zC t),some (.int t.length),none,none,none,none,none,none,none]) (A1:=A) ((qz (hlen _ A rfl)).trans rfl)).trans ?_
 refine (zQ (ρ1:=[some (.ref n),some (zC t),some (.int t.length),some (.int a),some (.int b),none,none,none,none,none]) (A1:=B2) ?_).trans ?_
 ·unfold Gn
  rw [e1,zE,e2,zE]
  rfl
 exact (zQ ((qz ev).trans rfl)).trans ((zQ ((qz e4).trans rfl)).trans ((zQ e5).trans ((zQ ((qz e6).trans rfl)).trans ((zQ e7).trans ((zQ ((qz e8).trans rfl)).trans ((zQ ((qz e9).trans rfl)).trans ((zQ ((qz e10).trans rfl)).trans ((zQ ((qz e11).trans rfl)).trans (z9 (qS e12))))))))))
end
end G
namespace Mi
open PySem L2
theorem QH {A:Hx}{r s:Nat}{l m:List Int}(h:A[r]? =some (.lst (l.map W.int)))(h2:A[s]? =some (.lst (m.map W.int))):qG (.ref r) (.ref s) A=.ok (.bl (!decide (l=m))) A:=by
 show kq true _ _ A=_
 unfold kq
 rw [ZO h,ZO h2]
 dsimp only
 rw [PyData.eqv,Ke]
 rfl
end Mi
namespace G
open PySem L2 Mi
section
variable {n p f:Nat}{A:Hx}
theorem Og {x:Option W}(hp:A.length<=p)(hf:A.length<=f)(hn:n<A.length)(hpf:p≠f):∀(k fu:Nat) (l fd:List Int) (B:Hx),l.length=k->k<fu->fd.length+l.length<=100->Kn n A B->B[p]? =some (.lst (l.map W.int))->B[f]? =some (.lst (fd.map W.int))->
  ∃(B':Hx) (fd':List Int),wU (zj qG (zc 2) (zY (zp))) (zr (Zo (yF kD (zc 3) (yF k9 (zc 2) (zH qk (zh (zc 0) (zh (mQ qh (zS (zc 2))) (zp))))))) (zB)) fu [some (.ref n),x,some (.ref p),some (.ref f)] B=.ok (.nx [some (.ref n),x,some (.ref p),some (.ref f)]) B'/\Kn n A B'/\B'[f]? =some (.lst (fd'.map W.int))/\fd'.Perm (fd++l):=by
 intro k
 induction k with
 | zero=>
  intro fu l fd B hl hfu _ kn h1 h2
  obtain ⟨fu,rfl⟩:∃f',fu=f'+1:=⟨fu - 1,by omega⟩
  have:l=[]:=List.length_eq_zero_iff.mp hl
  subst this
  refine ⟨B++[.lst []],fd,?_,kn.trans (Kn.ext kn.st Ext.one),yk h2,by simp⟩
  unfold wU
  have ec:zj qG (zc 2) (zY (zp)) [some (.ref n),x,some (.ref p),some (.ref f)] B=.ok (.bl false) (B++[.lst []]):=(zJ (zA (i:=2) rfl) (j5 je)).trans (QH (l:=[]) (m:=[]) (yk h1) qZ)
  rw [ec,zE]
 | succ k ih=>
  intro fu l fd B hl hfu hfl kn h1 h2
  obtain ⟨fu,rfl⟩:∃f',fu=f'+1:=⟨fu - 1,by omega⟩
  have ec:zj qG (zc 2) (zY (zp)) [some (.ref n),x,some (.ref p),some (.ref f)] B=.ok (.bl true) (B++[.lst []]):=by
   refine (zJ (zA (i:=2) rfl) (j5 je)).trans ((QH (m:=[]) (yk h1) qZ).trans ?_)
   have hne:l≠[]:=λ e=>by rw [e] at hl;cases hl
   rw [decide_eq_false hne]
   rfl
  have kn1:=kn.trans (Kn.ext kn.st (Ext.one (o:=.lst [])))
  have g1:=yk (u:=.lst []) h1
  have g2:=yk (u:=.lst []) h2
  generalize B++[O.lst []]=B1 at ec kn1 g1 g2
  have elen:mQ qh (zS (zc 2)) [some (.ref n),x,some (.ref p),some (.ref f)] B1=.ok (.int (l.length:Int)) B1:=by
   rw [yS (yQ (w:=.ref p) (A1:=B1) (ws:=l.map W.int) (zA rfl) (by unfold zT;dsimp only;rw [g1]))]
   unfold qh
   rw [List.length_map]
  obtain ⟨q,B2,e1,hq',k2,_⟩:=kY (ρ:=[some (.ref n),x,some (.ref p),some (.ref f)]) kn1.st rfl elen (by omega) (by omega)
  have hq:q<l.length:=by omega
  have g1':=k2.kp.get g1 (by omega)
  have g2':=k2.kp.get g2 (by omega)
  have hw:(l.map W.int)[q]? =some (.int l[q]):=by rw [List.getElem?_map,List.getElem?_eq_getElem hq];rfl
  have e2:=(KO (g:=k9) (a:=zc 2) (zA rfl) g1 e1).trans (RQ g1' hw (by omega))
  rw [XM] at e2
  have g2'':(B2.set p (.lst ((l.eraseIdx q).map W.int)))[f]? =some (.lst (fd.map W.int)):=by rw [List.getElem?_set_ne hpf];exact g2'
  have e3:=(KO (g:=kD) (a:=zc 3) (zA rfl) g2 e2).trans (SU g2'' (by rw [List.length_map];omega))
  have hap:fd.map W.int++[.int l[q]]=(fd++[l[q]]).map W.int:=by rw [List.map_append];rfl
  rw [hap] at e3
  have hlen:(l.eraseIdx q).length=k:=by rw [List.length_eraseIdx_of_lt hq];omega
  have kn3:Kn n A ((B2.set p (.lst ((l.eraseIdx q).map W.int))).set f (.lst ((fd++[l[q]]).map W.int))):=⟨((kn1.trans k2).kp.put hp).put hf,((k2.st).put (by omega)).put (by omega)⟩
  obtain ⟨B',fd',e4,s4,a4,p4⟩:=ih fu (l.eraseIdx q) (fd++[l[q]]) _ hlen (by omega) (by rw [List.length_append,List.length_singleton];omega) kn3
   (by rw [List.getElem?_set_ne (Ne.symm hpf),List.getElem?_set_self (kB g1')]) (by rw [List.getElem?_set_self (kB g2'')])
  refine ⟨B',fd',?_,s4,a4,p4.trans ?_⟩
  ·unfold wU
   rw [ec,zE]
   dsimp only
   have eb:=(zQ (m2:=zB) (MY e3)).trans jB
   rw [eb,zE]
   exact e4
  ·rw [List.append_assoc]
   exact List.Perm.append_left fd (Xq (List.getElem?_eq_getElem hq)).symm
theorem Vq {q:Nat}{l:List Int}(s:qo n A)(h:A[q]? =some (.lst (l.map W.int)))(hl:l.length<=100):∃(r:Nat) (B:Hx) (fd:List Int),wy [.ref n,.ref q] A=.ok (.ref r) B/\B[r]? =some (.lst (fd.map W.int))/\fd.Perm l/\Kn n A B/\A.length<=r:=by
 unfold wy GQ
 unfold Yk
 have e1:z7 (zS (zc 1)) [some (.ref n),some (.ref q),none,none] A=.ok (.ref A.length) (A++[.lst (l.map W.int)]):=kU (yQ (w:=.ref q) (zA rfl) (by unfold zT;dsimp only;rw [h]))
 have x0:Ext A (A++[.lst (l.map W.int)]++[.lst []]):=Ext.one.app
 have hlen:(A++[O.lst (l.map W.int)]).length=A.length+1:=by simp
 have a2:(A++[.lst (l.map W.int)]++[.lst []])[A.length+1]? =some (.lst (([]:List Int).map W.int)):=by rw [<- hlen];exact qZ
 obtain ⟨B,fd,e2,kn,ef,pf⟩:=Og (A:=A) (p:=A.length) (f:=A.length+1) (x:=some (.ref q)) (Nat.le_refl _) (by omega) s.lt (by omega) l.length 1000 l [] _ rfl (by omega) (by simp;omega) (Kn.ext s x0) (yk qZ) a2
 refine ⟨A.length+1,B,fd,qQ ?_,ef,by simpa using pf,kn,by omega⟩
 refine (zQ ((qz e1).trans rfl)).trans ((zQ (ρ1:=[some (.ref n),some (.ref q),some (.ref A.length),some (.ref (A.length+1))]) (A1:=A++[.lst (l.map W.int)]++[.lst []]) ?_).trans ((zQ (m1:=Wh 1000 _ _) e2).trans (z9 (qS (zA rfl)))))
 refine (qz (j5 je)).trans ?_
 rw [hlen]
 rfl
end
end G
namespace Mi
open PySem L2
noncomputable def dist (t:List (List Int)):List Nat:=(List.range 8).filter λ i=>decide ((i:Int)∈t.flatten)
noncomputable def y0 (t:List (List Int))(v:Int):Int:=((dist t).idxOf v.toNat:Nat)
noncomputable def yg (t:List (List Int)):List (List Int):=t.map λ r=>r.map (y0 t)
theorem Qf {t:List (List Int)}{i:Nat}:i∈dist t↔i<8/\(i:Int)∈t.flatten:=by
 unfold dist
 rw [List.mem_filter,List.mem_range,decide_eq_true_iff]
theorem SN (t:List (List Int)):(dist t).Nodup:=List.Pairwise.filter _ List.nodup_range
theorem Xz:∀{l:List Int},(∀v∈l,0<=v/\v<8)->gq l=some (l.map Int.toNat)
 | [],_=>rfl
 | v::l,h=>by
  unfold gq
  rw [if_pos (h v (List.mem_cons_self ..)),Xz λ x hx=>h x (List.mem_cons_of_mem _ hx)]
  rfl
theorem Xv {A:Hx}:∀{kws:List (Nat × List W)},(∀p∈kws,A[p.1]? =some (.lst p.2))->kf A (kws.map λ (p:Nat × List W)=>W.ref p.1)=some (kws.map (·.2))
 | [],_=>rfl
 | p::kws,h=>by
  show (match A[p.1]? with | some (.lst ws)=>(kf A (kws.map λ (p:Nat × List W)=>W.ref p.1)).map (ws::·) | _=>none)=_
  rw [h p (List.mem_cons_self ..)]
  dsimp only
  rw [Xv λ x hx=>h x (List.mem_cons_of_mem _ hx)]
  rfl
theorem Vi (v:Nat):∀{l:List Nat},v∈l->wb (λ z=>PyData.eqv z (.int (v:Int))) (l.map λ (i:Nat)=>PyData.int (i:Int))=some (l.idxOf v)
 | [],h=>by cases h
 | a::l,h=>by
  rw [List.map_cons,wb,List.idxOf_cons]
  have:PyData.eqv (.int (a:Int)) (.int (v:Int))=(a==v):=by
   rw [PyData.eqv,Bool.eq_iff_iff]
   simp
   omega
  rw [this]
  by_cases q:a=v
  ·subst q
   simp
  ·have q':(a==v)=false:=by simp [q]
   rw [q',if_neg (by simp)]
   rw [Vi v ((List.mem_cons.mp h).resolve_left (Ne.symm q))]
   rfl
noncomputable def LL (t:List (List Int))(r:Nat)(B:Hx):Prop:=∃ks:List Nat,B[r]? =some (.lst (ks.map W.ref))/\ks.length=t.length/\∀i,i<t.length->B[ks.getD i 0]? =some (.lst ((t.getD i []).map W.int))
theorem KG {ws:List W}{m me:Ev}{ρ:En}{A:Hx}{cap:List Nat}{k:Nat}(h:m ρ A=.ok (.ref k) A)(hA:A[k]? =some (.lst ws))(hl:ws.length<=zW){g:W->W}(he:∀w∈ws,me (some w::cap.map λ i=>(ρ[i]?).join) A=.ok (g w) A):
  zR 1 cap (qc m) (zD 0) (zi (.bl true)) (zN me) ρ A=.ok (ws.map g) A:=by
 have e:=gO (cap:=cap) (me:=me) (ρ:=ρ) (A:=A) (N:=ws.length) (item:=λ i=>ws.getD i .non) (g:=λ i=>g (ws.getD i .non)) (Qj h hA) rfl hl
  (λ i hi=>(k6 hA).trans (by rw [List.getElem?_eq_getElem hi,List.getD_eq_getElem?_getD,List.getElem?_eq_getElem hi];rfl))
  ((k6 hA).trans (by rw [List.getElem?_eq_none (Nat.le_refl _)]))
  (λ i hi=>by
   have:ws.getD i .non=ws[i]:=by rw [List.getD_eq_getElem?_getD,List.getElem?_eq_getElem hi];rfl
   rw [this];exact he _ (List.getElem_mem hi))
 rw [e]
 congr 1
 apply List.ext_getElem
 ·simp
 ·intro i h1 h2
  have hi:i<ws.length:=by simpa using h2
  simp [List.getD_eq_getElem?_getD,List.getElem?_eq_getElem hi]
noncomputable def UR (f:Int->Int):W->W
 | .int v=>.int (f v)
 | w=>w
theorem Nd (f:Int->Int)(l:List Int):(l.map W.int).map (UR f)=(l.map f).map W.int:=by
 rw [List.map_map,List.map_map];rfl
end Mi
namespace G
open PySem L2 Mi
section
variable {t:List (List Int)}{r:Nat}{A:Hx}
theorem Rx {ρ:En}{B:Hx}{i:Nat}(h8:t.length<=8)(hL:LL t r B)(h0:ρ[i]? =some (some (.ref r))):z7 (zR 1 [] (qc (zc i)) (zD 0) (zi (.bl true)) (zN (z7 (zS (zc 0))))) ρ B=
  .ok (.ref (B.length+t.length)) (B++(t.map λ r=>O.lst (r.map W.int))++[O.lst ((List.range t.length).map λ i=>W.ref (B.length+i))]):=by
 obtain ⟨ks,e0,hk,hr⟩:=hL
 obtain ⟨ρ',acc',B',e,⟨z,g1⟩,g2,g3⟩:=Ki (nl:=1) (cap:=[]) (tw:=zD 0) (ifs:=zi (.bl true)) (em:=zN (z7 (zS (zc 0)))) (ρ:=ρ) (A:=B) (N:=t.length)
  (I:=λ p ρ' a C=>(∃z,ρ'=[z])/\C=B++((t.take p).map λ r=>O.lst (r.map W.int))/\a=(List.range p).map λ i=>W.ref (B.length+i)) (Qj (zA h0) e0) (by simp [hk])
  (λ p ρ' a C hp ⟨⟨z,f1⟩,f2,f3⟩=>by
   subst f1 f2 f3
   have hx:Ext B (B++((t.take p).map λ r=>O.lst (r.map W.int))):=⟨_,rfl⟩
   have hrow:=hx.at (hr p hp)
   have htp:t.getD p []=t[p]:=by rw [List.getD_eq_getElem?_getD,List.getElem?_eq_getElem hp];rfl
   rw [htp] at hrow
   refine ⟨.ref (ks.getD p 0),[some (.ref (ks.getD p 0))],?_,rfl,.inl ⟨_,_,_,_,rfl,KA (kU (yQ (w:=.ref (ks.getD p 0)) (ws:=t[p].map W.int) (zA rfl) (by unfold zT;dsimp only;rw [hrow]))) ?_,⟨_,rfl⟩,?_,?_⟩⟩
   ·refine (k6 (hx.at e0)).trans ?_
    rw [List.getElem?_map,List.getD_eq_getElem?_getD,List.getElem?_eq_getElem (by omega)];rfl
   ·simp;unfold zW;omega
   ·rw [take_succ hp,List.map_append,List.append_assoc];rfl
   ·rw [List.range_succ,List.map_append,List.length_append,List.length_map,List.length_take,Nat.min_eq_left (Nat.le_of_lt hp)];rfl)
  (λ ρ' a C ⟨_,f2,_⟩=>by
   subst f2
   exact (k6 (Ext.at ⟨_,rfl⟩ e0)).trans (by rw [List.getElem?_eq_none (by simp [hk])])) ⟨⟨none,rfl⟩,by simp,by simp⟩
 rw [kU e,g2,g3,List.take_length]
 simp
theorem LL.mono {A B:Hx}(x:Ext A B)(h:LL t r A):LL t r B:=by
 obtain ⟨ks,e0,hk,hr⟩:=h
 exact ⟨ks,x.at e0,hk,λ i hi=>x.at (hr i hi)⟩
theorem Vw (h1:1<=t.length)(h8:t.length<=8)(hq:Sq t)(hb:∀v∈t.flatten,0<=v/\v<8)(hL:LL t r A):∃B,y8 [.ref r] A=.ok (zC (yg t)) B/\Ext A B:=by
 have hfl:t.flatten.length<=64:=by
  have:∀l:List (List Int),(∀r∈l,r.length<=8)->l.flatten.length<=8 * l.length:=by
   intro l
   induction l with
   | nil=>intro _;simp
   | cons r l ih=>
    intro hr
    have h1:=hr r (List.mem_cons_self ..)
    have h2:=ih λ r' hr'=>hr r' (List.mem_cons_of_mem _ hr')
    rw [List.flatten_cons,List.length_append,List.length_cons]
    omega
  have:=this t λ r hr=>by rw [hq r hr];exact h8
  omega
 unfold y8 G3
 unfold YY
 have e1:=Rx (ρ:=[some (.ref r),none]) (i:=0) h8 hL rfl
 have x1:Ext A (A++(t.map λ r=>O.lst (r.map W.int))++[O.lst ((List.range t.length).map λ i=>W.ref (A.length+i))]):=⟨(t.map λ r=>O.lst (r.map W.int))++[O.lst ((List.range t.length).map λ i=>W.ref (A.length+i))],by rw [List.append_assoc]⟩
 have hrow:∀i,i<t.length->_:=λ i hi=>K7 (B:=A) (t:=t) (i:=i) hi
 have htop:=KC (B:=A) (t:=t)
 generalize A++(t.map λ r=>O.lst (r.map W.int))++[O.lst ((List.range t.length).map λ i=>W.ref (A.length+i))]=B1 at e1 x1 hrow htop
 have e2:zj wL (z7 (zR 1 [] (qc (zc 0)) (zD 0) (zi (.bl true)) (zN (z7 (zS (zc 0)))))) (zY (zp)) [some (.ref r),none] A=.ok (.ref (B1.length+1)) (B1++[.lst []]++[.lst (t.flatten.map W.int)]):=by
  refine (zJ e1 (j5 je)).trans ?_
  have hl:=Xv (A:=B1++[.lst []]) (kws:=(List.range t.length).map λ i=>(A.length+i,(t.getD i []).map W.int)) (λ p hp=>by
   obtain ⟨i,hi,rfl⟩:=List.mem_map.mp hp
   exact yk (hrow i (List.mem_range.mp hi)))
  rw [List.map_map,List.map_map] at hl
  have hl1:((λ p:Nat × List W=>W.ref p.1) ∘ λ i=>(A.length+i,(t.getD i []).map W.int))=λ i=>W.ref (A.length+i):=rfl
  have hl2:((λ p:Nat × List W=>p.2) ∘ λ i=>(A.length+i,(t.getD i []).map W.int))=λ i=>(t.getD i []).map W.int:=rfl
  rw [hl1,hl2,<- Z5 t [] λ r=>r.map W.int] at hl
  have hf:(t.map λ r=>r.map W.int).flatten=t.flatten.map W.int:=by rw [List.map_flatten]
  unfold wL
  dsimp only
  rw [yk htop,qZ]
  dsimp only
  rw [hl]
  dsimp only
  rw [if_pos ⟨λ z=>(by have:=congrArg List.length z;rw [List.length_map,List.length_range] at this;exact absurd this (by rw [List.length_nil];omega)),by rw [hf,List.length_map];unfold zW;omega⟩,hf]
  simp
 have x2:Ext A (B1++[.lst []]++[.lst (t.flatten.map W.int)]):=x1.app.app
 have hs2:(B1++[.lst []]++[.lst (t.flatten.map W.int)])[B1.length+1]? =some (.lst (t.flatten.map W.int)):=by
  have:B1.length+1=(B1++[O.lst []]).length:=by simp
  rw [this,qZ]
 generalize B1++[.lst []]++[.lst (t.flatten.map W.int)]=B2 at e2 x2 hs2
 have e3:Jg (zj wL (z7 (zR 1 [] (qc (zc 0)) (zD 0) (zi (.bl true)) (zN (z7 (zS (zc 0)))))) (zY (zp))) [some (.ref r),none] A=.ok (.ref B2.length) (B2++[.lst (((dist t).map λ (i:Nat)=>(i:Int)).map W.int)]):=by
  unfold Jg
  rw [e2,zE]
  unfold KL
  dsimp only
  rw [hs2]
  dsimp only
  rw [QZ]
  dsimp only
  rw [Xz hb]
  dsimp only
  have:((List.range 8).filter λ i=>decide (i∈t.flatten.map Int.toNat))=dist t:=by
   unfold dist
   apply List.filter_congr
   intro i _
   rw [decide_eq_decide]
   constructor
   ·intro z
    obtain ⟨v,hv,rfl⟩:=List.mem_map.mp z
    rw [Int.toNat_of_nonneg (hb v hv).1]
    exact hv
   ·intro z
    exact List.mem_map.mpr ⟨_,z,rfl⟩
  rw [this,List.map_map]
  rfl
 have x3:=x2.app (l:=[.lst (((dist t).map λ (i:Nat)=>(i:Int)).map W.int)])
 have hs3:(B2++[.lst (((dist t).map λ (i:Nat)=>(i:Int)).map W.int)])[B2.length]? =some (.lst (((dist t).map λ (i:Nat)=>(i:Int)).map W.int)):=qZ
 generalize B2++[.lst (((dist t).map λ (i:Nat)=>(i:Int)).map W.int)]=B3 at e3 x3 hs3
 obtain ⟨ks,k0,hk,hr⟩:=LL.mono x3 hL
 refine ⟨B3,qQ ((zQ ((qz e3).trans rfl)).trans (z9 (qS ?_))),x3⟩
 have idx:∀v,v∈t.flatten->k8 (.ref B2.length) (.int v) B3=.ok (.int (y0 t v)) B3:=λ v hv=>by
  obtain ⟨u,rfl⟩:=Int.eq_ofNat_of_zero_le (hb v hv).1
  have hm:u∈dist t:=Qf.mpr ⟨by have:=hb _ hv;omega,hv⟩
  unfold k8
  rw [ZO hs3]
  show (match wb (λ z=>PyData.eqv z (.int (u:Int))) (((dist t).map λ (i:Nat)=>(i:Int)).map PyData.int) with | some j=>if j<1000000 then R.ok (W.int (j:Int)) B3 else .bad | none=>.bad)=_
  have:((dist t).map λ (i:Nat)=>(i:Int)).map PyData.int=(dist t).map λ (i:Nat)=>PyData.int (i:Int):=by rw [List.map_map];rfl
  rw [this,Vi u hm]
  dsimp only
  have hl:(dist t).idxOf u<(dist t).length:=List.idxOf_lt_length_of_mem hm
  have hl8:(dist t).length<=8:=by unfold dist;exact Nat.le_trans (List.length_filter_le _ _) (by simp)
  rw [if_pos (by omega)]
  rfl
 have ec:=gO (cap:=[1]) (me:=mQ jF (zR 1 [1] (qc (zc 0)) (zD 0) (zi (.bl true)) (zN (yF k8 (zc 1) (zc 0))))) (ρ:=[some (.ref r),some (.ref B2.length)]) (A:=B3) (N:=t.length) (item:=λ i=>.ref (ks.getD i 0)) (g:=λ i=>zG ((t.getD i []).map (y0 t))) (Qj (zA (i:=0) rfl) k0) (by simp [hk]) (by unfold zW;omega)
  (λ j hj=>(k6 k0).trans (by rw [List.getElem?_map,List.getD_eq_getElem?_getD,List.getElem?_eq_getElem (by omega)];rfl)) ((k6 k0).trans (by rw [List.getElem?_eq_none (by simp [hk])]))
  (λ j hj=>by
   have:=KG (cap:=[1]) (m:=zc 0) (me:=yF k8 (zc 1) (zc 0)) (ρ:=[some (.ref (ks.getD j 0)),some (.ref B2.length)]) (g:=UR (y0 t)) (zA rfl) (hr j hj) (by rw [List.length_map,hq _ (yu hj)];unfold zW;omega) (λ w hw=>by
    obtain ⟨v,hv,rfl⟩:=List.mem_map.mp hw
    exact (KO (g:=k8) (zA rfl) hs3 (zA (i:=0) rfl)).trans (idx v (List.mem_flatten.mpr ⟨_,yu hj,hv⟩)))
   rw [Nd] at this
   exact gY this)
 refine (gY ec).trans ?_
 unfold zC yg
 rw [List.map_map,Z5 t [] (zG ∘ λ r=>r.map (y0 t))]
 rfl
theorem RM (h1:1<=t.length)(h8:t.length<=8)(hq:Sq t)(dg:∀a b,a<t.length->b<t.length->(at2 t a b=0↔a=b))(sy:∀a b,a<t.length->b<t.length->at2 t a b=at2 t b a)
  (lo:∀a b,a<t.length->b<t.length->0<=at2 t a b/\at2 t a b<(t.length:Int)):qW (yg t):=by
 have hb:∀v∈t.flatten,0<=v/\v<(t.length:Int):=λ v hv=>by
  obtain ⟨a,b,ha,hb,rfl⟩:=gk hq hv
  exact lo a b ha hb
 have hlen:(yg t).length=t.length:=by unfold yg;rw [List.length_map]
 have hsq:∀r∈yg t,r.length=t.length:=λ r hr=>by
  obtain ⟨s,hs,rfl⟩:=List.mem_map.mp hr
  rw [List.length_map];exact hq s hs
 have hat:∀a b,a<t.length->b<t.length->at2 (yg t) a b=y0 t (at2 t a b):=λ a b ha hb=>by
  have hra:=hq _ (yu ha)
  unfold at2 yg
  rw [List.getD_eq_getElem?_getD (l:=t.map _),List.getElem?_map,List.getElem?_eq_getElem ha]
  have e:t.getD a []=t[a]:=by rw [List.getD_eq_getElem?_getD,List.getElem?_eq_getElem ha];rfl
  rw [e] at hra ⊢
  show (t[a].map (y0 t)).getD b 0=_
  rw [List.getD_eq_getElem?_getD,List.getElem?_map,List.getD_eq_getElem?_getD,List.getElem?_eq_getElem (by omega)]
  rfl
 have mem:∀a b,a<t.length->b<t.length->(at2 t a b).toNat∈dist t:=λ a b ha hb'=>by
  obtain ⟨_,_,_,h4⟩:=ZJ hq ha hb'
  have:=hb _ h4
  rw [Qf,Int.toNat_of_nonneg this.1]
  exact ⟨by omega,h4⟩
 have nd:=SN t
 have dl:(dist t).length<=t.length:=by
  have:=Js t.length ((dist t).map λ (i:Nat)=>(i:Int)) (by
   rw [List.nodup_iff_pairwise_ne,List.pairwise_map]
   exact nd.imp λ h=>by omega) (λ r hr=>by
   obtain ⟨i,hi,rfl⟩:=List.mem_map.mp hr
   have:=hb _ (Qf.mp hi).2
   exact this)
  rw [List.length_map] at this
  exact this
 have z0:(0:Nat)∈dist t:=by
  have:=mem 0 0 (by omega) (by omega)
  rw [(dg 0 0 (by omega) (by omega)).mpr rfl] at this
  exact this
 have d0:∃l,dist t=0::l:=by
  have hr:List.range 8=0::[1,2,3,4,5,6,7]:=by decide
  have hz:=(Qf.mp z0).2
  refine ⟨[1,2,3,4,5,6,7].filter λ i=>decide ((i:Int)∈t.flatten),?_⟩
  unfold dist
  rw [hr,List.filter_cons_of_pos (by exact decide_eq_true hz)]
 obtain ⟨l0,hd0⟩:=d0
 have rlt:∀a b,a<t.length->b<t.length->0<=y0 t (at2 t a b)/\y0 t (at2 t a b)<(t.length:Int):=λ a b ha hb'=>by
  have:=List.idxOf_lt_length_of_mem (mem a b ha hb')
  unfold y0
  omega
 refine ⟨by omega,by omega,λ r hr=>by rw [hlen];exact hsq r hr,λ r hr v hv=>?_,λ a b ha hb'=>?_,λ a b ha hb'=>?_,λ k hk=>?_⟩
 ·have:v∈(yg t).flatten:=List.mem_flatten.mpr ⟨r,hr,hv⟩
  obtain ⟨a,b,ha,hb',e⟩:=gk (λ r hr=>by rw [hlen];exact hsq r hr) this
  rw [hlen] at ha hb' ⊢
  rw [<- e,hat a b ha hb']
  exact rlt a b ha hb'
 ·rw [hlen] at ha hb'
  rw [hat a b ha hb',<- dg a b ha hb']
  unfold y0
  have m:=mem a b ha hb'
  have hv:=lo a b ha hb'
  constructor
  ·intro e
   have e0:(dist t).idxOf (at2 t a b).toNat=0:=by omega
   have hl:=List.idxOf_lt_length_of_mem m
   have:=List.getElem_idxOf hl
   have h0:(dist t)[(dist t).idxOf (at2 t a b).toNat]? =some (at2 t a b).toNat:=by rw [List.getElem?_eq_getElem hl,this]
   rw [e0,hd0] at h0
   simp at h0
   omega
  ·intro e
   rw [e,hd0]
   simp
 ·rw [hlen] at ha hb'
  rw [hat a b ha hb',hat b a hb' ha,sy a b ha hb']
 ·obtain ⟨v,hv,hk⟩:=hk
  obtain ⟨a,b,ha,hb',e⟩:=gk (λ r hr=>by rw [hlen];exact hsq r hr) hv
  rw [hlen] at ha hb'
  rw [hat a b ha hb'] at e
  have hl:=List.idxOf_lt_length_of_mem (mem a b ha hb')
  have hkl:k<(dist t).length:=by unfold y0 at e;omega
  have hd:=Qf.mp (List.getElem_mem hkl)
  obtain ⟨c,d,hc,hd',e2⟩:=gk hq hd.2
  have e3:at2 (yg t) c d=(k:Int):=by
   rw [hat c d hc hd',e2]
   unfold y0
   rw [Int.toNat_natCast,nd.idxOf_getElem k hkl]
  obtain ⟨_,_,_,h4⟩:=ZJ (t:=yg t) (λ r hr=>by rw [hlen];exact hsq r hr) (by omega:c<(yg t).length) (by omega:d<(yg t).length)
  rw [e3] at h4
  exact h4
end
end G
namespace Mi
open PySem L2
noncomputable def yY:Nat->List (List Int)
 | 0=>[[0,1,2,3,4,3,2,1],[1,0,1,2,3,4,3,2],[2,1,0,1,2,3,4,3],[3,2,1,0,1,2,3,4],[4,3,2,1,0,1,2,3],[3,4,3,2,1,0,1,2],[2,3,4,3,2,1,0,1],[1,2,3,4,3,2,1,0]]
 | 1=>[[0,1,2,3,3,2,1],[1,0,1,2,3,3,2],[2,1,0,1,2,3,3],[3,2,1,0,1,2,3],[3,3,2,1,0,1,2],[2,3,3,2,1,0,1],[1,2,3,3,2,1,0]]
 | 2=>[[0,1,2,3,2,1],[1,0,1,2,3,2],[2,1,0,1,2,3],[3,2,1,0,1,2],[2,3,2,1,0,1],[1,2,3,2,1,0]]
 | 3=>[[0,1,2,2,1],[1,0,1,2,2],[2,1,0,1,2],[2,2,1,0,1],[1,2,2,1,0]]
 | 4=>[[0,1,2,1],[1,0,1,2],[2,1,0,1],[1,2,1,0]]
 | 5=>[[0,1,1],[1,0,1],[1,1,0]]
 | 6=>[[0,1],[1,0]]
 | 7=>[[0]]
 | 8=>[[0,1,1,2,1,2,2,3],[1,0,2,1,2,1,3,2],[1,2,0,1,2,3,1,2],[2,1,1,0,3,2,2,1],[1,2,2,3,0,1,1,2],[2,1,3,2,1,0,2,1],[2,3,1,2,1,2,0,1],[3,2,2,1,2,1,1,0]]
 | 9=>[[0,1,1,2],[1,0,2,1],[1,2,0,1],[2,1,1,0]]
 | 10=>[[0,1],[1,0]]
 | 11=>[[0,1,1,1,1,1,1,1],[1,0,1,1,1,1,1,1],[1,1,0,1,1,1,1,1],[1,1,1,0,1,1,1,1],[1,1,1,1,0,1,1,1],[1,1,1,1,1,0,1,1],[1,1,1,1,1,1,0,1],[1,1,1,1,1,1,1,0]]
 | 12=>[[0,1,1,1,1,1,1],[1,0,1,1,1,1,1],[1,1,0,1,1,1,1],[1,1,1,0,1,1,1],[1,1,1,1,0,1,1],[1,1,1,1,1,0,1],[1,1,1,1,1,1,0]]
 | 13=>[[0,1,1,1,1,1],[1,0,1,1,1,1],[1,1,0,1,1,1],[1,1,1,0,1,1],[1,1,1,1,0,1],[1,1,1,1,1,0]]
 | 14=>[[0,1,1,1,1],[1,0,1,1,1],[1,1,0,1,1],[1,1,1,0,1],[1,1,1,1,0]]
 | 15=>[[0,1,1,1],[1,0,1,1],[1,1,0,1],[1,1,1,0]]
 | 16=>[[0,1,1],[1,0,1],[1,1,0]]
 | 17=>[[0,1],[1,0]]
 | 18=>[[0]]
 | 19=>[[0,1,2,2,2,2,2,2],[1,0,2,2,2,2,2,2],[2,2,0,1,2,2,2,2],[2,2,1,0,2,2,2,2],[2,2,2,2,0,1,2,2],[2,2,2,2,1,0,2,2],[2,2,2,2,2,2,0,1],[2,2,2,2,2,2,1,0]]
 | 20=>[[0,1,1,1,2,2,2,2],[1,0,1,1,2,2,2,2],[1,1,0,1,2,2,2,2],[1,1,1,0,2,2,2,2],[2,2,2,2,0,1,1,1],[2,2,2,2,1,0,1,1],[2,2,2,2,1,1,0,1],[2,2,2,2,1,1,1,0]]
 | 21=>[[0,1,2,2,2,2],[1,0,2,2,2,2],[2,2,0,1,2,2],[2,2,1,0,2,2],[2,2,2,2,0,1],[2,2,2,2,1,0]]
 | 22=>[[0,1,1,2,2,2],[1,0,1,2,2,2],[1,1,0,2,2,2],[2,2,2,0,1,1],[2,2,2,1,0,1],[2,2,2,1,1,0]]
 | 23=>[[0,1,2,2],[1,0,2,2],[2,2,0,1],[2,2,1,0]]
 | 24=>[[0,1,1,1,1,2],[1,0,1,1,2,1],[1,1,0,2,1,1],[1,1,2,0,1,1],[1,2,1,1,0,1],[2,1,1,1,1,0]]
 | 25=>[[0,1,2,3],[1,0,3,2],[2,3,0,1],[3,2,1,0]]
 | 26=>[[0,1,2,3,4,5,6,7],[1,0,3,2,5,4,7,6],[2,3,0,1,6,7,4,5],[3,2,1,0,7,6,5,4],[4,5,6,7,0,1,2,3],[5,4,7,6,1,0,3,2],[6,7,4,5,2,3,0,1],[7,6,5,4,3,2,1,0]]
 | 27=>[[0,1],[1,0]]
 | 28=>[[0,1,2,1,3,4,5,4],[1,0,1,2,4,3,4,5],[2,1,0,1,5,4,3,4],[1,2,1,0,4,5,4,3],[3,4,5,4,0,1,2,1],[4,3,4,5,1,0,1,2],[5,4,3,4,2,1,0,1],[4,5,4,3,1,2,1,0]]
 | 29=>[[0,1,1,3,4,4],[1,0,1,4,3,4],[1,1,0,4,4,3],[3,4,4,0,1,1],[4,3,4,1,0,1],[4,4,3,1,1,0]]
 | 30=>[[0,1,3,4],[1,0,4,3],[3,4,0,1],[4,3,1,0]]
 | 31=>[[0,1,2,1,3,3,3,3],[1,0,1,2,3,3,3,3],[2,1,0,1,3,3,3,3],[1,2,1,0,3,3,3,3],[3,3,3,3,0,1,2,1],[3,3,3,3,1,0,1,2],[3,3,3,3,2,1,0,1],[3,3,3,3,1,2,1,0]]
 | 32=>[[0,1,1,3,3,3],[1,0,1,3,3,3],[1,1,0,3,3,3],[3,3,3,0,1,1],[3,3,3,1,0,1],[3,3,3,1,1,0]]
 | 33=>[[0,1,3,3],[1,0,3,3],[3,3,0,1],[3,3,1,0]]
 | _=>[]
theorem Mh:((List.range 34).all λ i=>Gm (yg (yY i))&&((yY i).all λ r=>r.length==(yY i).length)&&((yY i).flatten.all λ v=>decide (0<=v)&&decide (v<8)))=true:=by decide +kernel
theorem NF {i:Nat}(h:i<34):qW (yg (yY i))/\G.Sq (yY i)/\∀v∈(yY i).flatten,0<=v/\v<8:=by
 have:=List.all_eq_true.mp Mh i (List.mem_range.mpr h)
 rw [Bool.and_eq_true,Bool.and_eq_true] at this
 refine ⟨VI this.1.1,λ r hr=>?_,λ v hv=>?_⟩
 ·exact eq_of_beq (List.all_eq_true.mp this.1.2 r hr)
 ·have:=List.all_eq_true.mp this.2 v hv
  rw [Bool.and_eq_true,decide_eq_true_iff,decide_eq_true_iff] at this
  exact this
theorem VM {A:Hx}:∀{us:List W} {wss:List (List W)},kf A us=some wss->∃ks:List Nat,us=ks.map W.ref/\ks.length=wss.length/\∀i,i<wss.length->A[ks.getD i 0]? =some (.lst (wss.getD i []))
 | [],wss,e=>by
  cases e
  exact ⟨[],rfl,rfl,λ i hi=>by cases hi⟩
 | .ref k::us,wss,e=>by
  unfold kf at e
  cases h:A[k]? with
  | none=>rw [h] at e;cases e
  | some o=>
   rw [h] at e
   cases o with
   | lst ws=>
    dsimp only at e
    cases h2:kf A us with
    | none=>rw [h2] at e;cases e
    | some vss=>
     rw [h2] at e
     cases e
     obtain ⟨ks,rfl,hl,hk⟩:=VM h2
     refine ⟨k::ks,rfl,by simp [hl],λ i hi=>?_⟩
     cases i with
     | zero=>exact h
     | succ i=>exact hk i (by simpa using hi)
   | _=>cases e
 | .non::_,_,e=>by cases e
 | .bl _::_,_,e=>by cases e
 | .int _::_,_,e=>by cases e
 | .str _::_,_,e=>by cases e
 | .tup _::_,_,e=>by cases e
 | .clo _ _ _::_,_,e=>by cases e
 | .xc _::_,_,e=>by cases e
noncomputable def Gk (x:R Fl):Option (Option O × Option (List (List W))):=match x with
 | .ok (.rt (.ref r)) B=>some (B[0]?,match B[r]? with
  | some (.lst us)=>kf B us
  | _=>none)
 | _=>none
theorem NZ {x:R Fl}{o:O}{t:List (List Int)}(h:Gk x=some (some o,some (t.map λ r=>r.map W.int))):∃r B,x=.ok (.rt (.ref r)) B/\B[0]? =some o/\LL t r B:=by
 unfold Gk at h
 split at h
 ·rename_i r B
  injection h with h
  injection h with h1 h2
  cases h3:B[r]? with
  | none=>rw [h3] at h2;cases h2
  | some o'=>
   rw [h3] at h2
   cases o' with
   | lst us=>
    dsimp only at h2
    obtain ⟨ks,rfl,hl,hk⟩:=VM h2
    rw [List.length_map] at hl hk
    refine ⟨r,B,rfl,h1,ks,h3,hl,λ i hi=>(hk i hi).trans ?_⟩
    rw [List.getD_eq_getElem?_getD,List.getElem?_map,List.getD_eq_getElem?_getD,List.getElem?_eq_getElem hi]
    rfl
   | _=>cases h2
 ·cases h
end Mi
namespace G
open PySem L2 Mi
noncomputable def Plain (X:Ex)(ρ:En)(A:Hx):Prop:=∃i,i<34/\∃r B,X ρ A=.ok (.rt (.ref r)) B/\qo 0 B/\LL (yY i) r B
section
variable {m1 m2:Ex}{ρ ρ1:En}{A A1 L:Hx}{c:Ev}{o:O}
theorem kh (h:m1 ρ A=.ok (.nx ρ1) A1)(q:Plain m2 ρ1 A1):Plain (zr m1 m2) ρ A:=by
 unfold Plain;rw [zQ h];exact q
theorem ZQ (q:Plain m1 ρ A):Plain (zr m1 m2) ρ A:=by
 obtain ⟨i,hi,r,B,e,s,l⟩:=q
 exact ⟨i,hi,r,B,z9 e,s,l⟩
theorem ZX (h:c ρ A=.ok (.bl true) A1)(q:Plain m1 ρ A1):Plain (qw c m1 m2) ρ A:=by
 unfold Plain;rw [yv h];exact q
theorem jm {m:Ex}(h:c ρ A=.ok (.bl false) A)(q:Plain m ρ A):Plain (zr (qw c m1 zB) m) ρ A:=kh ((ym h).trans jB) q
theorem Mz {L':Hx}(s:qo 0 (o::L)):qo 0 (o::L'):=s
theorem qN (i:Nat)(hi:i<34)(s:qo 0 (o::L))(h:Gk (m1 ρ A)=some (some o,some ((yY i).map λ r=>r.map W.int))):Plain m1 ρ A:=by
 obtain ⟨r,B,e,h0,l⟩:=NZ h
 obtain ⟨c,b,e1,q⟩:=s
 have e1':some o=some (O.lst [.int c,.bl b]):=e1
 exact ⟨i,hi,r,B,e,⟨c,b,by rw [h0];exact e1',q⟩,l⟩
theorem take1 (s:qo 0 (o::L)){m:Int}(h1:0<m)(h2:m<1000):∃(r:Nat) (o':O),qk [.ref 0,.int m] (o::L)=.ok (.int (r:Int)) (o'::L)/\(r:Int)<m/\qo 0 (o'::L):=by
 obtain ⟨r,o',e,a,b,s'⟩:=VT s h1 h2
 exact ⟨r.toNat,o',by rw [e,Int.toNat_of_nonneg a];rfl,by omega,s'⟩
theorem ZC {a:Ea}{vs:List W}{k:Nat}(s:qo 0 (o::L))(h0:ρ[0]? =some (some (.ref 0)))(ha:∀A,a ρ A=.ok vs A)(hk:vs.length=k)(k1:0<k)(k2:k<1000):∃(j:Nat) (w:W) (o':O),zj zz (zY a) (zH qk (zh (zc 0) (zh (zi (.int (k:Int))) (zp)))) ρ (o::L)=.ok w (o'::(L++[.lst vs]))/\j<k/\vs[j]? =some w/\qo 0 (o'::(L++[.lst vs])):=by
 obtain ⟨r,o',e,hr,s'⟩:=take1 (L:=L++[.lst vs]) (m:=(k:Int)) (Mz s) (by omega) (by omega)
 have hrl:r<vs.length:=by omega
 refine ⟨r,vs[r],o',?_,by omega,List.getElem?_eq_getElem hrl,s'⟩
 refine (zJ (j5 (ha _)) ((jj (qR (zA h0) (qR qv je))).trans e)).trans ?_
 have hl:(o'::(L++[O.lst vs]))[(o::L).length]? =some (.lst vs):=by
  show (L++[O.lst vs])[L.length]? =_
  exact qZ
 exact kW hl (List.getElem?_eq_getElem hrl)
end
theorem three {j:Nat}(h:j<3):j=0∨j=1∨j=2:=by omega
theorem W9 {j:Nat}(h:j<5):j=0∨j=1∨j=2∨j=3∨j=4:=by omega
theorem WJ {j:Nat}(h:j<8):j=0∨j=1∨j=2∨j=3∨j=4∨j=5∨j=6∨j=7:=by omega
theorem NW {o:O}(s:qo 0 [o]):Plain (QU qk) [some (.ref 0),none,none,none,none,none,none,none,none,none,none] [o]:=by
 unfold QU
 obtain ⟨way,o1,e1,hw,s1⟩:=take1 s (m:=8) (by decide) (by decide)
 refine kh (ρ1:=[some (.ref 0),some (.int (way:Int)),none,none,none,none,none,none,none,none,none]) (A1:=[o1]) ((qz ((jj (ws:=[.ref 0,.int 8]) (A1:=[o]) rfl).trans e1)).trans rfl) ?_
 obtain ⟨j,w,o2,e2,hj,hjw,s2⟩:=ZC (k:=8) (ρ:=[some (.ref 0),some (.int (way:Int)),none,none,none,none,none,none,none,none,none]) (a:=zh (zi (.int 8)) (zh (zi (.int 7)) (zh (zi (.int 6)) (zh (zi (.int 5)) (zh (zi (.int 4)) (zh (zi (.int 3)) (zh (zi (.int 2)) (zh (zi (.int 1)) (zp))))))))) (vs:=[.int 8,.int 7,.int 6,.int 5,.int 4,.int 3,.int 2,.int 1]) s1 rfl (λ _=>rfl) rfl (by decide) (by decide)
 refine kh (ρ1:=[some (.ref 0),some (.int (way:Int)),some w,none,none,none,none,none,none,none,none]) (A1:=[o2,.lst [.int 8,.int 7,.int 6,.int 5,.int 4,.int 3,.int 2,.int 1]]) ((qz e2).trans rfl) ?_
 have hway:way<8:=by omega
 clear e1 e2 hw s s1
 rcases WJ hway with rfl | rfl | rfl | rfl | rfl | rfl | rfl | rfl
 ·refine ZQ (ZX (A1:=[o2,.lst [.int 8,.int 7,.int 6,.int 5,.int 4,.int 3,.int 2,.int 1]]) (by kernel_rfl) ?_)
  rcases WJ hj with rfl | rfl | rfl | rfl | rfl | rfl | rfl | rfl<;>cases hjw
  ·exact qN 0 (by decide) s2 (by kernel_rfl)
  ·exact qN 1 (by decide) s2 (by kernel_rfl)
  ·exact qN 2 (by decide) s2 (by kernel_rfl)
  ·exact qN 3 (by decide) s2 (by kernel_rfl)
  ·exact qN 4 (by decide) s2 (by kernel_rfl)
  ·exact qN 5 (by decide) s2 (by kernel_rfl)
  ·exact qN 6 (by decide) s2 (by kernel_rfl)
  ·exact qN 7 (by decide) s2 (by kernel_rfl)
 ·refine jm (by kernel_rfl) (ZQ (ZX (A1:=[o2,.lst [.int 8,.int 7,.int 6,.int 5,.int 4,.int 3,.int 2,.int 1]]) (by kernel_rfl) ?_))
  obtain ⟨j',w',o3,e3,hj',hjw',s3⟩:=ZC (k:=3) (ρ:=[some (.ref 0),some (.int ((1:Nat):Int)),some w,none,none,none,none,none,none,none,none]) (a:=zh (zi (.int 8)) (zh (zi (.int 4)) (zh (zi (.int 2)) (zp)))) (vs:=[.int 8,.int 4,.int 2]) s2 rfl (λ _=>rfl) rfl (by decide) (by decide)
  refine kh ((qz e3).trans rfl) ?_
  rcases three hj' with rfl | rfl | rfl<;>cases hjw'
  ·exact qN 8 (by decide) s3 (by kernel_rfl)
  ·exact qN 9 (by decide) s3 (by kernel_rfl)
  ·exact qN 10 (by decide) s3 (by kernel_rfl)
 ·refine jm (by kernel_rfl) (jm (by kernel_rfl) (ZQ (ZX (A1:=[o2,.lst [.int 8,.int 7,.int 6,.int 5,.int 4,.int 3,.int 2,.int 1]]) (by kernel_rfl) ?_)))
  rcases WJ hj with rfl | rfl | rfl | rfl | rfl | rfl | rfl | rfl<;>cases hjw
  ·exact qN 11 (by decide) s2 (by kernel_rfl)
  ·exact qN 12 (by decide) s2 (by kernel_rfl)
  ·exact qN 13 (by decide) s2 (by kernel_rfl)
  ·exact qN 14 (by decide) s2 (by kernel_rfl)
  ·exact qN 15 (by decide) s2 (by kernel_rfl)
  ·exact qN 16 (by decide) s2 (by kernel_rfl)
  ·exact qN 17 (by decide) s2 (by kernel_rfl)
  ·exact qN 18 (by decide) s2 (by kernel_rfl)
 ·refine jm (by kernel_rfl) (jm (by kernel_rfl) (jm (by kernel_rfl) (ZQ (ZX (A1:=[o2,.lst [.int 8,.int 7,.int 6,.int 5,.int 4,.int 3,.int 2,.int 1]]) (by kernel_rfl) ?_))))
  obtain ⟨j',w',o3,e3,hj',hjw',s3⟩:=ZC (k:=5) (ρ:=[some (.ref 0),some (.int ((3:Nat):Int)),some w,none,none,none,none,none,none,none,none]) (a:=zh (zy (zh (zi (.int 2)) (zh (zi (.int 4)) (zp)))) (zh (zy (zh (zi (.int 4)) (zh (zi (.int 2)) (zp)))) (zh (zy (zh (zi (.int 2)) (zh (zi (.int 3)) (zp)))) (zh (zy (zh (zi (.int 3)) (zh (zi (.int 2)) (zp)))) (zh (zy (zh (zi (.int 2)) (zh (zi (.int 2)) (zp)))) (zp)))))) (vs:=[.tup [.int 2,.int 4],.tup [.int 4,.int 2],.tup [.int 2,.int 3],.tup [.int 3,.int 2],.tup [.int 2,.int 2]]) s2 rfl (λ _=>rfl) rfl (by decide) (by decide)
  have asg:∀{m:Ev} {tw:Tg} {ρ ρ':En} {A A1:Hx} {w:W},m ρ A=.ok w A1->tw w ρ=some ρ'->JM m tw ρ A=.ok (.nx ρ') A1:=λ h h'=>by
   unfold JM
   rw [h,zE,h']
  rcases W9 hj' with rfl | rfl | rfl | rfl | rfl<;>cases hjw'
  ·exact kh (asg e3 rfl) (qN 19 (by decide) s3 (by kernel_rfl))
  ·exact kh (asg e3 rfl) (qN 20 (by decide) s3 (by kernel_rfl))
  ·exact kh (asg e3 rfl) (qN 21 (by decide) s3 (by kernel_rfl))
  ·exact kh (asg e3 rfl) (qN 22 (by decide) s3 (by kernel_rfl))
  ·exact kh (asg e3 rfl) (qN 23 (by decide) s3 (by kernel_rfl))
 ·exact jm (by kernel_rfl) (jm (by kernel_rfl) (jm (by kernel_rfl) (jm (by kernel_rfl) (ZQ (ZX (A1:=[o2,.lst [.int 8,.int 7,.int 6,.int 5,.int 4,.int 3,.int 2,.int 1]]) (by kernel_rfl) (qN 24 (by decide) s2 (by kernel_rfl)))))))
 ·refine jm (by kernel_rfl) (jm (by kernel_rfl) (jm (by kernel_rfl) (jm (by kernel_rfl) (jm (by kernel_rfl) (ZQ (ZX (A1:=[o2,.lst [.int 8,.int 7,.int 6,.int 5,.int 4,.int 3,.int 2,.int 1]]) (by kernel_rfl) ?_))))))
  obtain ⟨j',w',o3,e3,hj',hjw',s3⟩:=ZC (k:=3) (ρ:=[some (.ref 0),some (.int ((5:Nat):Int)),some w,none,none,none,none,none,none,none,none]) (a:=zh (zi (.int 4)) (zh (zi (.int 8)) (zh (zi (.int 2)) (zp)))) (vs:=[.int 4,.int 8,.int 2]) s2 rfl (λ _=>rfl) rfl (by decide) (by decide)
  refine kh ((qz e3).trans rfl) ?_
  rcases three hj' with rfl | rfl | rfl<;>cases hjw'
  ·exact qN 25 (by decide) s3 (by kernel_rfl)
  ·exact qN 26 (by decide) s3 (by kernel_rfl)
  ·exact qN 27 (by decide) s3 (by kernel_rfl)
 ·refine jm (by kernel_rfl) (jm (by kernel_rfl) (jm (by kernel_rfl) (jm (by kernel_rfl) (jm (by kernel_rfl) (jm (by kernel_rfl) ?_)))))
  obtain ⟨j',w',o3,e3,hj',hjw',s3⟩:=ZC (k:=3) (ρ:=[some (.ref 0),some (.int ((6:Nat):Int)),some w,none,none,none,none,none,none,none,none]) (a:=zh (zi (.int 4)) (zh (zi (.int 3)) (zh (zi (.int 2)) (zp)))) (vs:=[.int 4,.int 3,.int 2]) s2 rfl (λ _=>rfl) rfl (by decide) (by decide)
  refine kh ((qz e3).trans rfl) ?_
  rcases three hj' with rfl | rfl | rfl<;>cases hjw'
  ·exact qN 28 (by decide) s3 (by kernel_rfl)
  ·exact qN 29 (by decide) s3 (by kernel_rfl)
  ·exact qN 30 (by decide) s3 (by kernel_rfl)
 ·refine jm (by kernel_rfl) (jm (by kernel_rfl) (jm (by kernel_rfl) (jm (by kernel_rfl) (jm (by kernel_rfl) (jm (by kernel_rfl) ?_)))))
  obtain ⟨j',w',o3,e3,hj',hjw',s3⟩:=ZC (k:=3) (ρ:=[some (.ref 0),some (.int ((7:Nat):Int)),some w,none,none,none,none,none,none,none,none]) (a:=zh (zi (.int 4)) (zh (zi (.int 3)) (zh (zi (.int 2)) (zp)))) (vs:=[.int 4,.int 3,.int 2]) s2 rfl (λ _=>rfl) rfl (by decide) (by decide)
  refine kh ((qz e3).trans rfl) ?_
  rcases three hj' with rfl | rfl | rfl<;>cases hjw'
  ·exact qN 31 (by decide) s3 (by kernel_rfl)
  ·exact qN 32 (by decide) s3 (by kernel_rfl)
  ·exact qN 33 (by decide) s3 (by kernel_rfl)
theorem NM {o:O}(s:qo 0 [o]):∃i,i<34/\∃r B,Zw [.ref 0] [o]=.ok (.ref r) B/\qo 0 B/\LL (yY i) r B:=by
 obtain ⟨i,hi,r,B,e,q⟩:=NW s
 refine ⟨i,hi,r,B,?_,q⟩
 unfold Zw G5
 exact qQ e
end G
namespace Mi
open PySem L2
noncomputable def Gv (g:Nat->W):W->W
 | .int v=>g v.toNat
 | w=>w
theorem Vu (g:Nat->W)(o:List Nat):((o.map λ (a:Nat)=>(a:Int)).map W.int).map (Gv g)=o.map g:=by
 rw [List.map_map,List.map_map]
 apply List.map_congr_left
 intro a _
 show g (Int.toNat (a:Int))=g a
 rw [Int.toNat_natCast]
theorem X9 {fd:List Int}{M:Nat}{s:Int}(h:fd.Perm ((List.range M).map λ (k:Nat)=>s+(k:Int))):∃p:List Nat,fd=p.map (λ (k:Nat)=>s+(k:Int))/\p.Perm (List.range M):=by
 refine ⟨fd.map λ v=>(v - s).toNat,?_,?_⟩
 ·rw [List.map_map]
  conv=>lhs;rw [<- List.map_id fd]
  apply List.map_congr_left
  intro v hv
  obtain ⟨k,_,rfl⟩:=List.mem_map.mp (h.mem_iff.mp hv)
  show s+(k:Int)=s+(((s+(k:Int) - s).toNat:Nat):Int)
  omega
 ·have:=h.map λ v=>(v - s).toNat
  rw [List.map_map] at this
  have e:(List.range M).map ((λ v:Int=>(v - s).toNat) ∘ λ (k:Nat)=>s+(k:Int))=List.range M:=by
   conv=>rhs;rw [<- List.map_id (List.range M)]
   apply List.map_congr_left
   intro k _
   show (s+(k:Int) - s).toNat=k
   omega
  rw [e] at this
  exact this
end Mi
namespace G
open PySem L2 Mi
section
variable {t:List (List Int)}{A B:Hx}{ρ:En}{n:Nat}
theorem OL (h:qW t){i:Nat}(hi:ρ[i]? =some (some (zC t))):mQ j8 (zR 1 [] (qc (zc i)) (zD 0) (zi (.bl true)) (zN (mQ j8 (zS (zc 0))))) ρ A=.ok (.int (yc t - 1)) A:=by
 have n8:=h.n8
 have ec:=XW (cap:=[]) (A:=A) (ρ:=ρ) (o:=t) (f:=zG) (m:=zc i) (me:=mQ j8 (zS (zc 0))) (G:=λ r=>.int (yM r)) (zA hi) (by unfold zW;omega) (λ r hr=>(yS (yQ (w:=zG r) (ws:=r.map W.int) (A1:=A) (zA rfl) rfl)).trans (Vv (h.row_ne hr)))
 have em:(t.map λ r=>W.int (yM r))=(t.map yM).map W.int:=by rw [List.map_map];rfl
 rw [em] at ec
 refine ((yS ec).trans (Vv h.map_ne)).trans ?_
 have:yc t - 1=yM (t.map yM):=by unfold yc;omega
 rw [this]
theorem R7 {ma mb:Ev}{M:Nat}(ha:ma ρ A=.ok (.int 1) A)(hb:mb ρ A=.ok (.int (1+(M:Int))) A)(hM:M<=100):Qk ma mb ρ A=.ok (.ref A.length) (A++[.lst (((List.range M).map λ (k:Nat)=>1+(k:Int)).map W.int)]):=by
 unfold Qk
 rw [ha,zE,hb,zE]
 dsimp only
 have e:(1+(M:Int) - 1).toNat=M:=by omega
 rw [if_pos (by
  have s1:jk 1=true:=by decide
  have s2:jk (1+(M:Int))=true:=by unfold jk;simp;omega
  rw [s1,s2,e,decide_eq_true (by unfold zW;omega)];rfl),e,List.map_map]
 rfl
theorem OT {o:O}(s:qo 0 [o]):∃t B,Y1 [.ref 0] [o]=.ok (zC t) B/\qo 0 B/\qW t:=by
 obtain ⟨i,hi,r,B0,e0,s0,l0⟩:=NM s
 obtain ⟨tt,sq,hb⟩:=NF hi
 have hlen:(yg (yY i)).length=(yY i).length:=by unfold yg;rw [List.length_map]
 have m1:=tt.n1
 have m8:=tt.n8
 obtain ⟨B1,e1,x1⟩:=Vw (by omega) (by omega) sq hb l0
 have s1:=s0.ext x1
 generalize hu:yg (yY i)=u at *
 clear hu hlen l0
 have n1:=tt.n1
 have n8:=tt.n8
 have kb:=Ug tt
 obtain ⟨M,hM⟩:=Int.eq_ofNat_of_zero_le (show 0<=yc u - 1 by omega)
 have el:=wM (ws:=u.map zG) (ρ:=[some (.ref 0),some (zC u),none,none]) (i:=1) (A:=B1) rfl
 rw [List.length_map] at el
 have e2:=XA el (by omega)
 have hil:iL (List.range u.length)=((List.range u.length).map λ (a:Nat)=>0+(a:Int)).map W.int:=by
  rw [List.map_map]
  apply List.map_congr_left
  intro a _
  show W.int (a:Int)=W.int (0+(a:Int))
  rw [Int.zero_add]
 rw [hil] at e2
 have s2:=s1.ext (Ext.one (o:=.lst (((List.range u.length).map λ (a:Nat)=>0+(a:Int)).map W.int)))
 obtain ⟨r2,B2,fd,e3,h2,p2,k2,nw2⟩:=Vq s2 qZ (by simp;omega)
 obtain ⟨od,rfl,po⟩:=X9 p2
 have hod:(od.map λ (k:Nat)=>(0:Int)+(k:Int))=od.map λ (k:Nat)=>(k:Int):=List.map_congr_left λ a _=>by omega
 rw [hod] at h2
 have es2:zH wy (zh (zc 0) (zh (ZK (mQ qh (zS (zc 1)))) (zp))) [some (.ref 0),some (zC u),none,none] B1=.ok (.ref r2) B2:=(jj (qR (zA (i:=0) rfl) (qR e2 je))).trans e3
 have hr20:0<r2:=by have:=s1.lt;simp at nw2;omega
 have e4:zY (zh (zi (.int 0)) (zp)) [some (.ref 0),some (zC u),some (.ref r2),none] B2=.ok (.ref B2.length) (B2++[.lst [.int 0]]):=j5 (qR qv je)
 have s3:=k2.st.ext (Ext.one (o:=.lst [.int 0]))
 have h2':=yk (u:=.lst [.int 0]) h2
 have hz:(B2++[.lst [.int 0]])[B2.length]? =some (.lst [.int 0]):=qZ
 have h2l:=kB h2
 have hB2:0<B2.length:=by omega
 generalize B2++[.lst [.int 0]]=B3 at e4 s3 h2' hz
 have emx:=OL tt (ρ:=[some (.ref 0),some (zC u),some (.ref r2),none]) (i:=1) (A:=B3) rfl
 rw [hM] at emx
 have e5:=R7 (ρ:=[some (.ref 0),some (zC u),some (.ref r2),none]) (A:=B3) (M:=M) (ma:=zi (.int 1)) (mb:=zj zL (zi (.int 1)) (mQ j8 (zR 1 [] (qc (zc 1)) (zD 0) (zi (.bl true)) (zN (mQ j8 (zS (zc 0))))))) qv ((zJ qv emx).trans rfl) (by omega)
 have s4:=s3.ext (Ext.one (o:=.lst (((List.range M).map λ (k:Nat)=>1+(k:Int)).map W.int)))
 obtain ⟨r3,B4,fd3,e6,h3,p3,k3,nw3⟩:=Vq s4 qZ (by simp;omega)
 obtain ⟨pk,rfl,pp⟩:=X9 p3
 have h2'':=k3.kp.get (yk h2') (by omega)
 have hz':=k3.kp.get (yk hz) (by omega)
 have es3:zj zL (zY (zh (zi (.int 0)) (zp))) (zH wy (zh (zc 0) (zh (Qk (zi (.int 1)) (zj zL (zi (.int 1)) (mQ j8 (zR 1 [] (qc (zc 1)) (zD 0) (zi (.bl true)) (zN (mQ j8 (zS (zc 0)))))))) (zp)))) [some (.ref 0),some (zC u),some (.ref r2),none] B2=.ok (.ref B4.length) (B4++[.lst ((jJ pk).map W.int)]):=by
  refine (zJ e4 ((jj (qR (zA (i:=0) rfl) (qR e5 je))).trans e6)).trans ((Kz hz' h3 ?_).trans rfl)
  have:=pp.length_eq
  rw [List.length_range] at this
  rw [List.length_map,List.length_map,this]
  unfold zW
  simp
  omega
 have h5:=yk (u:=.lst ((jJ pk).map W.int)) h2''
 have h6:(B4++[.lst ((jJ pk).map W.int)])[B4.length]? =some (.lst ((jJ pk).map W.int)):=qZ
 have s5:=k3.st.ext (Ext.one (o:=.lst ((jJ pk).map W.int)))
 generalize hB5:B4++[.lst ((jJ pk).map W.int)]=B5 at es3 h5 h6 s5
 have hol:od.length=u.length:=by rw [po.length_eq,List.length_range]
 have hom:∀a∈od,a<u.length:=λ a ha=>List.mem_range.mp (po.mem_iff.mp ha)
 have hpl:pk.length=M:=by rw [pp.length_eq,List.length_range]
 have hM':(yc u - 1).toNat=M:=by omega
 have res:=R3 tt (p:=pk) (o:=od) (by rw [hM'];exact pp) po
 refine ⟨Zd u pk od,B5,?_,s5,res.1⟩
 unfold Y1
 refine qQ ?_
 unfold YD
 refine (zQ ((qz ((jj (qR ((jj (qR (zA (i:=0) rfl) je)).trans e0) je)).trans e1)).trans rfl)).trans ((zQ ((qz es2).trans rfl)).trans ((zQ ((qz es3).trans rfl)).trans (z9 (qS ?_))))
 have inner:∀a,a∈od->∀b,b∈od->zj zz (zc 3) (zj zz (zj zz (zc 2) (zc 1)) (zc 0)) [some (.int (b:Int)),some (.int (a:Int)),some (zC u),some (.ref B4.length)] B5=.ok (.int ((jJ pk).getD (at2 u a b).toNat 0)) B5:=λ a ha b hb=>by
  have la:=hom a ha
  have lb:=hom b hb
  have bd:=Um tt la lb
  have kg:=V0 tt la lb
  obtain ⟨v,hv⟩:=Int.eq_ofNat_of_zero_le bd.1
  have e:zj zz (zj zz (zc 2) (zc 1)) (zc 0) [some (.int (b:Int)),some (.int (a:Int)),some (zC u),some (.ref B4.length)] B5=.ok (.int (v:Int)) B5:=by
   rw [<- hv]
   exact (zJ ((zJ (zA rfl) (zA rfl)).trans (Qp la)) (zA rfl)).trans (Wd (by rw [tt.sq _ (yu la)];exact lb))
  have hvl:v<(jJ pk).length:=by
   show v<(pk.map _).length+1
   rw [List.length_map]
   omega
  refine (zJ (zA (i:=3) rfl) e).trans (kW h6 ?_)
  rw [hv,Int.toNat_natCast,List.getElem?_map,List.getElem?_eq_getElem hvl,List.getD_eq_getElem?_getD,List.getElem?_eq_getElem hvl]
  rfl
 have ec:=KG (cap:=[1,2,3]) (m:=zc 2) (me:=mQ jF (zR 1 [0,1,3] (qc (zc 2)) (zD 0) (zi (.bl true)) (zN (zj zz (zc 3) (zj zz (zj zz (zc 2) (zc 1)) (zc 0)))))) (ρ:=[some (.ref 0),some (zC u),some (.ref r2),some (.ref B4.length)]) (A:=B5) (g:=Gv λ a=>zG (od.map λ b=>(jJ pk).getD (at2 u a b).toNat 0)) (zA rfl) h5 (by simp;unfold zW;omega) (λ w hw=>by
  obtain ⟨v,hv,rfl⟩:=List.mem_map.mp hw
  obtain ⟨a,ha,rfl⟩:=List.mem_map.mp hv
  have ei:=KG (cap:=[0,1,3]) (m:=zc 2) (me:=zj zz (zc 3) (zj zz (zj zz (zc 2) (zc 1)) (zc 0))) (ρ:=[some (.int (a:Int)),some (zC u),some (.ref r2),some (.ref B4.length)]) (A:=B5) (g:=Gv λ b=>.int ((jJ pk).getD (at2 u a b).toNat 0)) (zA rfl) h5 (by simp;unfold zW;omega) (λ w hw=>by
   obtain ⟨v,hv,rfl⟩:=List.mem_map.mp hw
   obtain ⟨b,hb,rfl⟩:=List.mem_map.mp hv
   refine (inner a ha b hb).trans ?_
   show _=R.ok (W.int ((jJ pk).getD (at2 u a (Int.toNat (b:Int))).toNat 0)) B5
   rw [Int.toNat_natCast])
  rw [Vu] at ei
  refine (gY ei).trans ?_
  show _=R.ok (zG (od.map λ b=>(jJ pk).getD (at2 u (Int.toNat (a:Int)) b).toNat 0)) B5
  rw [Int.toNat_natCast]
  unfold zG
  rw [List.map_map]
  rfl)
 rw [Vu] at ec
 refine (gY ec).trans ?_
 unfold zC Zd
 rw [List.map_map]
 rfl
theorem NY (s:qo n A):∃t B,wA [.ref n] A=.ok (zC t) B/\qW t/\Kn n A B/\B.length=A.length:=by
 obtain ⟨c,b,hA,hc,hb⟩:=s
 have hm:=kB hA
 obtain ⟨t,A1,e,⟨c',b',e',hc',hb'⟩,tb⟩:=OT (o:=.lst [.int c,.bl b]) ⟨c,b,rfl,hc,hb⟩
 refine ⟨t,A.set n (.lst [.int c',.bl b']),?_,tb,⟨Kp.set,c',b',List.getElem?_set_self hm,hc',hb'⟩,List.length_set ..⟩
 unfold wA
 exact Vl hA rfl e e' (Jh t)
end
structure LM (N b0 r:Nat)(μ:Nat->Nat->Int)(C:Hx):Prop where
 top:C[r]? =some (.lst ((List.range N).map λ i=>W.ref (b0+i)))
 row:∀i,i<N->C[b0+i]? =some (.lst ((List.range N).map λ j=>W.int (μ i j)))
 lt:b0+N<=r
 pos:0<b0
 st:qo 0 C
structure Sy (N:Nat)(μ:Nat->Nat->Int):Prop where
 dg:∀a b,a<N->b<N->(μ a b=0↔a=b)
 sy:∀a b,a<N->b<N->μ a b=μ b a
 lo:∀a b,a<N->b<N->0<=μ a b/\μ a b<(N:Int)
section
variable {N b0 r a b:Nat}{μ:Nat->Nat->Int}{C:Hx}{t:List (List Int)}{ρ:En}
theorem Sy.step (h:Sy N μ)(ha:a<N)(hb:b<N)(hab:a≠b){k:Int}(k1:1<=k)(k2:k<(N:Int)):Sy N (wk (wk μ a b k) b a k):=by
 have at_:∀i j,wk (wk μ a b k) b a k i j=if (i=b/\j=a)∨(i=a/\j=b) then k else μ i j:=λ i j=>by
  unfold wk
  by_cases q1:i=b/\j=a
  ·rw [if_pos q1,if_pos (.inl q1)]
  ·rw [if_neg q1]
   by_cases q2:i=a/\j=b
   ·rw [if_pos q2,if_pos (.inr q2)]
   ·rw [if_neg q2,if_neg (by rintro (z | z);exact q1 z;exact q2 z)]
 refine ⟨λ i j hi hj=>?_,λ i j hi hj=>?_,λ i j hi hj=>?_⟩
 ·rw [at_]
  by_cases q:(i=b/\j=a)∨(i=a/\j=b)
  ·rw [if_pos q]
   constructor
   ·intro z;omega
   ·intro z;omega
  ·rw [if_neg q];exact h.dg i j hi hj
 ·rw [at_,at_]
  by_cases q:(i=b/\j=a)∨(i=a/\j=b)
  ·rw [if_pos q,if_pos (by rcases q with ⟨z1,z2⟩ | ⟨z1,z2⟩;exact .inr ⟨z2,z1⟩;exact .inl ⟨z2,z1⟩)]
  ·rw [if_neg q,if_neg (by rintro (⟨z1,z2⟩ | ⟨z1,z2⟩);exact q (.inr ⟨z2,z1⟩);exact q (.inl ⟨z2,z1⟩))]
   exact h.sy i j hi hj
 ·rw [at_]
  by_cases q:(i=b/\j=a)∨(i=a/\j=b)
  ·rw [if_pos q];omega
  ·rw [if_neg q];exact h.lo i j hi hj
theorem OP {g:Nat->Int}{k:Int}(hb:b<N):((List.range N).map λ j=>W.int (g j)).set b (.int k)=(List.range N).map λ j=>W.int (if j=b then k else g j):=by
 apply List.ext_getElem?
 intro i
 by_cases hi:i<N
 ·by_cases q:b=i
  ·subst q
   rw [List.getElem?_set_self (by simpa using hi),List.getElem?_map,List.getElem?_range hi]
   simp
  ·rw [List.getElem?_set_ne q,List.getElem?_map,List.getElem?_map,List.getElem?_range hi]
   simp [Ne.symm q]
 ·rw [List.getElem?_eq_none (by simp;omega),List.getElem?_eq_none (by simp;omega)]
theorem LM.put (h:LM N b0 r μ C)(ha:a<N)(hb:b<N)(k:Int):∃C',j3 (.ref (b0+a)) (.int (b:Int)) (.int k) C=.ok () C'/\LM N b0 r (wk μ a b k) C':=by
 have hr:=h.row a ha
 have hlt:=kB hr
 have h1:=h.lt
 have h2:=h.pos
 refine ⟨_,Vp hr (by simp;omega),?_,λ i hi=>?_,h1,h2,h.st.put (by omega)⟩
 ·rw [List.getElem?_set_ne (by omega)];exact h.top
 ·by_cases q:i=a
  ·subst q
   rw [List.getElem?_set_self hlt,OP hb]
   congr 3
   funext j
   unfold wk
   by_cases z:j=b
   ·rw [if_pos z,if_pos ⟨rfl,z⟩]
   ·rw [if_neg z,if_neg (by rintro ⟨_,w⟩;exact z w)]
  ·rw [List.getElem?_set_ne (by omega),h.row i hi]
   congr 3
   funext j
   unfold wk
   rw [if_neg (by rintro ⟨w,_⟩;exact q w)]
theorem LM.kn {C':Hx}(h:LM N b0 r μ C)(k:Kn 0 C C'):LM N b0 r μ C':=by
 have h1:=h.lt
 have h2:=h.pos
 exact ⟨k.kp.get h.top (by omega),λ i hi=>k.kp.get (h.row i hi) (by omega),h1,h2,k.st⟩
theorem LM.ix (h:LM N b0 r μ C){i:Nat}{m:Ev}(hm:m ρ C=.ok (.ref r) C)(hi:ρ[i]? =some (some (.int (a:Int))))(ha:a<N):zj zz m (zc i) ρ C=.ok (.ref (b0+a)) C:=
 (zJ hm (zA hi)).trans (kW h.top (by rw [List.getElem?_map,List.getElem?_range ha];rfl))
theorem LM.ix2 (h:LM N b0 r μ C){i j:Nat}{m:Ev}(hm:m ρ C=.ok (.ref r) C)(hi:ρ[i]? =some (some (.int (a:Int))))(hj:ρ[j]? =some (some (.int (b:Int))))(ha:a<N)(hb:b<N):zj zz (zj zz m (zc i)) (zc j) ρ C=.ok (.int (μ a b)) C:=
 (zJ (h.ix hm hi ha) (zA hj)).trans (kW (h.row a ha) (by rw [List.getElem?_map,List.getElem?_range hb];rfl))
noncomputable abbrev Gr (me:Ev)(rest:Ex):Ex:=zr (jK j3 (zj zL (zi (.int 1)) (zH qk (zh (zc 0) (zh me (zp))))) (zj zz (zc 2) (zc 4)) (zc 5)) (zr (jK j3 (zj zz (zj zz (zc 2) (zc 4)) (zc 5)) (zj zz (zc 2) (zc 5)) (zc 4)) rest)
theorem Vm (h:LM N b0 r μ C)(q:Sy N μ)(ha:a<N)(hb:b<N)(hab:a≠b)(h0:ρ[0]? =some (some (.ref 0)))(h2:ρ[2]? =some (some (.ref r)))(h4:ρ[4]? =some (some (.int (a:Int))))(h5:ρ[5]? =some (some (.int (b:Int)))){me:Ev}{m:Int}(hm:me ρ C=.ok (.int m) C)(m1:0<m)(m2:m<(N:Int))(hN:N<=8)(rest:Ex):
  ∃μ' C',Gr me rest ρ C=rest ρ C'/\LM N b0 r μ' C'/\Sy N μ':=by
 obtain ⟨k,C1,e1,hk,k1,_⟩:=kY h.st h0 hm m1 (by omega)
 have l1:=h.kn k1
 obtain ⟨C2,e2,l2⟩:=l1.put ha hb (1+(k:Int))
 obtain ⟨C3,e3,l3⟩:=l2.put hb ha (1+(k:Int))
 refine ⟨_,C3,?_,l3,q.step ha hb hab (by omega) (by omega)⟩
 refine (zQ (ρ1:=ρ) (A1:=C2) ?_).trans (zQ (ρ1:=ρ) (A1:=C3) ?_)
 ·unfold jK
  rw [(zJ (qv (w:=.int 1)) e1).trans (show zL (.int 1) (.int (k:Int)) C1=.ok (.int (1+(k:Int))) C1 from rfl),zE,l1.ix (zA h2) h4 ha,zE,zA h5,zE,e2,zE]
 ·have ev:wk μ a b (1+(k:Int)) a b=1+(k:Int):=by unfold wk;rw [if_pos ⟨rfl,rfl⟩]
  unfold jK
  rw [l2.ix2 (zA h2) h4 h5 ha hb,zE,l2.ix (zA h2) h5 hb,zE,zA h4,zE,ev,e3,zE]
theorem LM.ll (h:LM N b0 r μ C):LL (jM N μ) r C:=by
 refine ⟨(List.range N).map λ i=>b0+i,by rw [h.top,List.map_map];rfl,by rw [Je];simp,λ i hi=>?_⟩
 rw [Je] at hi
 have e1:((List.range N).map λ i=>b0+i).getD i 0=b0+i:=by rw [List.getD_eq_getElem?_getD,List.getElem?_map,List.getElem?_range hi];rfl
 have e2:(jM N μ).getD i []=(List.range N).map (μ i):=by unfold jM;rw [List.getD_eq_getElem?_getD,List.getElem?_map,List.getElem?_range hi];rfl
 rw [e1,e2,h.row i hi,List.map_map]
 rfl
theorem LM.fin (h:LM N b0 r μ C)(q:Sy N μ)(n1:1<=N)(n8:N<=8)(h2:ρ[2]? =some (some (.ref r))):∃u B,zH y8 (zh (zc 2) (zp)) ρ C=.ok (zC u) B/\qW u/\qo 0 B:=by
 have hl:=Je (n:=N) (μ:=μ)
 have hb:∀v∈(jM N μ).flatten,0<=v/\v<(N:Int):=λ v hv=>by
  obtain ⟨a,b,ha,hb,rfl⟩:=gk K8 hv
  rw [hl] at ha hb
  rw [gi ha hb]
  exact q.lo a b ha hb
 obtain ⟨B,e,x⟩:=Vw (t:=jM N μ) (by omega) (by omega) K8 (λ v hv=>by have:=hb v hv;omega) h.ll
 refine ⟨_,B,(jj (qR (zA h2) je)).trans e,RM (by omega) (by omega) K8 ?_ ?_ ?_,h.st.ext x⟩
 ·intro a b ha hb;rw [hl] at ha hb;rw [gi ha hb];exact q.dg a b ha hb
 ·intro a b ha hb;rw [hl] at ha hb;rw [gi ha hb,gi hb ha];exact q.sy a b ha hb
 ·intro a b ha hb;rw [hl] at ha hb ⊢;rw [gi ha hb];exact q.lo a b ha hb
theorem N3 {B:Hx}(h:qW t)(s:qo 0 B):LM t.length B.length (B.length+t.length) (at2 t) (B++(t.map λ r=>O.lst (r.map W.int))++[O.lst ((List.range t.length).map λ i=>W.ref (B.length+i))])/\Sy t.length (at2 t):=by
 refine ⟨⟨KC,λ i hi=>?_,Nat.le_refl _,s.lt,s.ext ⟨(t.map λ r=>O.lst (r.map W.int))++[O.lst ((List.range t.length).map λ i=>W.ref (B.length+i))],by rw [List.append_assoc]⟩⟩,h.dg,h.sy,λ a b ha hb=>?_⟩
 ·rw [K7 hi]
  congr 2
  have hr:=h.sq _ (yu hi)
  have:=Z5 (t.getD i []) 0 W.int
  rw [this,hr]
  rfl
 ·obtain ⟨rr,h1,h2,_⟩:=ZJ h.sq ha hb
  exact h.lo rr h1 _ h2
theorem NU {o:O}(s:qo 0 [o]):∃t B,YN [.ref 0] [o]=.ok (zC t) B/\qo 0 B/\qW t:=by
 unfold YN
 unfold YZ
 obtain ⟨way,B0,e0,hw,k0,_⟩:=kY (ρ:=[some (.ref 0),none,none,none,none,none,none]) (me:=zi (.int 3)) s rfl qv (by decide:(0:Int)<3) (by decide)
 have go:∀m2:Ex,zr (zX 1 (zH qk (zh (zc 0) (zh (zi (.int 3)) (zp))))) m2 [some (.ref 0),none,none,none,none,none,none] [o]=m2 [some (.ref 0),some (.int (way:Int)),none,none,none,none,none] B0:=λ m2=>zQ ((qz e0).trans rfl)
 obtain ⟨t,B1,e1,ht,k1,_⟩:=NY k0.st
 have n1:=ht.n1
 have n8:=ht.n8
 have ew:zj qL (zc 1) (zi (.int 0)) [some (.ref 0),some (.int (way:Int)),none,none,none,none,none] B0=.ok (.bl (decide ((way:Int)=0))) B0:=(zJ (zA rfl) qv).trans (Zp _ _ _)
 have ek:zH wA (zh (zc 0) (zp)) [some (.ref 0),some (.int (way:Int)),none,none,none,none,none] B0=.ok (zC t) B1:=(jj (qR (zA rfl) je)).trans e1
 by_cases q0:(way:Int)=0
 ·rw [decide_eq_true q0] at ew
  exact ⟨t,B1,qQ ((go _).trans (z9 ((yv ew).trans (z9 (qS ek))))),k1.st,ht⟩
 ·rw [decide_eq_false q0] at ew
  have er:=Xp (B:=B1) n8 ht.sq ek
  obtain ⟨lm,sy⟩:=N3 ht k1.st
  generalize B1++(t.map λ r=>O.lst (r.map W.int))++[O.lst ((List.range t.length).map λ i=>W.ref (B1.length+i))]=C at er lm
  generalize B1.length+t.length=r at er lm
  generalize B1.length=b0 at lm
  generalize at2 t=μ at lm sy
  generalize hN:t.length=N at lm sy n1 n8
  have elen:mQ qh (zS (zc 2)) [some (.ref 0),some (.int (way:Int)),some (.ref r),none,none,none,none] C=.ok (.int (N:Int)) C:=by
   rw [yS (yQ (w:=.ref r) (A1:=C) (zA rfl) (by unfold zT;dsimp only;rw [lm.top]))]
   unfold qh
   simp
  have go2:∀m1 m2:Ex,zr (zX 1 (zH qk (zh (zc 0) (zh (zi (.int 3)) (zp))))) (zr (qw (zj qL (zc 1) (zi (.int 0))) m1 zB) (zr (zX 2 (z7 (zR 1 [] (qc (zH wA (zh (zc 0) (zp)))) (zD 0) (zi (.bl true)) (zN (z7 (zS (zc 0))))))) (zr (zX 3 (mQ qh (zS (zc 2)))) m2))) [some (.ref 0),none,none,none,none,none,none] [o]=m2 [some (.ref 0),some (.int (way:Int)),some (.ref r),some (.int (N:Int)),none,none,none] C:=λ m1 m2=>
   (go _).trans ((zQ ((ym ew).trans jB)).trans ((zQ ((qz er).trans rfl)).trans (zQ ((qz elen).trans rfl))))
  have ec:yx (zj qL (zc 1) (zi (.int 1))) (zj Gx (zc 3) (zi (.int 1))) [some (.ref 0),some (.int (way:Int)),some (.ref r),some (.int (N:Int)),none,none,none] C=.ok (.bl (decide ((way:Int)=1)&&decide ((1:Int)<(N:Int)))) C:=by
   have e:zj qL (zc 1) (zi (.int 1)) [some (.ref 0),some (.int (way:Int)),some (.ref r),some (.int (N:Int)),none,none,none] C=.ok (.bl (decide ((way:Int)=1))) C:=(zJ (zA rfl) qv).trans (Zp _ _ _)
   by_cases z:(way:Int)=1
   ·rw [decide_eq_true z] at e ⊢
    exact (g8 e).trans ((zJ (zA rfl) qv).trans rfl)
   ·rw [decide_eq_false z] at e ⊢
    exact Qq e
  cases hd:(decide ((way:Int)=1)&&decide ((1:Int)<(N:Int))) with
  | true=>
   rw [hd] at ec
   have hN2:2<=N:=by
    rw [Bool.and_eq_true,decide_eq_true_iff,decide_eq_true_iff] at hd
    omega
   obtain ⟨a,C1,e2,ha,k2,_⟩:=kY (ρ:=[some (.ref 0),some (.int (way:Int)),some (.ref r),some (.int (N:Int)),none,none,none]) (me:=zc 3) lm.st rfl (zA rfl) (by omega:(0:Int)<(N:Int)) (by omega)
   obtain ⟨q,C2,e3,hq,k3,_⟩:=kY (ρ:=[some (.ref 0),some (.int (way:Int)),some (.ref r),some (.int (N:Int)),some (.int (a:Int)),none,none]) (me:=zj jS (zc 3) (zi (.int 1))) (m:=(N:Int) - 1) k2.st rfl ((zJ (zA rfl) qv).trans rfl) (by omega) (by omega)
   have lm2:=(lm.kn k2).kn k3
   have hb:(a+1+q) % N<N:=Nat.mod_lt _ (by omega)
   have hab:a≠(a+1+q) % N:=by
    intro z
    by_cases g:a+1+q<N
    ·rw [Nat.mod_eq_of_lt g] at z;omega
    ·rw [Nat.mod_eq_sub_mod (by omega),Nat.mod_eq_of_lt (by omega)] at z
     omega
   have e4:zj yD (zj zL (zj zL (zc 4) (zi (.int 1))) (zH qk (zh (zc 0) (zh (zj jS (zc 3) (zi (.int 1))) (zp))))) (zc 3) [some (.ref 0),some (.int (way:Int)),some (.ref r),some (.int (N:Int)),some (.int (a:Int)),none,none] C1=.ok (.int (((a+1+q) % N:Nat):Int)) C2:=by
    refine (zJ ((zJ ((zJ (zA rfl) qv).trans (show zL (.int (a:Int)) (.int 1) C1=.ok (.int ((a:Int)+1)) C1 from rfl)) e3).trans (show zL (.int ((a:Int)+1)) (.int (q:Int)) C2=.ok (.int ((a:Int)+1+(q:Int))) C2 from rfl)) (zA (i:=3) rfl)).trans ((gW (by omega)).trans ?_)
    congr 2
   obtain ⟨μ',C3,e5,lm3,sy3⟩:=Vm (ρ:=[some (.ref 0),some (.int (way:Int)),some (.ref r),some (.int (N:Int)),some (.int (a:Int)),some (.int (((a+1+q) % N:Nat):Int)),none]) (me:=zj jS (zc 3) (zi (.int 1))) (m:=(N:Int) - 1) lm2 sy (by omega) hb hab rfl rfl rfl rfl ((zJ (zA rfl) qv).trans rfl) (by omega) (by omega) n8 (zr (z8 (zH y8 (zh (zc 2) (zp)))) (zB))
   obtain ⟨u,B,e6,hu,sB⟩:=lm3.fin sy3 n1 n8 (ρ:=[some (.ref 0),some (.int (way:Int)),some (.ref r),some (.int (N:Int)),some (.int (a:Int)),some (.int (((a+1+q) % N:Nat):Int)),none]) rfl
   refine ⟨u,B,qQ ((go2 _ _).trans (z9 ((yv ec).trans ?_))),sB,hu⟩
   exact (zQ ((qz e2).trans rfl)).trans ((zQ ((qz e4).trans rfl)).trans (e5.trans (z9 (qS e6))))
  | false=>
   rw [hd] at ec
   have xo:Ext C (C++[.lst [.int 2,.int 3,.int 1]]):=Ext.one
   obtain ⟨j,C1,e2,hj,k2,_⟩:=kY (ρ:=[some (.ref 0),some (.int (way:Int)),some (.ref r),some (.int (N:Int)),none,none,none]) (me:=zi (.int 3)) (lm.st.ext xo) rfl qv (by decide:(0:Int)<3) (by decide)
   have lm1:LM N b0 r μ C1:=(lm.kn (Kn.ext lm.st xo)).kn k2
   obtain ⟨far,hf1,ef⟩:∃far:Int,1<=far/\zj zz (zY (zh (zi (.int 2)) (zh (zi (.int 3)) (zh (zi (.int 1)) (zp))))) (zH qk (zh (zc 0) (zh (zi (.int 3)) (zp)))) [some (.ref 0),some (.int (way:Int)),some (.ref r),some (.int (N:Int)),none,none,none] C=.ok (.int far) C1:=by
    have hat:=k2.kp.get (qZ (A:=C)) (by have:=lm.st.lt;omega)
    have hj3:j<3:=by omega
    rcases three hj3 with rfl | rfl | rfl
    ·exact ⟨2,by decide,(zJ (j5 rfl) e2).trans (kW hat rfl)⟩
    ·exact ⟨3,by decide,(zJ (j5 rfl) e2).trans (kW hat rfl)⟩
    ·exact ⟨1,by decide,(zJ (j5 rfl) e2).trans (kW hat rfl)⟩
   have rng:∀(i:Nat) (ρ:En) (D:Hx) (k:Nat),k<=8->ρ[i]? =some (some (.int (k:Int)))->qB (zc i) ρ D=.ok (yh 0 k) D:=λ i ρ D k hk h=>by
    have:=ZG (m:=zc i) (A:=D) (zA h) (Q8 (n:=k) (by omega))
    rw [Int.toNat_natCast] at this
    exact this
   obtain ⟨ρ',D,e3,⟨μ',lm3,sy3⟩,y4,y5,hρ⟩:=Qb (j:=yh 0 N) (st:=turn (zD 4) (zr (jZ (qB (zc 4)) (zD 5) (Gr (zj gz (zc 6) (zj jS (zc 3) (zi (.int 1)))) zB)) (zB))) (N:=N)
    (I:=λ _ ρ D=>(∃μ,LM N b0 r μ D/\Sy N μ)/\∃y4 y5,ρ=[some (.ref 0),some (.int (way:Int)),some (.ref r),some (.int (N:Int)),y4,y5,some (.int far)])
    (λ a ρ D ha ⟨⟨μ,lm,sy⟩,y4,y5,hρ⟩=>by
     subst hρ
     obtain ⟨ρ',D',e,⟨μ',lm',sy'⟩,y5',hρ'⟩:=Qb (j:=yh 0 a) (st:=turn (zD 5) (Gr (zj gz (zc 6) (zj jS (zc 3) (zi (.int 1)))) zB)) (N:=a)
      (I:=λ _ ρ D=>(∃μ,LM N b0 r μ D/\Sy N μ)/\∃y5,ρ=[some (.ref 0),some (.int (way:Int)),some (.ref r),some (.int (N:Int)),some (.int (a:Int)),y5,some (.int far)])
      (λ b ρ D hb ⟨⟨μ,lm,sy⟩,y5,hρ⟩=>by
       subst hρ
       have em:zj gz (zc 6) (zj jS (zc 3) (zi (.int 1))) [some (.ref 0),some (.int (way:Int)),some (.ref r),some (.int (N:Int)),some (.int (a:Int)),some (.int (b:Int)),some (.int far)] D=.ok (.int (if (N:Int) - 1<far then (N:Int) - 1 else far)) D:=(zJ (zA rfl) ((zJ (zA rfl) qv).trans rfl)).trans rfl
       obtain ⟨μ',D',e,lm',sy'⟩:=Vm (ρ:=[some (.ref 0),some (.int (way:Int)),some (.ref r),some (.int (N:Int)),some (.int (a:Int)),some (.int (b:Int)),some (.int far)]) lm sy ha (by omega:b<N) (by omega) rfl rfl rfl rfl em (by split<;>omega) (by split<;>omega) n8 zB
       refine ⟨_,_,D',gp hb,(yt (ρ1:=[some (.ref 0),some (.int (way:Int)),some (.ref r),some (.int (N:Int)),some (.int (a:Int)),some (.int (b:Int)),some (.int far)]) ?_).trans e,⟨μ',lm',sy'⟩,_,rfl⟩
       rw [Int.zero_add];rfl)
      (λ ρ D _=>gf (by omega)) a 0 [some (.ref 0),some (.int (way:Int)),some (.ref r),some (.int (N:Int)),some (.int (a:Int)),y5,some (.int far)] D (by omega) ⟨⟨μ,lm,sy⟩,_,rfl⟩
     subst hρ'
     refine ⟨_,_,D',gp ha,(yt (ρ1:=[some (.ref 0),some (.int (way:Int)),some (.ref r),some (.int (N:Int)),some (.int (a:Int)),y5,some (.int far)]) ?_).trans ((zQ ((yB (rng 4 _ D a (by omega) rfl)).trans e)).trans jB),⟨μ',lm',sy'⟩,_,_,rfl⟩
     rw [Int.zero_add];rfl)
    (λ ρ D _=>gf (by omega)) N 0 [some (.ref 0),some (.int (way:Int)),some (.ref r),some (.int (N:Int)),none,none,some (.int far)] C1 (by omega) ⟨⟨μ,lm1,sy⟩,_,_,rfl⟩
   subst hρ
   obtain ⟨u,B,e6,hu,sB⟩:=lm3.fin sy3 n1 n8 (ρ:=[some (.ref 0),some (.int (way:Int)),some (.ref r),some (.int (N:Int)),y4,y5,some (.int far)]) rfl
   refine ⟨u,B,qQ ((go2 _ _).trans ((zQ ((ym ec).trans jB)).trans ((zQ ((qz ef).trans rfl)).trans ((zQ ((yB (rng 3 _ C1 N n8 rfl)).trans e3)).trans (z9 (qS e6)))))),sB,hu⟩
theorem Lf {n:Nat}{A:Hx}(s:qo n A):∃t B,gK [.ref n] A=.ok (zC t) B/\qW t/\Kn n A B:=by
 obtain ⟨c,b,hA,hc,hb⟩:=s
 have hm:=kB hA
 obtain ⟨t,A1,e,⟨c',b',e',hc',hb'⟩,tb⟩:=NU (o:=.lst [.int c,.bl b]) ⟨c,b,rfl,hc,hb⟩
 refine ⟨t,A.set n (.lst [.int c',.bl b']),?_,tb,⟨Kp.set,c',b',List.getElem?_set_self hm,hc',hb'⟩⟩
 unfold gK
 exact Vl hA rfl e e' (Jh t)
end
end G
namespace Mi
open PySem L2
section
variable {j:ji}{me:Ev}{c:En}{A A1:Hx}{f i:Nat}{x:Option W}{w y:W}{acc:List W}{ρ:En}{m:Ev}
theorem Sv {n:Nat}(h:n<1000000):jk (n:Int)=true:=by
 unfold jk
 rw [Bool.and_eq_true,decide_eq_true_iff,decide_eq_true_iff]
 omega
end
end Mi
namespace G
open PySem L2 Mi
section
variable {ns:List Int}{Pt:Addr}{n:Nat}{A:Hx}
theorem La {ns:List Int}{A:Hx}(hA:A[0]? =some (.ro (ns.map W.int)))(k:Nat):∃x:Int,Zv [.ref 0,.int k] A=.ok (.int x) A:=by
 have hs:zT (.ref 0) A=some (ns.map W.int):=by unfold zT;dsimp only;rw [hA]
 have hl:mQ qh (zS (zc 0)) [some (.ref 0),some (.int k)] A=.ok (.int ns.length) A:=by
  rw [yS (yQ (w:=.ref 0) (A1:=A) (zA rfl) hs)]
  unfold qh
  rw [List.length_map]
 have ec:zj kL (zc 1) (mQ qh (zS (zc 0))) [some (.ref 0),some (.int k)] A=.ok (.bl (decide ((k:Int)<ns.length))) A:=(zJ (zA (w:=.int k) rfl) hl).trans rfl
 by_cases h:k<ns.length
 ·refine ⟨ns[k],qQ ?_⟩
  unfold QO
  rw [decide_eq_true (by omega)] at ec
  refine z9 ((yv ec).trans (z9 (qS ?_)))
  refine (zJ (x:=.ref 0) (y:=.int k) (A1:=A) (A2:=A) (zA rfl) (zA rfl)).trans ?_
  unfold zz
  rw [hs]
  dsimp only
  rw [Ji (v:=.int ns[k]) (by rw [List.getElem?_map,List.getElem?_eq_getElem h];rfl)]
 ·refine ⟨0,qQ ?_⟩
  unfold QO
  rw [decide_eq_false (by omega)] at ec
  exact (zQ ((ym ec).trans rfl)).trans rfl
theorem Nx {ns:List Int}{A:Hx}(hA:A[0]? =some (.ro (ns.map W.int)))(k:Nat):∃o,Zx [.ref 0,.int k] A=.ok (.ref A.length) (A++[o])/\qo A.length (A++[o]):=by
 obtain ⟨x,e⟩:=La hA k
 have e1:zX 2 (zH Zv (zh (zc 0) (zh (zc 1) (zp)))) [some (.ref 0),some (.int k),none] A=.ok (.nx [some (.ref 0),some (.int k),some (.int x)]) A:=by
  refine (qz (w:=.int x) (A1:=A) ?_).trans rfl
  rw [jj (ws:=[.ref 0,.int k]) (A1:=A) rfl]
  exact e
 have ec:zj Gz (zc 2) (zj Zl (zi (.int 10)) (zi (.int 18))) [some (.ref 0),some (.int k),some (.int x)] A=.ok (.bl (decide ((1000000000000000000:Int)<=x))) A:=(zJ (x:=.int x) (y:=.int 1000000000000000000) (A1:=A) (A2:=A) (zA rfl) rfl).trans rfl
 by_cases h:(1000000000000000000:Int)<=x
 ·refine ⟨.lst [.int (x - 1000000000000000000),.bl true],qQ ?_,x - 1000000000000000000,true,qZ,by omega,λ z=>nomatch z⟩
  unfold QR
  rw [decide_eq_true h] at ec
  refine (zQ e1).trans (z9 ((yv ec).trans (z9 (qS (j5 ?_)))))
  rfl
 ·refine ⟨.lst [.int (x % 2147483647),.bl false],qQ ?_,x % 2147483647,false,qZ,Int.emod_nonneg _ (by decide),λ _=>Int.emod_lt_of_pos _ (by decide)⟩
  unfold QR
  rw [decide_eq_false h] at ec
  refine (zQ e1).trans ((zQ ((ym ec).trans rfl)).trans (z9 (qS (j5 ?_))))
  refine qR (A1:=A) (A2:=A) ((zJ (x:=.int x) (y:=.int 2147483647) (A1:=A) (A2:=A) (zA rfl) rfl).trans (gW (by decide))) rfl
end
section
variable {ns:List Int}{Pt:Addr}{m:Nat}{A A':Hx}{PF:PFam}{ρ:En}{c n g:Nat}{ks:List Nat}
end
section
variable {t:List (List Int)}{A B C E:Hx}{n:Nat}{ns:List Int}
theorem MZ (b:Bool)(A:Hx):w9 [.bl b,.bl b] A=.ok (.bl true) A:=by
 cases b
 ·exact Jq (A1:=[]) rfl rfl (by kernel_rfl)
 ·exact Jq (A1:=[]) rfl rfl (by kernel_rfl)
theorem N1 (h:qW t)(A:Hx):jV A (zC t):=.tup (t.map zG) rfl (by rw [List.length_map];have:=h.n8;omega) λ x hx=>VY h x hx A
theorem Vy (h:qW t)(A:Hx):yI [zC t] A=.ok (.bl true) A:=by
 obtain ⟨b,e,hb⟩:=KP (N1 h A)
 rw [e,hb.mpr ⟨t,h,rfl⟩]
noncomputable abbrev GC:Ex:=zr (qw (qK (zH w9 (zh (zH yI (zh (zc 4) (zp))) (zh (zH gJ (zh (zc 4) (zp))) (zp))))) (zr (z8 (zi (.bl false))) (zB)) (zB)) (zB)
theorem PV {w:W}{x0 x1 x2 x3 x5 x6:Option W}(h:jV A w):∃B,GC [x0,x1,x2,x3,some w,x5,x6] A=.ok (.nx [x0,x1,x2,x3,some w,x5,x6]) B/\Ext A B:=by
 obtain ⟨b,e,hb⟩:=KP h
 obtain ⟨b',B,e',x,hb'⟩:=Om h
 have:b'=b:=by rw [Bool.eq_iff_iff,hb,hb']
 subst this
 refine ⟨B,(zQ ((ym (A1:=B) (wG (k:=true) ((jj (qR ((jj (qR (zA rfl) je)).trans e) (qR ((jj (qR (zA rfl) je)).trans e') je))).trans (MZ _ _)))).trans jB)).trans jB,x⟩
noncomputable abbrev GB:Ex:=zr (jZ (qB (zi (.int 2))) (zD 5) GC) (zB)
theorem OE {w:W}{x0 x1 x2 x3 x5 x6:Option W}(h:jV A w):∃y5 B,GB [x0,x1,x2,x3,some w,x5,x6] A=.ok (.nx [x0,x1,x2,x3,some w,y5,x6]) B/\Ext A B:=by
 obtain ⟨ρ',B,e,x,y5,hρ⟩:=Qb (j:=yh 0 2) (st:=turn (zD 5) GC) (N:=2) (I:=λ _ ρ B=>Ext A B/\∃y5,ρ=[x0,x1,x2,x3,some w,y5,x6])
  (λ i ρ B hi ⟨x,y5,hρ⟩=>by
   subst hρ
   obtain ⟨B',e,x'⟩:=PV (x0:=x0) (x1:=x1) (x2:=x2) (x3:=x3) (x5:=some (.int (0+(i:Int)))) (x6:=x6) (h.mono x.ky)
   exact ⟨_,_,B',gp hi,(yt rfl).trans e,x.trans x',_,rfl⟩)
  (λ ρ B _=>gf (by omega)) 2 0 [x0,x1,x2,x3,some w,x5,x6] A (by omega) ⟨Ext.refl,_,rfl⟩
 subst hρ
 exact ⟨y5,B,(zQ ((yB (ZG (k:=2) qv (by decide))).trans e)).trans jB,x⟩
theorem RS {x0 x1 x4 x5 x6:Option W}(s:qo n A)(h:qW t):∃r B ws,zj zL (z7 (zR 1 [2,3] (qB (zi (.int 6))) (zD 0) (zi (.bl true)) (zN (zH wB (zh (zc 1) (zh (zc 2) (zp))))))) (zY (zh (zH wx (zh (zc 2) (zp))) (zp))) [x0,x1,some (.ref n),some (zC t),x4,x5,x6] A=.ok (.ref r) B/\B[r]? =some (.lst ws)/\(∀w∈ws,jV B w)/\Kn n A B:=by
 obtain ⟨ρ',acc,B,e,⟨y,hρ⟩,hl,hw,kn⟩:=Ki (nl:=1) (cap:=[2,3]) (mi:=qB (zi (.int 6))) (ρ:=[x0,x1,some (.ref n),some (zC t),x4,x5,x6]) (A:=A) (A1:=A) (j:=yh 0 6) (tw:=zD 0) (ifs:=zi (.bl true)) (em:=zN (zH wB (zh (zc 1) (zh (zc 2) (zp))))) (N:=6)
  (I:=λ i ρ acc B=>(∃y,ρ=[y,some (.ref n),some (zC t)])/\acc.length=i/\(∀w∈acc,jV B w)/\Kn n A B) (ZG qv (by decide)) rfl
  (λ i ρ acc B hi ⟨⟨y,hρ⟩,hl,hw,kn⟩=>by
   subst hρ
   obtain ⟨w,B',e,hw',k'⟩:=Lk kn.st h
   refine ⟨_,_,gp hi,rfl,.inl ⟨B,_,_,B',rfl,KA ((jj (qR (zA rfl) (qR (zA rfl) je))).trans e) (by unfold zW;omega),⟨_,rfl⟩,by rw [List.length_append,hl];rfl,λ z hz=>?_,kn.trans k'⟩⟩
   rcases List.mem_append.mp hz with hz | hz
   ·exact (hw z hz).mono (k'.ky kn.st)
   ·rw [List.mem_singleton.mp hz];exact hw')
  (λ ρ acc B _=>gf (by omega)) ⟨⟨none,rfl⟩,rfl,λ _ hw=>(by cases hw),⟨Kp.refl,s⟩⟩
 have e1:=kU e
 have s1:=kn.st.ext (Ext.one (o:=.lst acc))
 have h1:(B++[.lst acc])[B.length]? =some (.lst acc):=qZ
 have hB:n<B.length:=kn.st.lt
 have w1:∀w∈acc,jV (B++[.lst acc]) w:=λ w hw'=>(hw w hw').mono Ext.one.ky
 have k1:=kn.trans (Kn.ext kn.st (Ext.one (o:=.lst acc)))
 generalize B++[.lst acc]=C at e1 s1 h1 w1 k1
 obtain ⟨v,D,e2,hv,k2⟩:=Ih s1
 have h2:=k2.kp.get h1 (by omega)
 have e3:zY (zh (zH wx (zh (zc 2) (zp))) (zp)) [x0,x1,some (.ref n),some (zC t),x4,x5,x6] C=.ok (.ref D.length) (D++[.lst [v]]):=j5 (qR ((jj (qR (zA rfl) je)).trans e2) je)
 refine ⟨_,_,acc++[v],(zJ e1 e3).trans (Kz (yk h2) qZ (by rw [hl];unfold zW;simp)),qZ,λ w hw'=>?_,(k1.trans k2).trans (Kn.ext k2.st Ext.one.app)⟩
 rcases List.mem_append.mp hw' with hw' | hw'
 ·exact (w1 w hw').mono ((k2.ky s1).trans (Ext.one.app).ky)
 ·rw [List.mem_singleton.mp hw'];exact hv.mono (Ext.one.app).ky
noncomputable abbrev BL:Ex:=zr (zX 2 (zH Zx (zh (zc 0) (zh (zc 1) (zp))))) (zr (zX 3 (zH gK (zh (zc 2) (zp)))) (zr (qw (zj (wq true) (zH yI (zh (zc 3) (zp))) (zi (.bl true))) (zr (z8 (zi (.bl false))) (zB)) (zB)) (zr (jZ (qc (zj zL (z7 (zR 1 [2,3] (qB (zi (.int 6))) (zD 0) (zi (.bl true)) (zN (zH wB (zh (zc 1) (zh (zc 2) (zp))))))) (zY (zh (zH wx (zh (zc 2) (zp))) (zp))))) (zD 4) GB) (zB))))
theorem Ni {k:Nat}{x2 x3 x4 x5 x6:Option W}(h0:A[0]? =some (.ro (ns.map W.int))):∃y2 y3 y4 y5 B,BL [some (.ref 0),some (.int (k:Int)),x2,x3,x4,x5,x6] A=.ok (.nx [some (.ref 0),some (.int (k:Int)),y2,y3,y4,y5,x6]) B/\B[0]? =some (.ro (ns.map W.int)):=by
 obtain ⟨o,eS,hS⟩:=Nx h0 k
 have hA:=kB h0
 have h1:=yk (u:=o) h0
 generalize hn:A.length=n at *
 generalize A++[o]=A1 at *
 obtain ⟨t,A2,e2,ht,k2⟩:=Lf hS
 have h2:=k2.kp.get h1 (by omega)
 obtain ⟨r,A3,ws,e3,hr,hw,k3⟩:=RS (x0:=some (.ref 0)) (x1:=some (.int (k:Int))) (x4:=x4) (x5:=x5) (x6:=x6) k2.st ht
 have h3:=k3.kp.get h2 (by omega)
 obtain ⟨ρ',B,e4,x,y4,y5,hρ⟩:=Qb (j:=⟨λ A i=>(zT (.ref r) A).map λ ws=>ws[i]?,ws.length⟩) (st:=turn (zD 4) GB) (N:=ws.length) (I:=λ _ ρ B=>Ext A3 B/\∃y4 y5,ρ=[some (.ref 0),some (.int (k:Int)),some (.ref n),some (zC t),y4,y5,x6])
  (λ i ρ B hi ⟨x,y4,y5,hρ⟩=>by
   subst hρ
   obtain ⟨z5,B',e,x'⟩:=OE (x0:=some (.ref 0)) (x1:=some (.int (k:Int))) (x2:=some (.ref n)) (x3:=some (zC t)) (x5:=y5) (x6:=x6) ((hw _ (List.getElem_mem hi)).mono x.ky)
   exact ⟨ws[i],_,B',Lj (x.at hr) (List.getElem?_eq_getElem hi),(yt rfl).trans e,x.trans x',_,_,rfl⟩)
  (λ ρ B ⟨x,_⟩=>M4 (x.at hr) (Nat.le_refl _)) ws.length 0 [some (.ref 0),some (.int (k:Int)),some (.ref n),some (zC t),x4,x5,x6] A3 (by omega) ⟨Ext.refl,_,_,rfl⟩
 subst hρ
 refine ⟨some (.ref n),some (zC t),y4,y5,B,?_,x.at h3⟩
 refine (zQ (ρ1:=[some (.ref 0),some (.int (k:Int)),some (.ref n),x3,x4,x5,x6]) (A1:=A1) ((qz ((jj (ws:=[.ref 0,.int k]) (A1:=A) rfl).trans eS)).trans rfl)).trans ?_
 refine (zQ (ρ1:=[some (.ref 0),some (.int (k:Int)),some (.ref n),some (zC t),x4,x5,x6]) (A1:=A2) ((qz ((jj (ws:=[.ref n]) (A1:=A1) rfl).trans e2)).trans rfl)).trans ?_
 refine (zQ ((ym (A1:=A2) ((zJ ((jj (qR (zA (i:=3) rfl) je)).trans (Vy ht A2)) (qv (w:=.bl true))).trans rfl)).trans jB)).trans ?_
 exact (zQ ((yB (Qj e3 hr)).trans e4)).trans jB
noncomputable def WK:Fn:=qi 7 (WO wx wB gJ w9 Zx gK yI)
theorem N7 (A:Hx):yI [zC (jM 9 λ a b=>if a=b then 0 else 1)] A=.ok (.bl false) A:=by
 have h:jV A (zC (jM 9 λ a b=>if a=b then 0 else 1)):=VW (by decide +kernel)
 obtain ⟨b,e,hb⟩:=KP h
 cases b with
 | false=>exact e
 | true=>
  have:=(Qg (hb.mp rfl)).2.1
  exact absurd this (by decide)
theorem O0 (A:Hx):yI [.tup [.tup [.int 0]]] A=.ok (.bl true) A:=Vy (t:=[[0]]) (VI (by decide)) A
theorem Oi:Ud WK:=λ ns hl=>by
 have hs:zT (.ref 0) [.ro (ns.map W.int)]=some (ns.map W.int):=rfl
 have el:mQ qh (zS (zc 0)) [some (.ref 0),none,none,none,none,none,none] [.ro (ns.map W.int)]=.ok (.int ns.length) [.ro (ns.map W.int)]:=by
  rw [yS (yQ (w:=.ref 0) (A1:=[.ro (ns.map W.int)]) (zA rfl) hs)]
  unfold qh
  rw [List.length_map]
 have em:zj W2 (zi (.int 1)) (zj gz (mQ qh (zS (zc 0))) (zi (.int 8))) [some (.ref 0),none,none,none,none,none,none] [.ro (ns.map W.int)]=
   .ok (.int (if (if (8:Int)<ns.length then 8 else (ns.length:Int)) > 1 then (if (8:Int)<ns.length then 8 else (ns.length:Int)) else 1)) [.ro (ns.map W.int)]:=
  (zJ (qv (w:=.int 1)) ((zJ el (qv (w:=.int 8))).trans rfl)).trans rfl
 generalize hv:(if (if (8:Int)<ns.length then 8 else (ns.length:Int)) > 1 then (if (8:Int)<ns.length then 8 else (ns.length:Int)) else 1)=v at em
 have hsm:jk v=true:=by
  have:0<=v/\v<1000:=by
   rw [<- hv]
   split<;>split<;>omega
  obtain ⟨k,rfl⟩:=Int.eq_ofNat_of_zero_le this.1
  exact Sv (by omega)
 obtain ⟨ρ',B,e,h0,y1,y2,y3,y4,y5,hρ⟩:=Qb (j:=yh 0 v.toNat) (st:=turn (zD 1) BL) (N:=v.toNat) (I:=λ _ ρ B=>B[0]? =some (.ro (ns.map W.int))/\∃y1 y2 y3 y4 y5,ρ=[some (.ref 0),y1,y2,y3,y4,y5,none])
  (λ i ρ B hi ⟨h0,y1,y2,y3,y4,y5,hρ⟩=>by
   subst hρ
   obtain ⟨z2,z3,z4,z5,B',e,h0'⟩:=Ni (k:=i) (x2:=y2) (x3:=y3) (x4:=y4) (x5:=y5) (x6:=none) h0
   refine ⟨_,_,B',gp hi,(yt (ρ1:=[some (.ref 0),some (.int (i:Int)),y2,y3,y4,y5,none]) ?_).trans e,h0',_,_,_,_,_,rfl⟩
   rw [Int.zero_add];rfl)
  (λ ρ B _=>gf (by omega)) v.toNat 0 [some (.ref 0),none,none,none,none,none,none] [.ro (ns.map W.int)] (by omega) ⟨rfl,_,_,_,_,_,rfl⟩
 subst hρ
 refine ⟨B,qQ ?_⟩
 unfold WO
 refine (zQ ((yB (ZG em hsm)).trans e)).trans ?_
 have en:mQ jF (zR 1 [] (qB (zi (.int 9))) (zD 0) (zi (.bl true)) (zN (mQ jF (zR 1 [0] (qB (zi (.int 9))) (zD 0) (zi (.bl true)) (zN (q9 wO (zj qG (zc 1) (zc 0)))))))) [some (.ref 0),y1,y2,y3,y4,y5,none] B=.ok (zC (jM 9 λ a b=>if a=b then 0 else 1)) B:=by kernel_rfl
 refine (zQ ((qz en).trans rfl)).trans (z9 (qS ?_))
 refine (g8 (A1:=B) ((zJ ((jj (ws:=[.tup [.tup [.int 0]]]) (A1:=B) rfl).trans (O0 B)) (qv (w:=.bl true))).trans rfl)).trans ?_
 exact (zJ ((jj (qR (zA (i:=6) rfl) je)).trans (N7 B)) (qv (w:=.bl false))).trans rfl
end
section
variable {P:Program}{w:World}{K:Frag}{mg:Str->Option Value}{base h:Heap}
theorem LD (X:K.In h)(Gl:h.Ns mainGlobals mg)(T:Tx K){f:Addr}{fd:FuncData}(F:jd K "law" "law" Jz f fd):yi P w K mg base ku 6 f fd ["_law_script"] (wW K 1 WK):=
 o_law (k:=5) (bu X Gl T) F ((Te X Gl T).mono (by decide)) ((Sn X Gl T).mono (by decide)) ((Tp X Gl T).mono (by decide)) ((So X Gl T).mono (by decide)) ((TQ X Gl T).mono (by decide)) ((TN X Gl T).mono (by decide)) ((SV X Gl T).mono (by decide))
theorem all_mk {l:PySem.W.OpenLaw}{fa:Addr}(X:K.In h)(Gl:h.Ns mainGlobals mg)(hfa:mg "law" = some (.ref fa))(T:Tx K):
  ∃fd:FuncData,(∀(s:Shared) (v:Value),BindsTo s fd ⟨[v],[]⟩ [("_law_script",v)])/\∀base:Heap,K.In base->base.Ns mainGlobals mg->yi l.prog w K mg base ku 6 fa fd ["_law_script"] (wW K 1 WK):=by
 obtain ⟨f,fd,F,a⟩:=T.Wu
 have e:=hfa.symm.trans (PySem.W.mg_of X Gl a)
 cases e
 obtain ⟨oc,od,kV,doc,pm,an,cdv,ct,osl,rfl,lk,hcd⟩:=id F.ex
 exact ⟨_,λ s v=>.of_eq rfl,λ base kb nb=>LD X Gl T F⟩
end
end G
noncomputable def PySem.W.Fast.tw13096607800857822678:Nat:=0
noncomputable def PySem.W.Fast.tw6430253149551956116:Nat:=0
noncomputable def PySem.W.Fast.tw17015779209267050444:Nat:=0
noncomputable def PySem.W.Fast.tw10103680981726435163:Nat:=0
noncomputable def PySem.W.Fast.tw2670930332310594206:Nat:=0
noncomputable def PySem.W.Fast.tw5590353173822016559:Nat:=0
noncomputable def PySem.W.Fast.tw3234961507456700313:Nat:=0
noncomputable def PySem.W.Fast.tw2261135233916615419:Nat:=0
noncomputable def PySem.W.Fast.tw10972870956223253704:Nat:=0
open PySem PySem.W PyProof.Rows
set_option maxRecDepth 100000 in
set_option maxHeartbeats 0 in
theorem PySem.Challenge.cw_nearkinds_k01_tables_known_holds : PySem.Challenge.rw_nearkinds_k01_tables_known.Holds := by
 w_on;o_law;k_head;(case hw=>w_witness2)
 k_fill
 refine Mi.ID (l:=PySem.Challenge.rw_nearkinds_k01_tables_known) (k:=6) (x := "_law_script") G.Oi rfl rfl ⟨rfl,by decide,by decide⟩ (λ w h Y=>PySem.W.kIn_of Y) ?F
 case F=>
  intro w mg fa h KX Gl hmg
  have T:G.Tx (L2.UX KX):=by
   dsimp only [L2.UX]
   refine' ⟨?Kk,?Ko,?Yb,?Yr,?Y4,?YO,?Yz,?Kd,?Y0,?Yh,?YB,?Ym,?Yo,?Y7,?Yg,?YV,?Z7,?Kj,?YC,?Wu,?W7,?WY,?Wb,?Y6,?Wz,?YL,?WI,?Wr,?WQ,?WL,?K2,?WD,?KD,?WR,?K9,?WW,?Yw⟩
   (case Kk=>(refine' Mi.jX ?a ?l ?c ?k;(case a=>k_is);(case l=>k_is);(case c=>k_is);(case k=>k_is)))
   (case Ko=>(refine' Mi.jX ?a ?l ?c ?k;(case a=>k_is);(case l=>k_is);(case c=>k_is);(case k=>k_is)))
   (case Yb=>(refine' Mi.jX ?a ?l ?c ?k;(case a=>k_is);(case l=>k_is);(case c=>k_is);(case k=>k_is)))
   (case Yr=>(refine' Mi.jX ?a ?l ?c ?k;(case a=>k_is);(case l=>k_is);(case c=>k_is);(case k=>k_is)))
   (case Y4=>(refine' Mi.jX ?a ?l ?c ?k;(case a=>k_is);(case l=>k_is);(case c=>k_is);(case k=>k_is)))
   (case YO=>(refine' Mi.jX ?a ?l ?c ?k;(case a=>k_is);(case l=>k_is);(case c=>k_is);(case k=>k_is)))
   (case Yz=>(refine' Mi.jX ?a ?l ?c ?k;(case a=>k_is);(case l=>k_is);(case c=>k_is);(case k=>k_is)))
   (case Kd=>(refine' Mi.jX ?a ?l ?c ?k;(case a=>k_is);(case l=>k_is);(case c=>k_is);(case k=>k_is)))
   (case Y0=>(refine' Mi.jX ?a ?l ?c ?k;(case a=>k_is);(case l=>k_is);(case c=>k_is);(case k=>k_is)))
   (case Yh=>(refine' Mi.jX ?a ?l ?c ?k;(case a=>k_is);(case l=>k_is);(case c=>k_is);(case k=>k_is)))
   (case YB=>(refine' Mi.jX ?a ?l ?c ?k;(case a=>k_is);(case l=>k_is);(case c=>k_is);(case k=>k_is)))
   (case Ym=>(refine' Mi.jX ?a ?l ?c ?k;(case a=>k_is);(case l=>k_is);(case c=>k_is);(case k=>k_is)))
   (case Yo=>(refine' Mi.jX ?a ?l ?c ?k;(case a=>k_is);(case l=>k_is);(case c=>k_is);(case k=>k_is)))
   (case Y7=>(refine' Mi.jX ?a ?l ?c ?k;(case a=>k_is);(case l=>k_is);(case c=>k_is);(case k=>k_is)))
   (case Yg=>(refine' Mi.jX ?a ?l ?c ?k;(case a=>k_is);(case l=>k_is);(case c=>k_is);(case k=>k_is)))
   (case YV=>(refine' Mi.jX ?a ?l ?c ?k;(case a=>k_is);(case l=>k_is);(case c=>k_is);(case k=>k_is)))
   (case Z7=>(refine' Mi.jX ?a ?l ?c ?k;(case a=>k_is);(case l=>k_is);(case c=>k_is);(case k=>k_is)))
   (case Kj=>(refine' Mi.jX ?a ?l ?c ?k;(case a=>k_is);(case l=>k_is);(case c=>k_is);(case k=>k_is)))
   (case YC=>(refine' Mi.jX ?a ?l ?c ?k;(case a=>k_is);(case l=>k_is);(case c=>k_is);(case k=>k_is)))
   (case Wu=>(refine' Mi.jX ?a ?l ?c ?k;(case a=>k_is);(case l=>k_is);(case c=>k_is);(case k=>k_is)))
   (case W7=>k_is)
   (case WY=>k_is)
   (case Wb=>k_is)
   (case Y6=>k_is)
   (case Wz=>k_is)
   (case YL=>k_is)
   (case WI=>k_is)
   (case Wr=>k_is)
   (case WQ=>k_is)
   (case WL=>k_is)
   (case K2=>k_is)
   (case WD=>k_is)
   (case KD=>k_is)
   (case WR=>k_is)
   (case K9=>k_is)
   (case WW=>k_is)
   (case Yw=>(refine' Mi.Iq ?a;(case a=>k_is)))
  exact G.all_mk KX Gl hmg T
